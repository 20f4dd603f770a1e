import PyProof.Rows.All
import Wide.All
import OpenK.AllK
import Wide.FinOn
import Lean
import PyProof.EqAt
import PyProof.EqKinds
import PyProof.TupleCall
import PySem.Challenge.RW_grope_k07_things_moved
set_option Elab.async false
set_option linter.all false
set_option maxRecDepth 100000
set_option maxHeartbeats 4000000
namespace L2
open PySem PySem.Spec PyProof.Rows
noncomputable abbrev Key := Sum Int Str
noncomputable def keyIs : Key → Value → Bool
  | .inl k, v => Value.isInt k v
  | .inr x, v => Value.isStrOf x v
noncomputable def keyH (w : World) : Key → Int
  | .inl k => hashInt k
  | .inr x => hashStr w x
theorem keyIs_shape : ∀ {k : Key} {v : Value}, keyIs k v = true → (∃ i t, k = Sum.inl i ∧ v = Value.int i t) ∨ (∃ x t, k = Sum.inr x ∧ v = Value.str x t)
  | .inl i, v, h => by
    obtain ⟨t, e⟩ := Value.isInt_shape (k := i) (v := v) h
    exact .inl ⟨i, t, rfl, e⟩
  | .inr x, v, h => by
    obtain ⟨t, e⟩ := Value.isStrOf_shape (x := x) (v := v) h
    exact .inr ⟨x, t, rfl, e⟩
theorem keyIs_int (i : Int) (t : Tok) : keyIs (.inl i) (.int i t) = true := by simp [keyIs, Value.isInt]
theorem keyIs_str (x : Str) (t : Tok) : keyIs (.inr x) (.str x t) = true := by simp [keyIs, Value.isStrOf]
theorem key_ll (a b : Int) : decide ((Sum.inl a : Key) = Sum.inl b) = (a == b) := by
  by_cases e : a = b
  · subst e; simp
  · have h : ¬ (Sum.inl a : Key) = Sum.inl b := fun q => e (Sum.inl.inj q)
    rw [decide_eq_false h]
    exact (beq_eq_false_iff_ne.mpr e).symm
theorem key_rr (a b : Str) : decide ((Sum.inr a : Key) = Sum.inr b) = decide (a = b) := by
  by_cases e : a = b
  · subst e; simp
  · have h : ¬ (Sum.inr a : Key) = Sum.inr b := fun q => e (Sum.inr.inj q)
    rw [decide_eq_false h, decide_eq_false e]
theorem key_lr (a : Int) (b : Str) : decide ((Sum.inl a : Key) = Sum.inr b) = false := decide_eq_false (fun q => nomatch q)
theorem key_rl (a : Str) (b : Int) : decide ((Sum.inr a : Key) = Sum.inl b) = false := decide_eq_false (fun q => nomatch q)
noncomputable def mixKind (prog : Program) (w : World) : PySem.KeyKind prog w Key where
  is := keyIs
  hash := keyH w
  inj := fun v a b ha hb => by
    rcases keyIs_shape ha with ⟨i, t, rfl, rfl⟩ | ⟨x, t, rfl, rfl⟩
    · rcases keyIs_shape hb with ⟨j, u, rfl, e⟩ | ⟨y, u, rfl, e⟩
      · injection e with e1 _; rw [e1]
      · exact nomatch e
    · rcases keyIs_shape hb with ⟨j, u, rfl, e⟩ | ⟨y, u, rfl, e⟩
      · exact nomatch e
      · injection e with e1 _; rw [e1]
  byValue := fun k v h => by
    rcases keyIs_shape h with ⟨i, t, rfl, rfl⟩ | ⟨x, t, rfl, rfl⟩ <;> rfl
  pyHash := fun hv h => by
    rcases keyIs_shape hv with ⟨i, t, rfl, rfl⟩ | ⟨x, t, rfl, rfl⟩
    · exact wpAny_pyHash_int h
    · exact wpAny_pyHash_str h
  eqBool := fun hu hv h => by
    rcases keyIs_shape hu with ⟨i, t, rfl, rfl⟩ | ⟨x, t, rfl, rfl⟩
    · rcases keyIs_shape hv with ⟨j, u, rfl, rfl⟩ | ⟨y, u, rfl, rfl⟩
      · rw [key_ll] at h; exact wpAny_eqBool_int h
      · rw [key_lr] at h; exact SeqAt.EqAt.int_str i t y u _ _ _ _ h
    · rcases keyIs_shape hv with ⟨j, u, rfl, rfl⟩ | ⟨y, u, rfl, rfl⟩
      · rw [key_rl] at h; exact SeqAt.EqAt.str_int x t j u _ _ _ _ h
      · rw [key_rr] at h; exact wpAny_eqBool_str h
  «strs» := fun k x t v h => by
    rcases keyIs_shape h with ⟨i, u, rfl, e⟩ | ⟨y, u, rfl, e⟩
    · exact nomatch e
    · injection e with e1 _
      subst e1
      cases v <;> rfl
theorem mixKind_int (prog : Program) (w : World) (i : Int) (t : Tok) : (mixKind prog w).is (.inl i) (.int i t) = true := keyIs_int i t
theorem mixKind_str (prog : Program) (w : World) (x : Str) (t : Tok) : (mixKind prog w).is (.inr x) (.str x t) = true := keyIs_str x t
end L2
namespace L2
open PySem PySem.Spec PyProof.Rows
inductive V where
  | non | bl (b : Bool) | int (i : Int) | str (x : Str) | byt (b : Array UInt8) | flt (b : UInt64) | ref (a : Addr) | ty (n : String)
  deriving DecidableEq
noncomputable def RelV : V → Value → Prop
  | .non, u => u = Value.none
  | .bl b, u => u = Value.bool b
  | .int i, u => ∃ t, u = Value.int i t
  | .str x, u => ∃ t, u = Value.str x t
  | .byt b, u => ∃ t, u = Value.bytes b t
  | .flt b, u => ∃ t, u = Value.float b t
  | .ref a, u => u = Value.ref a
  | .ty n, u => u = Value.type n
noncomputable abbrev Vals : List V → List Value → Prop := Paired RelV
theorem Vals.length {xs : List V} {us : List Value} (r : Vals xs us) : xs.length = us.length := Paired.length r
theorem Vals.get : ∀ {xs : List V} {us : List Value} {i : Nat} {x : V}, Vals xs us → xs[i]? = some x → ∃ u, us[i]? = some u ∧ RelV x u
  | _, _, _, _, .nil, e => by simp at e
  | _, _, 0, _, .cons r _, e => by simp at e; subst e; exact ⟨_, rfl, r⟩
  | _, _, i + 1, x, .cons _ t, e => by
    obtain ⟨u, h1, h2⟩ := Vals.get (i := i) (x := x) t (by simpa using e)
    exact ⟨u, by simpa using h1, h2⟩
theorem Vals.append : ∀ {xs ys : List V} {us ws : List Value}, Vals xs us → Vals ys ws → Vals (xs ++ ys) (us ++ ws)
  | _, _, _, _, .nil, s => s
  | _, _, _, _, .cons r t, s => .cons r (Vals.append t s)
theorem Vals.take : ∀ {xs : List V} {us : List Value} (n : Nat), Vals xs us → Vals (xs.take n) (us.take n)
  | _, _, 0, _ => .nil
  | _, _, _ + 1, .nil => .nil
  | _, _, n + 1, .cons r t => .cons r (Vals.take n t)
theorem Vals.drop : ∀ {xs : List V} {us : List Value} (n : Nat), Vals xs us → Vals (xs.drop n) (us.drop n)
  | _, _, 0, r => r
  | _, _, _ + 1, .nil => .nil
  | _, _, n + 1, .cons _ t => Vals.drop n t
noncomputable def RelO : Option V → Option Value → Prop
  | some v, some u => RelV v u
  | none, none => True
  | _, _ => False
noncomputable def KV {κ : Type} : List (κ × V) → List (κ × Value) → Prop := Paired fun (p : κ × V) (q : κ × Value) => p.1 = q.1 ∧ RelV p.2 q.2
noncomputable def kV : Key → V
  | .inl i => .int i
  | .inr x => .str x
inductive HO where
  /-- a list -/
  | lst (xs : List V)
  /-- a tuple (never changes) -/
  | tup (xs : List V)
  /-- a dict whose keys are ints and texts; one whose keys are tuples of ints and texts (the empty one is both) -/
  | dK (kvs : List (Key × V)) | dT (kvs : List (List Key × V))
  /-- a set of ints: its members, its size -/
  | set (S : Int → Bool) (n : Nat)
  /-- an instance of the class at C, its dict at dx, its attributes -/
  | ins (C dx : Addr) (fs : List (Str × V))
  /-- the dict of the instance at x -/
  | own (x : Addr)
  /-- the dict of an exception -/
  | xd (fs : List (Str × V))
  /-- a bound method, f of x -/
  | met (f x : Addr)
  /-- a range object lo, lo + 1, .. below hi -/
  | rng (lo hi : Int)
  /-- a thing that is known to the object (the script; a dict while a loop walks it): read, never written while it is so -/
  | frz (o : Obj) (u : HO)
  /-- a code object's table -/
  | tbl (ps : Array Value)
  /-- any other thing, by what is true of its one object (a def of one's own: SetO a S n := HO.ext fun h => ..) -/
  | ext (φ : Heap → Prop)
noncomputable abbrev Hp := Addr → Option HO
noncomputable def upd (H : Hp) (a : Addr) (o : HO) : Hp := fun b => if b = a then some o else H b
theorem upd_same {H : Hp} {a : Addr} {o : HO} : upd H a o a = some o := by unfold upd; rw [if_pos rfl]
theorem upd_ne {H : Hp} {a b : Addr} {o : HO} (h : b ≠ a) : upd H a o b = H b := by unfold upd; rw [if_neg h]
theorem upd_upd {H : Hp} {a : Addr} {o u : HO} : upd (upd H a o) a u = upd H a u := by
  funext b; unfold upd; split <;> rfl
theorem ne_of {H : Hp} {a b : Addr} {o u : HO} (h : H a = some o) (h' : H b = some u) (d : o ≠ u) : a ≠ b := by
  intro e; subst e; rw [h] at h'; exact d (Option.some.inj h')
theorem ne_of_none {H : Hp} {a b : Addr} {o : HO} (h : H a = some o) (h' : H b = none) : a ≠ b := by
  intro e; subst e; rw [h] at h'; cases h'
section
variable (P : Program) (w : World)
noncomputable def ObjOk (H : Hp) (h : Heap) (a : Addr) : HO → Prop
  | .lst xs => xs.length ≤ sizeLine ∧ ∃ (its : List Value) (n : Nat), Vals xs its ∧ h.get? a = some { cls := .type "list", data := .seq its.toArray n }
  | .tup xs => xs.length ≤ sizeLine ∧ ∃ its : List Value, Vals xs its ∧ IsTup h a its.toArray
  | .dK kvs => kvs.length ≤ sizeLine ∧ (a == sysModules) = false ∧ ∃ vs, KV kvs vs ∧ h.DictOf (mixKind P w) a vs
  | .dT kvs => kvs.length ≤ sizeLine ∧ (a == sysModules) = false ∧ ∃ xs : List (List Key × Addr × Value),
      Paired (fun (p : List Key × V) (q : List Key × Addr × Value) => p.1 = q.1 ∧ H q.2.1 = some (.tup (p.1.map kV)) ∧ RelV p.2 q.2.2) kvs xs ∧
      ∃ o es ep, h.get? a = some o ∧ o.ExactDict ∧ o.data = .dict es ep ∧ es.toList = xs.map (entryOfKey (tupleKind (mixKind P w))) ∧ (xs.map (·.1)).Nodup
  | .set S n => h.SetOf (intKind P w) a S n
  | .ins C dx fs => H dx = some (.own a) ∧ fs.length ≤ 1000 ∧ dx ≠ a ∧ h.get? a = some (PySem.W.instObj C dx) ∧
      ∃ mA, h.Ns1 dx mA ∧ (∀ f, RelO (fs.lookup f) (mA f)) ∧ PySem.Within mA (fs.map (·.1))
  | .own _ => ∃ o, h.get? a = some o
  | .xd fs => ∃ mA, h.Ns1 a mA ∧ ∀ f, RelO (fs.lookup f) (mA f)
  | .rng lo hi => ∃ t u v, h.get? a = some { cls := .type "range", data := .fields #[.int lo t, .int hi u, .int 1 v] }
  | .frz o u => h.get? a = some o ∧ ObjOk H h a u
  | .tbl ps => h.get? a = some { cls := .none, data := .fields ps }
  | .met f x => h.get? a = some (PySem.W.methodObj (.ref f) (.ref x))
  | .ext φ => φ h ∧ (∃ o, h.get? a = some o) ∧ ∀ h1 h2 : Heap, φ h1 → (∀ o, h1.get? a = some o → h2.get? a = some o) → φ h2
noncomputable def HOk (H : Hp) (h : Heap) : Prop := ∀ a o, H a = some o → ObjOk P w H h a o
end
section
variable {P : Program} {w : World} {H H' : Hp} {h h' : Heap} {a : Addr} {o : HO}
theorem ObjOk.lt (x : ObjOk P w H h a o) : a < h.objs.size := by
  cases o with
  | lst xs => obtain ⟨_, _, _, _, e⟩ := x; exact Heap.lt_size e
  | tup xs => obtain ⟨_, _, _, p⟩ := x; exact p.lt
  | dK kvs => obtain ⟨_, _, _, _, o, _, _, e, _⟩ := x; exact Heap.lt_size e
  | dT kvs => obtain ⟨_, _, _, _, o, _, _, e, _⟩ := x; exact Heap.lt_size e
  | set S n => obtain ⟨o, _, _, _, e, _⟩ := x; exact Heap.lt_size e
  | ins C dx fs => obtain ⟨_, _, _, e, _⟩ := x; exact Heap.lt_size e
  | own y => obtain ⟨_, e⟩ := x; exact Heap.lt_size e
  | xd fs => obtain ⟨_, ⟨_, _, _, e, _⟩, _⟩ := x; exact Heap.lt_size e
  | rng lo hi => obtain ⟨_, _, _, e⟩ := x; exact Heap.lt_size e
  | frz ob u => obtain ⟨e, _⟩ := x; exact Heap.lt_size e
  | tbl ps => exact Heap.lt_size (show h.get? a = some _ from x)
  | met f y => exact Heap.lt_size (show h.get? a = some _ from x)
  | ext φ => obtain ⟨_, ⟨_, e⟩, _⟩ := x; exact Heap.lt_size e
theorem Paired.mapP {α β : Type} {F G : α → β → Prop} : ∀ {l₁ : List α} {l₂ : List β}, Paired F l₁ l₂ → (∀ a b, F a b → G a b) → Paired G l₁ l₂
  | _, _, .nil, _ => .nil
  | _, _, .cons r t, f => .cons (f _ _ r) (Paired.mapP t f)
theorem ObjOk.stay (x : ObjOk P w H h a o) (k : ∀ b u, (b = a ∨ H b = some (.own a)) → h.get? b = some u → h'.get? b = some u)
    (ho : ∀ b, H b = some (.own a) → H' b = some (.own a)) (ht : ∀ b xs, H b = some (.tup xs) → H' b = some (.tup xs)) : ObjOk P w H' h' a o := by
  induction o with
  | lst xs => obtain ⟨z, its, n, r, e⟩ := x; exact ⟨z, its, n, r, k _ _ (.inl rfl) e⟩
  | tup xs => obtain ⟨z, its, r, ob, e, c⟩ := x; exact ⟨z, its, r, ob, k _ _ (.inl rfl) e, c⟩
  | dK kvs => obtain ⟨z, y, vs, r, ob, es, ep, e, c⟩ := x; exact ⟨z, y, vs, r, ob, es, ep, k _ _ (.inl rfl) e, c⟩
  | dT kvs =>
    obtain ⟨z, y, xs, r, ob, es, ep, e, c⟩ := x
    exact ⟨z, y, xs, Paired.mapP r fun p q z => ⟨z.1, ht _ _ z.2.1, z.2.2⟩, ob, es, ep, k _ _ (.inl rfl) e, c⟩
  | set S n => obtain ⟨ob, es, ep, t, e, c⟩ := x; exact ⟨ob, es, ep, t, k _ _ (.inl rfl) e, c⟩
  | ins C dx fs =>
    obtain ⟨d, z, ne, e, mA, ⟨od, es, ep, e2, c⟩, r⟩ := x
    exact ⟨ho _ d, z, ne, k _ _ (.inl rfl) e, mA, ⟨od, es, ep, k _ _ (.inr d) e2, c⟩, r⟩
  | own y => obtain ⟨ob, e⟩ := x; exact ⟨ob, k _ _ (.inl rfl) e⟩
  | xd fs => obtain ⟨mA, ⟨od, es, ep, e, c⟩, r⟩ := x; exact ⟨mA, ⟨od, es, ep, k _ _ (.inl rfl) e, c⟩, r⟩
  | rng lo hi => obtain ⟨t, u, v, e⟩ := x; exact ⟨t, u, v, k _ _ (.inl rfl) e⟩
  | frz ob u ih => obtain ⟨e, q⟩ := x; exact ⟨k _ _ (.inl rfl) e, ih q⟩
  | tbl ps =>
    have e : h.get? a = some { cls := .none, data := .fields ps } := x
    show h'.get? a = some { cls := .none, data := .fields ps }
    exact k a _ (.inl rfl) e
  | met f y =>
    have e : h.get? a = some (PySem.W.methodObj (.ref f) (.ref y)) := x
    show h'.get? a = some (PySem.W.methodObj (.ref f) (.ref y))
    exact k a _ (.inl rfl) e
  | ext φ => obtain ⟨p, ⟨o, e⟩, st⟩ := x; exact ⟨st _ _ p fun o q => k _ _ (.inl rfl) q, ⟨o, k _ _ (.inl rfl) e⟩, st⟩
theorem HOk.lt (x : HOk P w H h) (e : H a = some o) : a < h.objs.size := (x a o e).lt
theorem HOk.fresh (x : HOk P w H h) (e : h.objs.size ≤ a) : H a = none := by
  cases q : H a with
  | none => rfl
  | some u => exact absurd (Nat.lt_of_lt_of_le (x.lt q) e) (Nat.lt_irrefl _)
theorem HOk.kept (x : HOk P w H h) (k : ∀ b u, h.get? b = some u → h'.get? b = some u) : HOk P w H h' := fun a o e =>
  (x a o e).stay (fun b u _ q => k b u q) (fun _ q => q) fun _ _ q => q
theorem HOk.laid (x : HOk P w H h) (k : ∀ b u, h.get? b = some u → h'.get? b = some u) (hp : h.objs.size ≤ a) (new : ObjOk P w (upd H a o) h' a o) : HOk P w (upd H a o) h' := fun b u e => by
  have hn := x.fresh hp
  by_cases hb : b = a
  · subst hb; rw [upd_same] at e; cases e; exact new
  · rw [upd_ne hb] at e
    exact (x b u e).stay (fun c v _ q => k c v q) (fun c q => by rw [upd_ne (ne_of_none q hn)]; exact q) fun c xs q => by rw [upd_ne (ne_of_none q hn)]; exact q
end
noncomputable def Rd (H : Hp) (a : Addr) (u : HO) : Prop := H a = some u ∨ ∃ o, H a = some (.frz o u)
theorem Rd.ok {P : Program} {w : World} {H : Hp} {h : Heap} {a : Addr} {u : HO} (r : Rd H a u) (x : HOk P w H h) : ObjOk P w H h a u := by
  rcases r with r | ⟨o, r⟩
  · exact x a u r
  · obtain ⟨_, q⟩ := x a _ r
    exact q
noncomputable def Mut : Option HO → Prop
  | some (.lst _) => True
  | some (.dK _) => True
  | some (.dT _) => True
  | some (.set _ _) => True
  | some (.ins _ _ _) => True
  | some (.ext _) => True
  | _ => False
section
variable {P : Program} {w : World} {H : Hp} {h h' : Heap} {x e : Addr} {o' : HO}
theorem HOk.write (ok : HOk P w H h) (mu : Mut (H x)) (he : e = x ∨ H e = some (.own x)) (k : ∀ b u, b ≠ e → h.get? b = some u → h'.get? b = some u) (heo : ∃ u, h'.get? e = some u)
    (new : ObjOk P w (upd H x o') h' x o') : HOk P w (upd H x o') h' := fun b u q => by
  have nown : ∀ c y, H c = some (.own y) → c ≠ x := fun c y r z => by subst z; rw [r] at mu; exact mu
  have ntup : ∀ c xs, H c = some (.tup xs) → c ≠ x := fun c xs r z => by subst z; rw [r] at mu; exact mu
  by_cases hb : b = x
  · subst hb; rw [upd_same] at q; cases q; exact new
  · rw [upd_ne hb] at q
    by_cases hbe : b = e
    · have q' : H b = some (.own x) := by
        rcases he with z | z
        · exact absurd (hbe.trans z) hb
        · rw [hbe]; exact z
      rw [q] at q'; cases q'
      obtain ⟨v, hv⟩ := heo
      exact ⟨v, by rw [hbe]; exact hv⟩
    · refine (ok b u q).stay (fun c v hc r => k c v ?_ r) (fun c r => by rw [upd_ne (nown c b r)]; exact r) fun c xs r => by rw [upd_ne (ntup c xs r)]; exact r
      rcases hc with rfl | hc
      · exact hbe
      · rintro rfl
        rcases he with z | z
        · exact nown c b hc z
        · rw [hc] at z; cases z; exact hb rfl
end
structure Un (fs ex : List Addr) (H H' : Hp) (h h' : Heap) : Prop where
  keep : ∀ b o, h.get? b = some o → H b = none → b ∉ fs → b ∉ ex → h'.get? b = some o
  slot : ∀ b o, h.get? b = some o → H b = none → b ∈ fs → b ∉ ex → ∃ sl, h'.get? b = some { o with slots := sl }
  free : ∀ b o, h.get? b = some o → H b = none → b ∉ ex → H' b = none
  there : ∀ b o, h.get? b = some o → b ∉ ex → ∃ o', h'.get? b = some o'
  tups : ∀ b xs, H b = some (.tup xs) → H' b = some (.tup xs)
  frzs : ∀ b o u, H b = some (.frz o u) → H' b = some (.frz o u)
  tbls : ∀ b ps, H b = some (.tbl ps) → ∃ more, H' b = some (.tbl (ps ++ more))
section
variable {fs fs' ex ex' : List Addr} {H H1 H2 : Hp} {h h1 h2 h' : Heap} {a x e : Addr} {o : HO}
theorem Un.any (u : Un fs ex H H1 h h1) {b : Addr} {ob : Obj} (q : h.get? b = some ob) (n : H b = none) (hx : b ∉ ex) : ∃ sl, h1.get? b = some { ob with slots := sl } := by
  by_cases hb : b ∈ fs
  · exact u.slot b ob q n hb hx
  · exact ⟨ob.slots, u.keep b ob q n hb hx⟩
theorem Un.kept (k : ∀ b u, h.get? b = some u → h'.get? b = some u) : Un fs ex H H h h' :=
  ⟨fun b ob q _ _ _ => k b ob q, fun b ob q _ _ _ => ⟨ob.slots, k b ob q⟩, fun _ _ _ n _ => n, fun b ob q _ => ⟨ob, k b ob q⟩, fun _ _ q => q, fun _ _ _ q => q, fun _ ps q => ⟨#[], by rw [q]; simp⟩⟩
theorem Un.refl : Un fs ex H H h h := Un.kept fun _ _ q => q
theorem Un.laid (k : ∀ b u, h.get? b = some u → h'.get? b = some u) (hp : h.objs.size ≤ a) (hn : H a = none) : Un fs ex H (upd H a o) h h' where
  keep := fun b u q _ _ _ => k b u q
  slot := fun b u q _ _ _ => ⟨u.slots, k b u q⟩
  free := fun b u q n _ => by rw [upd_ne (Nat.ne_of_lt (Nat.lt_of_lt_of_le (Heap.lt_size q) hp))]; exact n
  there := fun b u q _ => ⟨u, k b u q⟩
  tups := fun b xs q => by rw [upd_ne (ne_of_none q hn)]; exact q
  frzs := fun b u xs q => by rw [upd_ne (ne_of_none q hn)]; exact q
  tbls := fun b ps q => ⟨#[], by rw [upd_ne (ne_of_none q hn), q]; simp⟩
theorem Un.write (mu : Mut (H x)) (he : e = x ∨ H e = some (.own x)) (k : ∀ b u, b ≠ e → h.get? b = some u → h'.get? b = some u) (heo : ∃ u, h'.get? e = some u) : Un fs ex H (upd H x o) h h' := by
  have hx : ∀ b, H b = none → b ≠ x := fun b n z => by subst z; rw [n] at mu; exact mu
  have hb : ∀ b, H b = none → b ≠ e := fun b n z => by
    subst z
    rcases he with r | r
    · exact hx b n r
    · rw [n] at r; cases r
  have hm : ∀ b u, H b = some u → ¬ Mut (some u) → b ≠ x := fun b u q nm z => by subst z; rw [q] at mu; exact nm mu
  refine ⟨fun b u q n _ _ => k b u (hb b n) q, fun b u q n _ _ => ⟨u.slots, k b u (hb b n) q⟩, fun b u q n _ => by rw [upd_ne (hx b n)]; exact n, fun b u q _ => ?_,
    fun b xs q => by rw [upd_ne (hm b _ q fun z => z)]; exact q, fun b u xs q => by rw [upd_ne (hm b _ q fun z => z)]; exact q, fun b ps q => ⟨#[], by rw [upd_ne (hm b _ q fun z => z), q]; simp⟩⟩
  by_cases hbe : b = e
  · subst hbe; exact heo
  · exact ⟨u, k b u hbe q⟩
end
noncomputable def trk (h : Heap) (H : Hp) : List Addr := (List.range h.objs.size).filter fun a => (H a).isSome
noncomputable def hidT (h : Heap) (H : Hp) : Heap := PySem.W.hideAll h (trk h H)
theorem hidT_size (h : Heap) (H : Hp) : (hidT h H).objs.size = h.objs.size := PySem.W.hideAll_size _ _
theorem hidT_get {h : Heap} {H : Hp} {b : Addr} {o : Obj} (e : h.get? b = some o) (n : H b = none) : (hidT h H).get? b = some o :=
  PySem.W.hideAll_get _ e fun hm => by
    have q : (H b).isSome = true := (List.mem_filter.mp hm).2
    rw [n] at q; simp at q
theorem of_hidT {h : Heap} {H : Hp} {b : Addr} {o : Obj} (e : (hidT h H).get? b = some o) : h.get? b = some o ∧ H b = none := by
  have e' : h.get? b = some o := PySem.W.of_hideAll (trk h H) e
  refine ⟨e', ?_⟩
  cases q : H b with
  | none => rfl
  | some x =>
    have hm : b ∈ trk h H := List.mem_filter.mpr ⟨List.mem_range.mpr (Heap.lt_size e'), by simp [q]⟩
    have z : (hidT h H).get? b = none := PySem.W.hideAll_none (trk h H) hm
    rw [z] at e; cases e
end L2
namespace L2
open PySem PySem.Spec PyProof.Rows
structure Mod (K : PySem.W.Frag) (mg : Str → Option Value) (base : Heap) : Prop where
  kin : K.In base
  glob : base.Ns mainGlobals mg
  blt : ∃ mb, base.Ns builtinsNs mb ∧ ∀ x : Str, x ≠ "__name__" → mb x = bootBuiltins x
  nolimit : base.NoLimit
structure Cx where
  prog : Program
  w : World
  K : PySem.W.Frag
  mg : Str → Option Value
  base : Heap
  A : Around
  N : List Str
  s₀ : Shared
  H₀ : Hp
  env : Env
  outer : List Env
  stack : List Env
  ex : List Addr
  fn : Str → Bool
  calm : Bool
  pn : List (Addr × Obj)
  xe : Value → Shared → Prop
noncomputable def frs (l : List Env) : List Addr := l.filterMap (·.frame)
noncomputable abbrev Cx.fs (X : Cx) : List Addr := frs X.outer
noncomputable def Vis (sc : Scope) (x : Str) : Prop := sc.names.lookup x = some .local ∨ sc.names.lookup x = some .cell ∨ sc.names.lookup x = some .free
noncomputable def Loc (sc : Scope) (x : Str) : Prop := sc.names.lookup x = some .local ∨ sc.names.lookup x = some .cell
noncomputable def Look (env : Env) (h : Heap) (m : Str → Option Value) (x : Str) (u : Value) : Prop :=
  (env.kindOf x = some .local ∧ m x = some u) ∨ ((env.kindOf x = some .cell ∨ env.kindOf x = some .free) ∧ ∃ c, env.cells.lookup x = some c ∧ h.IsCell c (some u))
structure Cx.Ok (X : Cx) : Prop where
  mod : Mod X.K X.mg X.base
  kind : X.env.scope.kind = .function
  glob : X.env.globals = mainGlobals
  blt : X.env.builtins = builtinsNs
  above : X.s₀.heap.objs.size ≤ X.env.locals
  inj : ∀ x y c, X.env.cells.lookup x = some c → X.env.cells.lookup y = some c → x = y
  has : ∀ x, (X.env.kindOf x = some .cell ∨ X.env.kindOf x = some .free) → ∃ c, X.env.cells.lookup x = some c
  cab : ∀ x c, X.fn x = true → X.env.cells.lookup x = some c → X.s₀.heap.objs.size ≤ c
  hd : X.calm = true → X.A.handled = none
  frames : X.A.frames = some X.stack
  stk : X.stack = X.outer ∨ (X.stack = X.env :: X.outer ∧ X.env.frame = some X.env.locals)
  exf : ∀ b ∈ X.ex, b ≠ X.env.locals ∧ ∀ x c, X.env.cells.lookup x = some c → c ≠ b
  bs : ∀ b o, X.base.get? b = some o → X.s₀.heap.get? b = some o ∧ X.H₀ b = none
  bsz : X.base.objs.size ≤ X.s₀.heap.objs.size
  noex : ∀ b o, X.base.get? b = some o → b ∉ X.ex
  exfs : ∀ b ∈ X.ex, b ∉ X.fs
  funs : X.s₀.heap.FunFrames X.base X.outer
  frf : ∀ b ∈ X.fs, X.H₀ b = none
structure Inv (X : Cx) (pins : List (Addr × Obj)) (σ : List (Option V)) (H : Hp) (s : Shared) : Prop where
  ok : X.Ok
  os : s.os = X.s₀.os
  bare : AllBare s.gens
  base : Un X.fs X.ex X.H₀ H X.s₀.heap s.heap
  loc : ∃ m, s.heap.Ns X.env.locals m ∧ ∀ (i : Nat) (x : Str) (v : V), X.N[i]? = some x → σ[i]? = some (some v) → Vis X.env.scope x → ∃ u, RelV v u ∧ Look X.env s.heap m x u
  cell : ∀ x c, X.env.cells.lookup x = some c → ∃ v, s.heap.IsCell c v
  free : H X.env.locals = none
  freeC : ∀ x c, X.env.cells.lookup x = some c → H c = none
  pin : ∀ p ∈ X.pn ++ pins, s.heap.get? p.1 = some p.2 ∧ H p.1 = none ∧ p.1 ≠ X.env.locals ∧ p.1 ∉ X.fs ∧ ∀ v, p.2.data ≠ .cell v
  hok : HOk X.prog X.w H s.heap
  len : σ.length = X.N.length
section
variable {X : Cx} {pins : List (Addr × Obj)} {σ : List (Option V)} {H H' : Hp} {s : Shared} {h' : Heap}
theorem Cx.Ok.nofr (ok : X.Ok) {b : Addr} {o : Obj} (e : X.base.get? b = some o) : b ∉ X.fs := fun hb => by
  have := (ok.funs.mem hb).1
  rw [e] at this; cases this
theorem Inv.bs (I : Inv X pins σ H s) : ∀ b o, X.base.get? b = some o → s.heap.get? b = some o ∧ H b = none := fun b o e =>
  ⟨I.base.keep b o (I.ok.bs b o e).1 (I.ok.bs b o e).2 (I.ok.nofr e) (I.ok.noex b o e), I.base.free b o (I.ok.bs b o e).1 (I.ok.bs b o e).2 (I.ok.noex b o e)⟩
theorem Inv.bk (I : Inv X pins σ H s) : ∀ b o, X.base.get? b = some o → s.heap.get? b = some o := fun b o e => (I.bs b o e).1
theorem Inv.mod (I : Inv X pins σ H s) : Mod X.K X.mg X.base := I.ok.mod
theorem Inv.kIn (I : Inv X pins σ H s) : X.K.In s.heap := I.ok.mod.kin.keeps I.bk
theorem Inv.lt (I : Inv X pins σ H s) : X.env.locals < s.heap.objs.size := let ⟨_, hn, _⟩ := I.loc; hn.lt
theorem Inv.sz (I : Inv X pins σ H s) : X.s₀.heap.objs.size ≤ s.heap.objs.size := Nat.le_trans I.ok.above (Nat.le_of_lt I.lt)
theorem Inv.nofs (I : Inv X pins σ H s) {a : Addr} (h : s.heap.objs.size ≤ a) : a ∉ X.fs := fun hb => by
  obtain ⟨_, o, ho, _⟩ := I.ok.funs.mem hb
  exact absurd (Nat.lt_of_lt_of_le (Heap.lt_size ho) (Nat.le_trans I.sz h)) (Nat.lt_irrefl _)
theorem Inv.cne (I : Inv X pins σ H s) : ∀ x c, X.env.cells.lookup x = some c → c ≠ X.env.locals := fun x c e z => by
  obtain ⟨v, o, ho, hd⟩ := I.cell x c e
  obtain ⟨m, ⟨o', es, ep, ho', hd', _⟩, _⟩ := I.loc
  rw [z, ho'] at ho; cases ho; rw [hd'] at hd; cases hd
theorem Inv.funs (I : Inv X pins σ H s) : s.heap.FunFrames X.base X.outer := by
  have all : ∀ (l : List Env), (∀ b ∈ frs l, b ∈ X.fs) → X.s₀.heap.FunFrames X.base l → s.heap.FunFrames X.base l := by
    intro l
    induction l with
    | nil => intro _ _; trivial
    | cons env r ih =>
      intro hs hl
      obtain ⟨hk, ⟨L, o, hf, hn, ho, hd⟩, hr⟩ := hl
      have hL : L ∈ X.fs := hs L (by unfold frs; rw [List.filterMap_cons, hf]; exact List.mem_cons_self)
      obtain ⟨sl, e⟩ := I.base.slot L o ho (I.ok.frf L hL) hL fun z => I.ok.exfs L z hL
      exact ⟨hk, ⟨L, _, hf, hn, e, hd⟩, ih (fun b hb => hs b (by unfold frs; rw [List.filterMap_cons, hf]; exact List.mem_cons_of_mem _ hb)) hr⟩
  exact all X.outer (fun _ hb => hb) I.ok.funs
theorem Inv.stack (I : Inv X pins σ H s) : s.heap.FunFrames X.base X.stack := by
  rcases I.ok.stk with e | ⟨e, hf⟩
  · rw [e]; exact I.funs
  · rw [e]
    obtain ⟨m, hn, _⟩ := I.loc
    refine .cons (by rw [I.ok.kind]; decide) hf hn ?_ I.funs
    exact Heap.get?_none_of_le (Nat.le_trans I.ok.bsz I.ok.above)
theorem Inv.stkSub (I : Inv X pins σ H s) : ∀ b ∈ frs X.stack, b ∈ X.env.locals :: X.fs := fun b hb => by
  rcases I.ok.stk with e | ⟨e, hf⟩
  · rw [e] at hb; exact List.mem_cons_of_mem _ hb
  · rw [e] at hb
    unfold frs at hb
    rw [List.filterMap_cons, hf] at hb
    exact hb
theorem Inv.stkFree (I : Inv X pins σ H s) : ∀ b ∈ frs X.stack, H b = none := fun b hb => by
  rcases List.mem_cons.mp (I.stkSub b hb) with e | hb
  · rw [e]; exact I.free
  · obtain ⟨_, o, ho, _⟩ := I.ok.funs.mem hb
    exact I.base.free b o ho (I.ok.frf b hb) fun z => I.ok.exfs b z hb
theorem Inv.step {g' : Array GenState} {t' : Nat} {d' : Drawn} {ch : List Addr} (I : Inv X pins σ H s)
    (hch : ∀ b ∈ ch, (b ∈ X.ex ∨ X.s₀.heap.objs.size ≤ b) ∧ b ≠ X.env.locals ∧ (∀ x c, X.env.cells.lookup x = some c → c ≠ b) ∧ ∀ p ∈ X.pn ++ pins, p.1 ≠ b)
    (keep : ∀ b o, b ≠ X.env.locals → b ∉ X.fs → b ∉ ch → s.heap.get? b = some o → H b = none → h'.get? b = some o)
    (slot : ∀ b o, b ≠ X.env.locals → b ∈ X.fs → b ∉ ch → s.heap.get? b = some o → H b = none → ∃ sl, h'.get? b = some { o with slots := sl }) (free : ∀ b o, b ∉ ch → s.heap.get? b = some o → H b = none → H' b = none)
    (there : ∀ b o, b ∉ ch → s.heap.get? b = some o → ∃ o', h'.get? b = some o')
    (tups : ∀ b xs, H b = some (.tup xs) → H' b = some (.tup xs)) (frzs : ∀ b o u, H b = some (.frz o u) → H' b = some (.frz o u)) (tbls : ∀ b ps, H b = some (.tbl ps) → ∃ more, H' b = some (.tbl (ps ++ more)))
    (ns : ∀ m, s.heap.Ns X.env.locals m → h'.Ns X.env.locals m) (hok : HOk X.prog X.w H' h') (hg : AllBare g') :
    Inv X pins σ H' { s with heap := h', gens := g', drawn := d', toks := t' } := by
  have neL : ∀ b o, X.s₀.heap.get? b = some o → b ≠ X.env.locals := fun b o e => Nat.ne_of_lt (Nat.lt_of_lt_of_le (Heap.lt_size e) I.ok.above)
  have neC : ∀ b o, X.s₀.heap.get? b = some o → b ∉ X.ex → b ∉ ch := fun b o e hx hb => by
    rcases (hch b hb).1 with z | z
    · exact hx z
    · exact absurd (Nat.lt_of_lt_of_le (Heap.lt_size e) z) (Nat.lt_irrefl _)
  have cellK : ∀ x c, X.env.cells.lookup x = some c → ∀ v, s.heap.IsCell c v → h'.IsCell c v := fun x c e v ⟨o, ho, hd⟩ => by
    have nch : c ∉ ch := fun z => (hch c z).2.2.1 x c e rfl
    by_cases hc : c ∈ X.fs
    · obtain ⟨sl, q⟩ := slot c o (I.cne x c e) hc nch ho (I.freeC x c e)
      exact ⟨_, q, hd⟩
    · exact ⟨o, keep c o (I.cne x c e) hc nch ho (I.freeC x c e), hd⟩
  refine ⟨I.ok, I.os, hg, ⟨fun b o e n hb hx => ?_, fun b o e n hb hx => ?_, fun b o e n hx => ?_, fun b o e hx => ?_, fun b xs e => tups b xs (I.base.tups b xs e), fun b o xs e => frzs b o xs (I.base.frzs b o xs e), fun b ps e => ?_⟩, ?_, fun x c e => ?_, ?_, fun x c e => ?_, fun p hp => ?_, hok, I.len⟩
  · exact keep b o (neL b o e) hb (neC b o e hx) (I.base.keep b o e n hb hx) (I.base.free b o e n hx)
  · obtain ⟨sl, e1⟩ := I.base.slot b o e n hb hx
    obtain ⟨sl', e2⟩ := slot b _ (neL b o e) hb (neC b o e hx) e1 (I.base.free b o e n hx)
    exact ⟨sl', e2⟩
  · obtain ⟨o', e1⟩ := I.base.there b o e hx
    exact free b o' (neC b o e hx) e1 (I.base.free b o e n hx)
  · obtain ⟨o', e1⟩ := I.base.there b o e hx
    exact there b o' (neC b o e hx) e1
  · obtain ⟨m1, e1⟩ := I.base.tbls b ps e
    obtain ⟨m2, e2⟩ := tbls b _ e1
    exact ⟨m1 ++ m2, by rw [e2, Array.append_assoc]⟩
  · obtain ⟨m, hn, hl⟩ := I.loc
    refine ⟨m, ns m hn, fun i x v e1 e2 e3 => ?_⟩
    obtain ⟨u, r, l⟩ := hl i x v e1 e2 e3
    refine ⟨u, r, ?_⟩
    rcases l with l | ⟨k, c, e, z⟩
    · exact .inl l
    · exact .inr ⟨k, c, e, cellK x c e _ z⟩
  · obtain ⟨v, z⟩ := I.cell x c e
    exact ⟨v, cellK x c e v z⟩
  · obtain ⟨m, ⟨o, _, _, ho, _⟩, _⟩ := I.loc
    exact free _ o (fun z => (hch _ z).2.1 rfl) ho I.free
  · obtain ⟨v, o, ho, hd⟩ := I.cell x c e
    exact free c o (fun z => (hch c z).2.2.1 x c e rfl) ho (I.freeC x c e)
  · obtain ⟨e, n, ne, nf, d⟩ := I.pin p hp
    have nch : p.1 ∉ ch := fun z => (hch p.1 z).2.2.2 p hp rfl
    exact ⟨keep p.1 p.2 ne nf nch e n, free p.1 p.2 nch e n, ne, nf, d⟩
theorem Inv.un {t' : Nat} (I : Inv X pins σ H s) (u : Un X.fs [] H H' s.heap h') (hok : HOk X.prog X.w H' h') : Inv X pins σ H' { s with heap := h', toks := t' } := by
  obtain ⟨m, ⟨o, es, ep, ho, r⟩, _⟩ := id I.loc
  obtain ⟨sl, hL⟩ := u.any ho I.free (by simp)
  exact I.step (g' := s.gens) (d' := s.drawn) (ch := []) (fun _ z => nomatch z) (fun b o _ hb _ e n => u.keep b o e n hb (by simp)) (fun b o _ hb _ e n => u.slot b o e n hb (by simp)) (fun b o _ e n => u.free b o e n (by simp)) (fun b o _ e => u.there b o e (by simp)) u.tups u.frzs u.tbls (fun m' hm => by
    obtain ⟨o', es', ep', ho', r'⟩ := hm
    rw [ho] at ho'; cases ho'
    exact ⟨_, es', ep', hL, r'⟩) hok I.bare
theorem Inv.call {g' : Array GenState} {t' : Nat} {d' : Drawn} {ch : List Addr} (I : Inv X pins σ H s) (u : Un (frs X.stack) ch H H' s.heap h') (hok : HOk X.prog X.w H' h') (hg : AllBare g')
    (hch : ∀ b ∈ ch, (b ∈ X.ex ∨ X.s₀.heap.objs.size ≤ b) ∧ b ≠ X.env.locals ∧ (∀ x c, X.env.cells.lookup x = some c → c ≠ b) ∧ ∀ p ∈ X.pn ++ pins, p.1 ≠ b) :
    Inv X pins σ H' { s with heap := h', gens := g', drawn := d', toks := t' } := by
  obtain ⟨m, ⟨o, es, ep, ho, r⟩, _⟩ := id I.loc
  obtain ⟨sl, hL⟩ := u.any ho I.free fun z => (hch _ z).2.1 rfl
  exact I.step (ch := ch) hch (fun b o hL hb hc e n => u.keep b o e n (fun z => (List.mem_cons.mp (I.stkSub b z)).elim hL hb) hc) (fun b o _ _ hc e n => u.any e n hc) (fun b o hc e n => u.free b o e n hc) (fun b o hc e => u.there b o e hc) u.tups u.frzs u.tbls (fun m' hm => by
    obtain ⟨o', es', ep', ho', r'⟩ := hm
    rw [ho] at ho'; cases ho'
    exact ⟨_, es', ep', hL, r'⟩) hok hg
theorem Inv.turned {t' : Nat} {it : Addr} (I : Inv X pins σ H s) (k : ∀ b o, b ≠ it → s.heap.get? b = some o → h'.get? b = some o) (hn : H it = none) (hL : it ≠ X.env.locals)
    (h1 : it ∈ X.ex ∨ X.s₀.heap.objs.size ≤ it) (h2 : ∀ x c, X.env.cells.lookup x = some c → c ≠ it) (h3 : ∀ p ∈ X.pn ++ pins, p.1 ≠ it) : Inv X pins σ H { s with heap := h', toks := t' } := by
  have nit : ∀ b u, H b = some u → b ≠ it := fun b u e z => by rw [z, hn] at e; cases e
  refine I.step (g' := s.gens) (d' := s.drawn) (ch := [it]) (fun b hb => ?_) (fun b o _ _ hc e _ => k b o (fun z => hc (by simp [z])) e) (fun b o _ _ hc e _ => ⟨o.slots, k b o (fun z => hc (by simp [z])) e⟩) (fun _ _ _ _ n => n)
    (fun b o hc e => ⟨o, k b o (fun z => hc (by simp [z])) e⟩) (fun _ _ e => e) (fun _ _ _ e => e) (fun b ps e => ⟨#[], by rw [e]; simp⟩) (fun m hm => ?_) (fun b u e => ?_) I.bare
  · have e : b = it := by simpa using hb
    subst e
    exact ⟨h1, hL, h2, h3⟩
  · obtain ⟨o, es, ep, ho, r⟩ := hm
    exact ⟨o, es, ep, k _ o (Ne.symm hL) ho, r⟩
  · refine (I.hok b u e).stay (fun c v hc q => k c v ?_ q) (fun _ q => q) fun _ _ q => q
    rcases hc with z | z
    · rw [z]; exact nit b u e
    · exact nit c _ z
theorem Inv.tok (I : Inv X pins σ H s) (t : Nat) : Inv X pins σ H { s with toks := t } := I.un (h' := s.heap) (t' := t) Un.refl I.hok
theorem Inv.kept {t' : Nat} (I : Inv X pins σ H s) (k : ∀ b u, s.heap.get? b = some u → h'.get? b = some u) : Inv X pins σ H { s with heap := h', toks := t' } := I.un (Un.kept k) (I.hok.kept k)
theorem Inv.laid {a : Addr} {o : HO} {t' : Nat} (I : Inv X pins σ H s) (k : ∀ b u, s.heap.get? b = some u → h'.get? b = some u) (hp : s.heap.objs.size ≤ a) (new : ObjOk X.prog X.w (upd H a o) h' a o) :
    Inv X pins σ (upd H a o) { s with heap := h', toks := t' } := I.un (Un.laid k hp (I.hok.fresh hp)) (I.hok.laid k hp new)
theorem Inv.write {x e : Addr} {o : HO} {t' : Nat} (I : Inv X pins σ H s) (mu : Mut (H x)) (he : e = x ∨ H e = some (.own x)) (k : ∀ b u, b ≠ e → s.heap.get? b = some u → h'.get? b = some u) (heo : ∃ u, h'.get? e = some u)
    (new : ObjOk X.prog X.w (upd H x o) h' x o) : Inv X pins σ (upd H x o) { s with heap := h', toks := t' } := I.un (Un.write mu he k heo) (I.hok.write mu he k heo new)
theorem Inv.weak {σ' : List (Option V)} (I : Inv X pins σ H s) (hl : σ'.length = σ.length) (w : ∀ (i : Nat) v, σ'[i]? = some (some v) → σ[i]? = some (some v)) : Inv X pins σ' H s :=
  ⟨I.ok, I.os, I.bare, I.base, let ⟨m, hn, hl'⟩ := I.loc; ⟨m, hn, fun i x v e1 e2 e3 => hl' i x v e1 (w i v e2) e3⟩, I.cell, I.free, I.freeC, I.pin, I.hok, hl.trans I.len⟩
theorem Inv.pins_of {pins' : List (Addr × Obj)} (I : Inv X pins σ H s) (h : ∀ p ∈ pins', s.heap.get? p.1 = some p.2 ∧ H p.1 = none ∧ p.1 ≠ X.env.locals ∧ p.1 ∉ X.fs ∧ ∀ v, p.2.data ≠ .cell v) : Inv X pins' σ H s :=
  ⟨I.ok, I.os, I.bare, I.base, I.loc, I.cell, I.free, I.freeC, fun p hp => (List.mem_append.mp hp).elim (fun z => I.pin p (List.mem_append_left _ z)) (h p), I.hok, I.len⟩
theorem nodup_ix {N : List Str} (hN : N.Nodup) {i j : Nat} {x : Str} (a : N[i]? = some x) (b : N[j]? = some x) : i = j := by
  obtain ⟨h1, e1⟩ := List.getElem?_eq_some_iff.mp a
  obtain ⟨h2, e2⟩ := List.getElem?_eq_some_iff.mp b
  exact (List.getElem_inj hN).mp (e1.trans e2.symm)
theorem store_ok2 {M : Model} {A : Around} {E : Value → Shared → Prop} {i : Nat} {x : Str} {v : V} {u : Value} {Q : Unit → Shared → Prop} (I : Inv X pins σ H s) (hN : X.N.Nodup) (hi : X.N[i]? = some x) (hx : Loc X.env.scope x) (r : RelV v u)
    (h : ∀ s', Inv X pins (σ.set i (some v)) H s' → (∃ a, Heap.SameBut a s.heap s'.heap ∧ (a = X.env.locals ∨ X.env.cells.lookup x = some a)) → Q () s') (hf : X.fn x = true ∨ X.env.scope.names.lookup x = some .local := by first | exact .inl rfl | exact .inr rfl | assumption) : wpAny M A (storeName X.env x u) Q E s := by
  obtain ⟨m, hn, hl⟩ := id I.loc
  have hcls : (X.env.scope.kind == .class || (X.env.scope.kind == .module && X.env.locals != X.env.globals)) = false := by rw [I.ok.kind]; rfl
  have hiσ : i < σ.length := by rw [I.len]; exact (List.getElem?_eq_some_iff.mp hi).1
  have cne := I.cne
  have tracked : ∀ {a : Addr} {h' : Heap}, (∃ o, s.heap.get? a = some o ∧ H a = none) → Heap.SameBut a s.heap h' → HOk X.prog X.w H h' := fun {a h'} ha hs b ob e => by
    obtain ⟨_, _, hfree⟩ := ha
    refine (I.hok b ob e).stay (fun c w' hc q => (hs.2 c ?_).trans q) (fun _ q => q) fun _ _ q => q
    rintro rfl
    rcases hc with rfl | hc
    · rw [hfree] at e; cases e
    · rw [hfree] at hc; cases hc
  rcases hx with hk | hk
  · refine wpAny_storeName_local hk hn (fun h' hn' hs => ?_) hcls
    obtain ⟨oL, _, _, hoL, _⟩ := id hn
    refine h _ ⟨I.ok, I.os, I.bare, ⟨fun b o e n hb hx => ?_, fun b o e n hb hx => ?_, I.base.free, fun b o e hx => ?_, I.base.tups, I.base.frzs, I.base.tbls⟩, ⟨_, hn', fun j y v' e1 e2 e3 => ?_⟩, fun y c e => ?_, I.free, I.freeC, fun p hp => ?_, tracked ⟨oL, hoL, I.free⟩ hs, by simpa using I.len⟩ ⟨_, hs, .inl rfl⟩
    · exact (hs.2 b (Nat.ne_of_lt (Nat.lt_of_lt_of_le (Heap.lt_size e) I.ok.above))).trans (I.base.keep b o e n hb hx)
    · obtain ⟨sl, e1⟩ := I.base.slot b o e n hb hx
      exact ⟨sl, (hs.2 b (Nat.ne_of_lt (Nat.lt_of_lt_of_le (Heap.lt_size e) I.ok.above))).trans e1⟩
    · obtain ⟨o', e1⟩ := I.base.there b o e hx
      exact ⟨o', (hs.2 b (Nat.ne_of_lt (Nat.lt_of_lt_of_le (Heap.lt_size e) I.ok.above))).trans e1⟩
    · by_cases hj : j = i
      · subst hj
        rw [hi] at e1; cases e1
        rw [List.getElem?_set_self hiσ] at e2
        cases e2
        exact ⟨u, r, .inl ⟨hk, by simp⟩⟩
      · rw [List.getElem?_set_ne (Ne.symm hj)] at e2
        obtain ⟨u', r', q⟩ := hl j y v' e1 e2 e3
        refine ⟨u', r', ?_⟩
        rcases q with ⟨k, e⟩ | ⟨k, c, e, z⟩
        · refine .inl ⟨k, ?_⟩
          have : y ≠ x := fun e => hj (nodup_ix hN e1 (e ▸ hi))
          simp [this, e]
        · exact .inr ⟨k, c, e, z.sameBut hs (cne y c e)⟩
    · obtain ⟨w', z⟩ := I.cell y c e
      exact ⟨w', z.sameBut hs (cne y c e)⟩
    · obtain ⟨e, n, ne, nf, d⟩ := I.pin p hp
      exact ⟨(hs.2 p.1 ne).trans e, n, ne, nf, d⟩
  · have hfn : X.fn x = true := by
      rcases hf with z | z
      · exact z
      · rw [z] at hk; cases hk
    obtain ⟨c, hc⟩ := I.ok.has x (.inl hk)
    obtain ⟨w', z⟩ := I.cell x c hc
    refine wpAny_storeName_cell I.ok.kind hk hc z (fun h' hc' hs => ?_)
    obtain ⟨oc, hoc, hocd⟩ := id z
    refine h { s with heap := h' } ⟨I.ok, I.os, I.bare, ⟨fun b o e n hb hx => ?_, fun b o e n hb hx => ?_, I.base.free, fun b o e hx => ?_, I.base.tups, I.base.frzs, I.base.tbls⟩, ⟨m, hn.sameBut hs (Ne.symm (cne x c hc)), fun j y v' e1 e2 e3 => ?_⟩, fun y c' e => ?_, I.free, I.freeC, fun p hp => ?_, tracked ⟨oc, hoc, I.freeC x c hc⟩ hs, by simpa using I.len⟩ ⟨c, hs, .inr hc⟩
    · exact (hs.2 b (Nat.ne_of_lt (Nat.lt_of_lt_of_le (Heap.lt_size e) (I.ok.cab x c hfn hc)))).trans (I.base.keep b o e n hb hx)
    · obtain ⟨sl, e1⟩ := I.base.slot b o e n hb hx
      exact ⟨sl, (hs.2 b (Nat.ne_of_lt (Nat.lt_of_lt_of_le (Heap.lt_size e) (I.ok.cab x c hfn hc)))).trans e1⟩
    · obtain ⟨o', e1⟩ := I.base.there b o e hx
      exact ⟨o', (hs.2 b (Nat.ne_of_lt (Nat.lt_of_lt_of_le (Heap.lt_size e) (I.ok.cab x c hfn hc)))).trans e1⟩
    · by_cases hj : j = i
      · subst hj
        rw [hi] at e1; cases e1
        rw [List.getElem?_set_self hiσ] at e2
        cases e2
        exact ⟨u, r, .inr ⟨.inl hk, c, hc, hc'⟩⟩
      · rw [List.getElem?_set_ne (Ne.symm hj)] at e2
        obtain ⟨u', r', q⟩ := hl j y v' e1 e2 e3
        refine ⟨u', r', ?_⟩
        rcases q with q | ⟨k, c', e, z'⟩
        · exact .inl q
        · refine .inr ⟨k, c', e, z'.sameBut hs ?_⟩
          rintro rfl
          exact hj (nodup_ix hN e1 (I.ok.inj _ _ _ e hc ▸ hi))
    · by_cases hcc : c' = c
      · subst hcc; exact ⟨_, hc'⟩
      · obtain ⟨w2, z2⟩ := I.cell y c' e
        exact ⟨w2, z2.sameBut hs hcc⟩
    · obtain ⟨e, n, ne, nf, d⟩ := I.pin p hp
      refine ⟨(hs.2 p.1 ?_).trans e, n, ne, nf, d⟩
      intro q
      rw [q, hoc] at e
      have q' : oc = p.2 := Option.some.inj e
      exact d w' (by rw [← q']; exact hocd)
theorem store_ok {M : Model} {A : Around} {E : Value → Shared → Prop} {i : Nat} {x : Str} {v : V} {u : Value} {Q : Unit → Shared → Prop} (I : Inv X pins σ H s) (hN : X.N.Nodup) (hi : X.N[i]? = some x) (hx : Loc X.env.scope x) (r : RelV v u)
    (h : ∀ s', Inv X pins (σ.set i (some v)) H s' → Q () s') (hf : X.fn x = true ∨ X.env.scope.names.lookup x = some .local := by first | exact .inl rfl | exact .inr rfl | assumption) : wpAny M A (storeName X.env x u) Q E s :=
  store_ok2 I hN hi hx r (fun s' I' _ => h s' I') hf
theorem Inv.call' {s' : Shared} {ch : List Addr} (I : Inv X pins σ H s) (ho : s'.os = s.os) (u : Un (frs X.stack) ch H H' s.heap s'.heap) (hok : HOk X.prog X.w H' s'.heap) (hg : AllBare s'.gens)
    (hch : ∀ b ∈ ch, (b ∈ X.ex ∨ X.s₀.heap.objs.size ≤ b) ∧ b ≠ X.env.locals ∧ (∀ x c, X.env.cells.lookup x = some c → c ≠ b) ∧ ∀ p ∈ X.pn ++ pins, p.1 ≠ b) : Inv X pins σ H' s' := by
  obtain ⟨h', g', d', t', o'⟩ := s'
  have e : o' = s.os := ho
  subst e
  exact I.call (g' := g') (t' := t') (d' := d') u hok hg hch
end
noncomputable abbrev XK := Value → Option Addr → Hp → Prop
noncomputable abbrev St := List (Option V)
noncomputable abbrev VK := V → Hp → Prop
noncomputable abbrev TE := St → Hp → VK → Prop
noncomputable abbrev TT := St → Hp → (Bool → Hp → Prop) → Prop
noncomputable abbrev TA := St → Hp → (List V → Hp → Prop) → Prop
structure Ends where
  nx : St → Hp → Prop
  rt : VK
  bk : St → Hp → Prop := fun _ _ => False
  ct : St → Hp → Prop := fun _ _ => False
noncomputable abbrev TS := Ends → St → Hp → Prop
noncomputable def EP (X : Cx) (pins : List (Addr × Obj)) (σ : St) (Q : VK) (u : Value) (s' : Shared) : Prop := ∃ v H', Inv X pins σ H' s' ∧ RelV v u ∧ Q v H'
noncomputable def TP (X : Cx) (pins : List (Addr × Obj)) (σ : St) (Q : Bool → Hp → Prop) (b : Bool) (s' : Shared) : Prop := ∃ H', Inv X pins σ H' s' ∧ Q b H'
noncomputable def AP (X : Cx) (pins : List (Addr × Obj)) (σ : St) (Q : List V → Hp → Prop) (us : List Value) (s' : Shared) : Prop := ∃ vs H', Inv X pins σ H' s' ∧ Vals vs us ∧ Q vs H'
noncomputable def SP (X : Cx) (pins : List (Addr × Obj)) (D : Ends) (f : Flow) (s' : Shared) : Prop :=
  match f with
  | .next => ∃ σ' H', Inv X pins σ' H' s' ∧ D.nx σ' H'
  | .brk => ∃ σ' H', Inv X pins σ' H' s' ∧ D.bk σ' H'
  | .cont => ∃ σ' H', Inv X pins σ' H' s' ∧ D.ct σ' H'
  | .ret u => ∃ v σ' H', Inv X pins σ' H' s' ∧ RelV v u ∧ D.rt v H'
noncomputable def PE (X : Cx) (e : Expr) (t : TE) : Prop :=
  ∀ (pins : List (Addr × Obj)) (s : Shared) (σ : St) (H : Hp) (Q : VK), Inv X pins σ H s → t σ H Q → wpAny (model X.prog X.w) X.A (eval e X.env) (EP X pins σ Q) X.xe s
noncomputable def PT (X : Cx) (e : Expr) (t : TT) : Prop :=
  ∀ (pins : List (Addr × Obj)) (s : Shared) (σ : St) (H : Hp) (Q : Bool → Hp → Prop), Inv X pins σ H s → t σ H Q → wpAny (model X.prog X.w) X.A (isTrue e X.env (eval e X.env)) (TP X pins σ Q) X.xe s
noncomputable def PW (X : Cx) (e : Expr) (t : TT) : Prop :=
  ∀ (whole : Sem Value) (pins : List (Addr × Obj)) (s : Shared) (σ : St) (H : Hp) (Q : Bool → Hp → Prop), Inv X pins σ H s → t σ H Q → wpAny (model X.prog X.w) X.A (isTrue e X.env whole) (TP X pins σ Q) X.xe s
theorem PW.pt {X : Cx} {e : Expr} {t : TT} (h : PW X e t) : PT X e t := h _
noncomputable def PA (X : Cx) (es : List Expr) (t : TA) : Prop :=
  ∀ (pos : Pos) (pins : List (Addr × Obj)) (s : Shared) (σ : St) (H : Hp) (Q : List V → Hp → Prop), Inv X pins σ H s → t σ H Q → wpAny (model X.prog X.w) X.A (spliced (backTo pos (starEach es X.env))) (AP X pins σ Q) X.xe s
noncomputable def PS (X : Cx) (st : Stmt) (t : TS) : Prop :=
  ∀ (pins : List (Addr × Obj)) (s : Shared) (σ : St) (H : Hp) (D : Ends), Inv X pins σ H s → t D σ H → wpAny (model X.prog X.w) X.A (exec st X.env) (SP X pins D) X.xe s
noncomputable def PSs (X : Cx) (st : List Stmt) (t : TS) : Prop :=
  ∀ (pins : List (Addr × Obj)) (s : Shared) (σ : St) (H : Hp) (D : Ends), Inv X pins σ H s → t D σ H → wpAny (model X.prog X.w) X.A (execs st X.env) (SP X pins D) X.xe s
theorem thn {α : Type} {t : Sem α} {Q Q' : α → Shared → Prop} {M : Model} {A : Around} {E : Value → Shared → Prop} {s : Shared} (h : wpAny M A t Q E s) (hQ : ∀ a s, Q a s → Q' a s) : wpAny M A t Q' E s := wpAny_mono h hQ fun _ _ x => x
end L2
namespace L2
open PySem PySem.Spec PyProof.Rows
section
variable {X : Cx}
inductive tVar (i : Nat) (σ : St) (H : Hp) (Q : VK) : Prop
  | mk (v : _) (c0 : σ[i]? = some (some v)) (c1 : Q v H) : tVar i σ H Q
noncomputable def tC (v : V) : TE := fun _ H Q => Q v H
theorem pe_var {i : Nat} {x : Str} {pos : Pos} (hN : X.N[i]? = some x) (hv : Vis X.env.scope x) (hd : (x == ("__debug__" : Str)) = false := by decide) (hcd : (x == ("__classdict__" : Str)) = false := by decide) : PE X (.Name x pos) (tVar i) := by
  intro pins s σ H Q I h
  obtain ⟨v, e, h⟩ := h
  obtain ⟨m, hn, hl⟩ := I.loc
  obtain ⟨u, r, l⟩ := hl i x v hN e hv
  have fin : EP X pins σ Q u s := ⟨v, H, I, r, h⟩
  rcases l with ⟨hk, hm⟩ | ⟨hk, c, hc, hcell⟩
  · exact wpAny_Name (wpAny_loadName_local I.ok.kind hk hn hm fin) hd
  · rcases hk with hk | hk
    · exact wpAny_Name (wpAny_loadName_cell I.ok.kind hk hc hcell fin) hd
    · exact wpAny_Name (wpAny_loadName_free I.ok.kind hk hc hcell fin hcd) hd
theorem pe_int {i j pos} : PE X (.Constant (.int i) j pos) (tC (.int i)) := fun _ _ _ H _ I h => wpAny_Constant_int ⟨.int i, H, I.tok _, ⟨_, rfl⟩, h⟩
theorem pe_bl {b j pos} : PE X (.Constant (.bool b) j pos) (tC (.bl b)) := fun _ _ _ H _ I h => Constant_bool ⟨.bl b, H, I, rfl, h⟩
theorem pe_non {j pos} : PE X (.Constant .none j pos) (tC .non) := fun _ _ _ H _ I h => Constant_none ⟨.non, H, I, rfl, h⟩
theorem pe_str {x j pos} : PE X (.Constant (.str x) j pos) (tC (.str x)) := fun _ _ _ H _ I h => Calls.Constant_str ⟨.str x, H, I.tok _, ⟨_, rfl⟩, h⟩
noncomputable def Gl (X : Cx) (x : Str) : Prop := X.env.kindOf x = some .globalImplicit
theorem ld_glob {E : Value → Shared → Prop} {pins : List (Addr × Obj)} {s : Shared} {σ : St} {H : Hp} {x : Str} {u : Value} {pos : Pos} {Q : Value → Shared → Prop} (I : Inv X pins σ H s) (hg : Gl X x) (hm : X.mg x = some u) (h : Q u s)
    (hd : (x == ("__debug__" : Str)) = false := by decide) : wpAny (model X.prog X.w) X.A (eval (.Name x pos) X.env) Q E s :=
  Calls.Name_function_global I.ok.kind hg (Calls.loadGlobal_global (by rw [I.ok.glob]; exact I.mod.glob.keeps I.bk) hm h) hd
theorem ld_blt {E : Value → Shared → Prop} {pins : List (Addr × Obj)} {s : Shared} {σ : St} {H : Hp} {x : Str} {u : Value} {pos : Pos} {Q : Value → Shared → Prop} (I : Inv X pins σ H s) (hg : Gl X x) (hm : X.mg x = none) (hv : bootBuiltins x = some u) (h : Q u s)
    (hn : x ≠ "__name__" := by decide) (hd : (x == ("__debug__" : Str)) = false := by decide) : wpAny (model X.prog X.w) X.A (eval (.Name x pos) X.env) Q E s := by
  obtain ⟨mb, h1, h2⟩ := I.mod.blt
  exact Calls.Name_function_global I.ok.kind hg (Calls.loadGlobal_builtin (by rw [I.ok.glob]; exact I.mod.glob.keeps I.bk) hm (by rw [I.ok.blt]; exact h1.keeps I.bk) ((h2 x hn).trans hv) h) hd
theorem pe_glob {x : Str} {v : V} {u : Value} {pos : Pos} (hg : Gl X x) (hm : X.mg x = some u) (r : RelV v u) (hd : (x == ("__debug__" : Str)) = false := by decide) : PE X (.Name x pos) (tC v) :=
  fun _ _ _ H _ I h => ld_glob I hg hm ⟨v, H, I, r, h⟩ hd
theorem pe_bltn {x : Str} {v : V} {u : Value} {pos : Pos} (hg : Gl X x) (hm : X.mg x = none) (hv : bootBuiltins x = some u) (r : RelV v u) (hn : x ≠ "__name__" := by decide) (hd : (x == ("__debug__" : Str)) = false := by decide) : PE X (.Name x pos) (tC v) :=
  fun _ _ _ H _ I h => ld_blt I hg hm hv ⟨v, H, I, r, h⟩ hn hd
variable {a b : Expr} {ta tb : TE} {pos : Pos}
noncomputable def PC (X : Cx) (op : CmpOp) (a b : Expr) (t : TE) : Prop :=
  ∀ (pins : List (Addr × Obj)) (s : Shared) (σ : St) (H : Hp) (Q : VK), Inv X pins σ H s → t σ H Q →
    wpAny (model X.prog X.w) X.A (eval a X.env) (fun v s₁ => wpAny (model X.prog X.w) X.A (eval b X.env) (fun u s₂ => wpAny (model X.prog X.w) X.A (compareOp op v u) (EP X pins σ Q) X.xe s₂) X.xe s₁) X.xe s
inductive isB0 (Q : Bool → Hp → Prop) (x : V) (H1 : Hp) : Prop
  | mk (c : _) (c0 : x = .bl c) (c1 : Q c H1) : isB0 Q x H1
noncomputable def tB (t : TE) : TT := fun σ H Q => t σ H fun x H1 => isB0 Q x H1
theorem pt_cmp {op : CmpOp} {t : TE} (h : PC X op a b t) (h1 : behindInMarks op b = false := by first | exact nobehind _ (by decide) (by decide) | rfl) : PT X (.Compare a [op] [b] pos) (tB t) := by
  intro pins s σ H Q I hw
  refine wpAny_isTrue_Compare1 (thn (h pins s σ H _ I hw) fun v s1 h1 => thn h1 fun u s2 h2 => thn h2 fun c s3 hp0 => ?_) h1
  obtain ⟨x, H1, I1, r1, q1⟩ := hp0
  obtain ⟨d, rfl, q⟩ := q1
  cases r1
  exact wpAny_truthy_bool ⟨H1, I1, q⟩
theorem pt_val {e : Expr} {t : TE} (h : PE X e t) (he : ∀ whole, isTrue e X.env whole = (do let v ← whole; standAt e.pos; holding [v] (truthy v)) := by intro _; rfl) : PT X e (tB t) := by
  intro pins s σ H Q I hw
  refine isTrue_plain (thn (h pins s σ H _ I hw) fun v s1 hp0 => ?_) (he _)
  obtain ⟨x, H1, I1, r1, q1⟩ := hp0
  obtain ⟨d, rfl, q⟩ := q1
  cases r1
  exact wpAny_truthy_bool ⟨H1, I1, q⟩
variable {tA tB' : TT} {rest : List Expr}
noncomputable def tAnd (t u : TT) : TT := fun σ H Q => t σ H fun c H1 => if c = true then u σ H1 Q else Q false H1
noncomputable def tOr (t u : TT) : TT := fun σ H Q => t σ H fun c H1 => if c = true then Q true H1 else u σ H1 Q
noncomputable def tNot (t : TT) : TT := fun σ H Q => t σ H fun c H1 => Q (!c) H1
theorem pw_and1 (ha : PT X a tA) : PW X (.BoolOp .And [a] pos) tA := by
  intro wh pins s σ H Q I h
  refine isTrue_and (thn (ha pins s σ H Q I h) fun c s1 e => ?_)
  cases c with
  | true => exact isTrue_and_nil e
  | false => exact e
theorem pw_or1 (ha : PT X a tA) : PW X (.BoolOp .Or [a] pos) tA := by
  intro wh pins s σ H Q I h
  refine isTrue_or (thn (ha pins s σ H Q I h) fun c s1 e => ?_)
  cases c with
  | false => exact isTrue_or_nil e
  | true => exact e
theorem pw_and (ha : PT X a tA) (hb : PW X (.BoolOp .And (b :: rest) pos) tB') : PW X (.BoolOp .And (a :: b :: rest) pos) (tAnd tA tB') := by
  intro wh pins s σ H Q I h
  refine isTrue_and (thn (ha pins s σ H _ I h) fun c s1 hp0 => ?_)
  obtain ⟨H1, I1, q1⟩ := hp0
  cases c with
  | true => exact hb wh pins s1 σ H1 Q I1 q1
  | false => exact ⟨H1, I1, q1⟩
theorem pw_or (ha : PT X a tA) (hb : PW X (.BoolOp .Or (b :: rest) pos) tB') : PW X (.BoolOp .Or (a :: b :: rest) pos) (tOr tA tB') := by
  intro wh pins s σ H Q I h
  refine isTrue_or (thn (ha pins s σ H _ I h) fun c s1 hp0 => ?_)
  obtain ⟨H1, I1, q1⟩ := hp0
  cases c with
  | true => exact ⟨H1, I1, q1⟩
  | false => exact hb wh pins s1 σ H1 Q I1 q1
theorem pt_not (ha : PT X a tA) : PT X (.UnaryOp .Not a pos) (tNot tA) := by
  intro pins s σ H Q I h
  exact isTrue_not (ha pins s σ H (fun c H1 => Q (!c) H1) I h)
noncomputable def tAndV (ta tb : TE) : TE := fun σ H Q => ta σ H fun x H1 => ∃ c, x = .bl c ∧ if c = true then tb σ H1 Q else Q (.bl false) H1
noncomputable def tNotV (ta : TE) : TE := fun σ H Q => ta σ H fun x H1 => ∃ c, x = .bl c ∧ Q (.bl (!c)) H1
theorem pe_one {op} {t : TE} (h : PE X a t) : PE X (.BoolOp op [a] pos) t := fun pins s σ H Q I hw => BoolOp_one (h pins s σ H Q I hw)
theorem pe_and (ha : PE X a ta) (hb : PE X (.BoolOp .And (b :: rest) pos) tb) : PE X (.BoolOp .And (a :: b :: rest) pos) (tAndV ta tb) := by
  intro pins s σ H Q I h
  refine BoolOp_and (thn (ha pins s σ H _ I h) fun v s1 hp0 => ?_)
  obtain ⟨x, H1, I1, r1, q1⟩ := hp0
  obtain ⟨c, rfl, q1⟩ := q1
  cases r1
  refine wpAny_truthy_bool ?_
  cases c with
  | true => exact hb pins s1 σ H1 Q I1 q1
  | false => exact ⟨.bl false, H1, I1, rfl, q1⟩
theorem pe_not (ha : PE X a ta) : PE X (.UnaryOp .Not a pos) (tNotV ta) := by
  intro pins s σ H Q I h
  refine UnaryOp_ (thn (ha pins s σ H _ I h) fun v s1 hp0 => ?_)
  obtain ⟨x, H1, I1, r1, q1⟩ := hp0
  obtain ⟨c, rfl, q1⟩ := q1
  cases r1
  exact not_of (wpAny_truthy_bool ⟨.bl (!c), H1, I1, rfl, q1⟩)
noncomputable def tIf (t : TT) (ta tb : TE) : TE := fun σ H Q => t σ H fun c H1 => if c = true then ta σ H1 Q else tb σ H1 Q
theorem pe_ifExp {c : Expr} (hc : PT X c tA) (ha : PE X a ta) (hb : PE X b tb) : PE X (.IfExp c a b pos) (tIf tA ta tb) := by
  intro pins s σ H Q I h
  refine wpAny_IfExp (thn (hc pins s σ H _ I h) fun d s1 hp0 => ?_)
  obtain ⟨H1, I1, q1⟩ := hp0
  cases d with
  | true => exact ha pins s1 σ H1 Q I1 q1
  | false => exact hb pins s1 σ H1 Q I1 q1
end
end L2
namespace L2
open PySem PySem.Spec PyProof.Rows
noncomputable def SqL (K : PySem.W.Frag) (H : Hp) (a : Addr) (xs : List V) : Prop :=
  Rd H a (.lst xs) ∨
    ∃ (o : Obj) (its : Array Value) (n : Nat), K.lookup a = some o ∧ o.cls = .type "list" ∧ o.dict = none ∧ o.data = .seq its n ∧ its.size ≤ sizeLine ∧ Vals xs its.toList
noncomputable def SqT (K : PySem.W.Frag) (H : Hp) (a : Addr) (xs : List V) : Prop :=
  Rd H a (.tup xs) ∨
    ∃ (o : Obj) (its : Array Value) (n : Nat), K.lookup a = some o ∧ o.cls = .type "tuple" ∧ o.data = .seq its n ∧ its.size ≤ sizeLine ∧ Vals xs its.toList
def absV : Value → Option V
  | .none => some .non
  | .bool b => some (.bl b)
  | .int i _ => some (.int i)
  | .str x _ => some (.str x)
  | .bytes b _ => some (.byt b)
  | .float b _ => some (.flt b)
  | .ref a => some (.ref a)
  | .type n => some (.ty n)
  | _ => none
theorem RelV.abs {x : V} {u : Value} (r : RelV x u) : absV u = some x := by
  cases x with
  | non => cases r; rfl
  | bl _ => cases r; rfl
  | int _ => obtain ⟨t, rfl⟩ := r; rfl
  | str _ => obtain ⟨t, rfl⟩ := r; rfl
  | byt _ => obtain ⟨t, rfl⟩ := r; rfl
  | flt _ => obtain ⟨t, rfl⟩ := r; rfl
  | ref _ => cases r; rfl
  | ty _ => cases r; rfl
theorem RelV.inj {x y : V} {u : Value} (r : RelV x u) (q : RelV y u) : x = y := Option.some.inj (r.abs.symm.trans q.abs)
theorem Vals.inj : ∀ {xs ys : List V} {us : List Value}, Vals xs us → Vals ys us → xs = ys
  | _, _, _, .nil, .nil => rfl
  | _, _, _, .cons r t, .cons r' t' => by rw [r.inj r', Vals.inj t t']
section
variable {X : Cx} {pins : List (Addr × Obj)} {σ : St} {H : Hp} {s : Shared} {a : Addr} {xs ys : List V}
theorem SqL.of {K : PySem.W.Frag} (h : H a = some (.lst xs)) : SqL K H a xs := .inl (.inl h)
theorem SqT.of {K : PySem.W.Frag} (h : H a = some (.tup xs)) : SqT K H a xs := .inl (.inl h)
theorem Inv.list (I : Inv X pins σ H s) (h : SqL X.K H a xs) : ∃ its : List Value, Vals xs its ∧ PlainL s.heap a its.toArray ∧ xs.length ≤ sizeLine := by
  rcases h with h | ⟨o, its, n, hk, hc, hd, hs, hz, r⟩
  · obtain ⟨z, its, n, r, e⟩ := h.ok I.hok
    exact ⟨its, r, ⟨_, n, e, rfl, rfl, rfl⟩, z⟩
  · refine ⟨its.toList, r, ⟨o, n, I.kIn a o hk, hc, hd, by simpa using hs⟩, ?_⟩
    have e := r.length
    simp only [Array.length_toList] at e
    lia
theorem Inv.tuple (I : Inv X pins σ H s) (h : SqT X.K H a xs) : ∃ its : List Value, Vals xs its ∧ IsTup s.heap a its.toArray ∧ xs.length ≤ sizeLine := by
  rcases h with h | ⟨o, its, n, hk, hc, hs, hz, r⟩
  · obtain ⟨z, its, r, p⟩ := h.ok I.hok
    exact ⟨its, r, p, z⟩
  · refine ⟨its.toList, r, ⟨o, I.kIn a o hk, hc, n, by simpa using hs⟩, ?_⟩
    have e := r.length
    simp only [Array.length_toList] at e
    lia
theorem Inv.list_inj (I : Inv X pins σ H s) (h : SqL X.K H a xs) (h' : SqL X.K H a ys) : xs = ys := by
  obtain ⟨its, r, ⟨o, n, e, _, _, d⟩, _⟩ := I.list h
  obtain ⟨its', r', ⟨o', n', e', _, _, d'⟩, _⟩ := I.list h'
  rw [e] at e'; cases e'
  rw [d] at d'
  injection d' with d1 _
  have : its = its' := by simpa using congrArg Array.toList d1
  subst this
  exact r.inj r'
theorem Inv.tuple_inj (I : Inv X pins σ H s) (h : SqT X.K H a xs) (h' : SqT X.K H a ys) : xs = ys := by
  obtain ⟨its, r, ⟨o, e, _, n, d⟩, _⟩ := I.tuple h
  obtain ⟨its', r', ⟨o', e', _, n', d'⟩, _⟩ := I.tuple h'
  rw [e] at e'; cases e'
  rw [d] at d'
  injection d' with d1 _
  have : its = its' := by simpa using congrArg Array.toList d1
  subst this
  exact r.inj r'
end
noncomputable abbrev Cx.wish (X : Cx) (E : Value → Shared → Prop) : Cx := { X with xe := E }
noncomputable abbrev Cx.nox (X : Cx) : Cx := X.wish fun _ _ => False
theorem Cx.Ok.wish {X : Cx} (ok : X.Ok) (E : Value → Shared → Prop) : (X.wish E).Ok :=
  ⟨ok.mod, ok.kind, ok.glob, ok.blt, ok.above, ok.inj, ok.has, ok.cab, ok.hd, ok.frames, ok.stk, ok.exf, ok.bs, ok.bsz, ok.noex, ok.exfs, ok.funs, ok.frf⟩
theorem Cx.Ok.unwish {X : Cx} {E : Value → Shared → Prop} (ok : (X.wish E).Ok) : X.Ok :=
  ⟨ok.mod, ok.kind, ok.glob, ok.blt, ok.above, ok.inj, ok.has, ok.cab, ok.hd, ok.frames, ok.stk, ok.exf, ok.bs, ok.bsz, ok.noex, ok.exfs, ok.funs, ok.frf⟩
section
variable {X : Cx} {pins : List (Addr × Obj)} {σ : St} {H : Hp} {s : Shared} {E : Value → Shared → Prop}
theorem Inv.wish (I : Inv X pins σ H s) (E : Value → Shared → Prop) : Inv (X.wish E) pins σ H s := ⟨I.ok.wish E, I.os, I.bare, I.base, I.loc, I.cell, I.free, I.freeC, I.pin, I.hok, I.len⟩
theorem Inv.unwish (I : Inv (X.wish E) pins σ H s) : Inv X pins σ H s := ⟨I.ok.unwish, I.os, I.bare, I.base, I.loc, I.cell, I.free, I.freeC, I.pin, I.hok, I.len⟩
theorem SP.unwish {D : Ends} {f : Flow} {s' : Shared} (h : SP (X.wish E) pins D f s') : SP X pins D f s' := by
  cases f with
  | next => obtain ⟨σ', H', I, q⟩ := h; exact ⟨σ', H', I.unwish, q⟩
  | brk => obtain ⟨σ', H', I, q⟩ := h; exact ⟨σ', H', I.unwish, q⟩
  | cont => obtain ⟨σ', H', I, q⟩ := h; exact ⟨σ', H', I.unwish, q⟩
  | ret u => obtain ⟨v, σ', H', I, r, q⟩ := h; exact ⟨v, σ', H', I.unwish, r, q⟩
theorem PSs.nox {st : List Stmt} {t : TS} (h : PSs X.nox st t) : PSs X st t := fun pins s σ H D I hw =>
  wpAny_mono (h pins s σ H D (I.wish _) hw) (fun _ _ q => q.unwish) fun _ _ z => False.elim z
end
section
variable {X : Cx} {st : Stmt} {rest : List Stmt} {t u : TS} {e : Expr} {te : TE} {pos : Pos}
noncomputable def tNext : TS := fun D σ H => D.nx σ H
noncomputable def tSeq (t u : TS) : TS := fun D σ H => t { D with nx := u D } σ H
theorem pss_nil : PSs X [] tNext := fun _ _ σ H _ I h => wpAny_execs_nil ⟨σ, H, I, h⟩
theorem pss_cons (h1 : PS X st t) (h2 : PSs X rest u) : PSs X (st :: rest) (tSeq t u) := by
  intro pins s σ H D I h
  refine wpAny_execs_cons (thn (h1 pins s σ H { D with nx := u D } I h) fun f s1 q => ?_)
  cases f with
  | next =>
    obtain ⟨σ', H', I', q⟩ := q
    exact h2 pins s1 σ' H' D I' q
  | ret v => exact q
  | brk => exact q
  | cont => exact q
theorem pss_one (h1 : PS X st t) : PSs X [st] t := by
  intro pins s σ H D I h
  refine wpAny_execs_cons (thn (h1 pins s σ H D I h) fun f s1 q => ?_)
  cases f with
  | next => exact wpAny_execs_nil q
  | ret v => exact q
  | brk => exact q
  | cont => exact q
theorem Inv.quiet {pins : List (Addr × Obj)} {σ : St} {H : Hp} {s : Shared} (I : Inv X pins σ H s) : interactive X.env = false := by simp [interactive, I.ok.kind]
noncomputable def tDrop (te : TE) : TS := fun D σ H => te σ H fun _ H1 => D.nx σ H1
theorem ps_expr (he : PE X e te) (hs : swapsWith e none pos.line X.env = pure false := by rfl) : PS X (.Expr e pos) (tDrop te) := by
  intro pins s σ H D I h
  exact wpAny_Expr_any (thn (he pins s σ H _ I h) fun v s1 hp0 => by obtain ⟨x, H1, I1, r1, q1⟩ := hp0; exact ⟨σ, H1, I1, q1⟩) I.quiet hs
noncomputable def tRet (te : TE) : TS := fun D σ H => te σ H D.rt
theorem ps_ret (he : PE X e te) : PS X (.Return (some e) pos) (tRet te) := by
  intro pins s σ H D I h
  exact wpAny_Return_some (thn (he pins s σ H _ I h) fun v s1 hp0 => by obtain ⟨x, H1, I1, r1, q1⟩ := hp0; exact ⟨x, σ, H1, I1, r1, q1⟩)
noncomputable def tIfS (c : TT) (t u : TS) : TS := fun D σ H => c σ H fun b H1 => if b = true then t D σ H1 else u D σ H1
theorem ps_if {c : Expr} {a b : List Stmt} {tc : TT} (hc : PT X c tc) (ha : PSs X a t) (hb : PSs X b u) : PS X (.If c a b pos) (tIfS tc t u) := by
  intro pins s σ H D I h
  refine wpAny_If (thn (hc pins s σ H _ I h) fun d s1 hp0 => ?_)
  obtain ⟨H1, I1, q1⟩ := hp0
  cases d with
  | true => exact ha pins s1 σ H1 D I1 q1
  | false => exact hb pins s1 σ H1 D I1 q1
noncomputable def tNever : TS := fun _ _ _ => False
theorem ps_never : PS X st tNever := fun _ _ _ _ _ _ h => h.elim
theorem pss_never {sts : List Stmt} : PSs X sts tNever := fun _ _ _ _ _ _ h => h.elim
end
noncomputable abbrev TG := V → St → Hp → (St → Hp → Prop) → Prop
noncomputable abbrev TGs := List V → St → Hp → (St → Hp → Prop) → Prop
noncomputable def PG (X : Cx) (target : Expr) (t : TG) : Prop :=
  ∀ (pins : List (Addr × Obj)) (s : Shared) (σ : St) (H : Hp) (v : V) (u : Value) (Q : St → Hp → Prop), Inv X pins σ H s → RelV v u → t v σ H Q →
    wpAny (model X.prog X.w) X.A (assign target X.env u) (fun _ s' => ∃ σ' H', Inv X pins σ' H' s' ∧ Q σ' H') X.xe s
noncomputable def PGs (X : Cx) (ts : List Expr) (t : TGs) : Prop :=
  ∀ (pins : List (Addr × Obj)) (s : Shared) (σ : St) (H : Hp) (vs : List V) (us : List Value) (Q : St → Hp → Prop), Inv X pins σ H s → Vals vs us → t vs σ H Q →
    wpAny (model X.prog X.w) X.A (assignInOrder ((assignEach ts X.env).map (·.2)) us) (fun _ s' => ∃ σ' H', Inv X pins σ' H' s' ∧ Q σ' H') X.xe s
section
variable {X : Cx} {pos : Pos}
noncomputable def gName (i : Nat) : TG := fun v σ H Q => Q (σ.set i (some v)) H
theorem pg_name {i : Nat} {x : Str} (hN : X.N.Nodup) (hi : X.N[i]? = some x) (hx : Loc X.env.scope x) (hf : X.fn x = true ∨ X.env.scope.names.lookup x = some .local := by first | exact .inl rfl | exact .inr rfl | assumption) : PG X (.Name x pos) (gName i) := by
  intro pins s σ H v u Q I r h
  exact wpAny_assign_Name (store_ok I hN hi hx r (fun s' I' => ⟨_, H, I', h⟩) hf)
noncomputable def gNil : TGs := fun vs σ H Q => vs = [] ∧ Q σ H
inductive gCons (t : TG) (u : TGs) (vs : List V) (σ : St) (H : Hp) (Q : St → Hp → Prop) : Prop
  | mk (v : _) (r : _) (c0 : vs = v :: r) (c1 : t v σ H fun σ' H' => u r σ' H' Q) : gCons t u vs σ H Q
theorem pgs_nil : PGs X [] gNil := by
  intro pins s σ H vs us Q I r h
  obtain ⟨e, h⟩ := h
  subst e
  cases r
  exact assignInOrder_nil ⟨σ, H, I, h⟩
theorem pgs_cons {e : Expr} {es : List Expr} {t : TG} {u : TGs} (h1 : PG X e t) (h2 : PGs X es u)
    (hs : (assignEach (e :: es) X.env).map (·.2) = assign e X.env :: (assignEach es X.env).map (·.2) := by rfl) : PGs X (e :: es) (gCons t u) := by
  intro pins s σ H vs us Q I r h
  obtain ⟨v, vr, e1, h⟩ := h
  subst e1
  cases r with
  | cons r rr =>
    rw [hs]
    refine assignInOrder_cons (thn (h1 pins s σ H _ _ _ I r h) fun _ s1 hp0 => ?_)
    obtain ⟨σ1, H1, I1, q1⟩ := hp0
    exact h2 pins s1 σ1 H1 _ _ Q I1 rr q1
inductive gTup (K : PySem.W.Frag) (n : Nat) (t : TGs) (v : V) (σ : St) (H : Hp) (Q : St → Hp → Prop) : Prop
  | mk (a : _) (xs : _) (c0 : v = .ref a) (c1 : SqT K H a xs) (c2 : xs.length = n) (c3 : t xs σ H Q) : gTup K n t v σ H Q
theorem pg_tup {es : List Expr} {k : Nat} {t : TGs} {n : Nat} (hc : X.calm = true) (h : PGs X es t)
    (hn : (assignEach es X.env).length = n := by rfl) (hst : (assignEach es X.env).findIdx? (·.1) = none := by rfl) : PG X (.Tuple es k pos) (gTup X.K n t) := by
  intro pins s σ H v u Q I r hw
  obtain ⟨a, xs, e1, hq, hl, hw⟩ := hw
  subst e1
  cases r
  obtain ⟨its, rv, ht, hz⟩ := I.tuple hq
  refine assign_Tuple_tuple (I.ok.hd hc) ht (by simp [hn, ← hl, rv.length]) hst fun h' hx => ?_
  have I1 : Inv X pins σ H { s with heap := h' } := I.kept (t' := s.toks) fun b o e => hx b o (Nat.ne_of_lt (Heap.lt_size e)) e
  exact h pins _ σ H xs _ Q I1 (by simpa using rv) hw
noncomputable def tAsg (te : TE) (g : TG) : TS := fun D σ H => te σ H fun x H1 => g x σ H1 D.nx
theorem ps_asg {tg e : Expr} {te : TE} {g : TG} (he : PE X e te) (hg : PG X tg g) (hs : swapsWithSole [tg] e pos.line X.env = pure false := by rfl) (hw : swappedStores [tg] e X.env = pure none := by rfl)
    (h1 : (assignEach [tg] X.env).map (·.2) = [assign tg X.env] := by rfl) : PS X (.Assign [tg] e pos) (tAsg te g) := by
  intro pins s σ H D I h
  refine wpAny_Assign_stores (thn (he pins s σ H _ I h) fun v s1 hp0 => ?_) hs hw
  obtain ⟨x, H1, I1, r1, q1⟩ := hp0
  rw [h1]
  exact thn (hg pins s1 σ H1 x v _ I1 r1 q1) fun _ s2 q => q
theorem ps_set {i : Nat} {x : Str} {e : Expr} {te : TE} {pos' : Pos} (hN : X.N.Nodup) (hi : X.N[i]? = some x) (hx : Loc X.env.scope x) (he : PE X e te) (hs : swapsWith e (some (.Name x pos')) pos.line X.env = pure false := by rfl) (hf : X.fn x = true ∨ X.env.scope.names.lookup x = some .local := by first | exact .inl rfl | exact .inr rfl | assumption) :
    PS X (.Assign [.Name x pos'] e pos) (tAsg te (gName i)) := by
  intro pins s σ H D I h
  refine wpAny_Assign_Name (thn (he pins s σ H _ I h) fun v s1 hp0 => ?_) hs
  obtain ⟨y, H1, I1, r1, q1⟩ := hp0
  exact store_ok I1 hN hi hx r1 (fun s2 I2 => ⟨_, H1, I2, q1⟩) hf
end
structure It where
  go : Nat → Hp → Prop
  yld : Nat → Hp → V → Hp → Prop
  stop : Nat → Hp → Prop
noncomputable def FpOk (X : Cx) (pins : List (Addr × Obj)) (H : Hp) (b : Addr) : Prop :=
  H b = none ∧ b ≠ X.env.locals ∧ b ∉ X.fs ∧ (b ∈ X.ex ∨ X.s₀.heap.objs.size ≤ b) ∧ (∀ x c, X.env.cells.lookup x = some c → c ≠ b) ∧ ∀ p ∈ X.pn ++ pins, p.1 ≠ b
theorem Inv.fpOk {X : Cx} {pins : List (Addr × Obj)} {σ : St} {H H' : Hp} {s : Shared} {b : Addr} (I : Inv X pins σ H s) (hb : s.heap.objs.size ≤ b) (hn : H' b = none) : FpOk X pins H' b := by
  refine ⟨hn, Nat.ne_of_gt (Nat.lt_of_lt_of_le I.lt hb), I.nofs hb, .inr (Nat.le_trans I.sz hb), fun x c e z => ?_, fun p hp z => ?_⟩
  · obtain ⟨v, q⟩ := I.cell x c e
    exact absurd (Nat.lt_of_lt_of_le q.lt (by rw [z]; exact hb)) (Nat.lt_irrefl _)
  · exact absurd (Nat.lt_of_lt_of_le (Heap.lt_size (I.pin p hp).1) (by rw [z]; exact hb)) (Nat.lt_irrefl _)
structure Turn (P : Program) (w : World) (K : PySem.W.Frag) (tg : Expr) (J : It) (fp : List Addr) (it : Addr) (tn : Nat → Heap → Prop) : Prop where
  mem : it ∈ fp
  obj : ∀ i h, tn i h → ∀ b ∈ fp, ∃ o, h.get? b = some o ∧ ∀ v, o.data ≠ .cell v
  keep : ∀ i h h', tn i h → (∀ b ∈ fp, ∀ o, h.get? b = some o → h'.get? b = some o) → tn i h'
  item : ∀ (X : Cx), X.prog = P → X.w = w → X.K = K → X.calm = true → ∀ (i : Nat) (pins : List (Addr × Obj)) (s : Shared) (σ : St) (H : Hp) (E : Value → Shared → Prop), Inv X pins σ H s → (∀ b ∈ fp, FpOk X pins H b) → tn i s.heap → J.go i H →
    wpAny (model P w) X.A (pyNext (.ref it)) (fun r s1 => ∃ u, r = some u ∧
      wpAny (model P w) X.A (letOwnedTupleGo tg (.ref it) u) (fun _ s2 => ∃ x H', Inv X pins σ H' s2 ∧ RelV x u ∧ J.yld i H x H' ∧ tn (i + 1) s2.heap ∧ ∀ b ∈ fp, H' b = none) E s1) E s
  done : ∀ (X : Cx), X.prog = P → X.w = w → X.K = K → X.calm = true → ∀ (i : Nat) (pins : List (Addr × Obj)) (s : Shared) (σ : St) (H : Hp) (E : Value → Shared → Prop), Inv X pins σ H s → (∀ b ∈ fp, FpOk X pins H b) → tn i s.heap → J.stop i H →
    wpAny (model P w) X.A (pyNext (.ref it)) (fun r s1 => r = none ∧ Inv X pins σ H s1) E s
  self : ∀ (A : Around) (i : Nat) (s : Shared) (Q : Value → Shared → Prop) (E : Value → Shared → Prop), tn i s.heap → Q (.ref it) s → wpAny (model P w) A (pyIter (.ref it)) Q E s
noncomputable abbrev TI := St → Hp → (It → Hp → Prop) → Prop
noncomputable def PIE (X : Cx) (pins : List (Addr × Obj)) (σ : St) (tg : Expr) (R : It → Hp → Prop) (itv : Value) (s2 : Shared) : Prop :=
  ∃ (it : Addr) (fp : List Addr) (tn : Nat → Heap → Prop) (J : It) (H' : Hp), itv = .ref it ∧ Inv X pins σ H' s2 ∧ Turn X.prog X.w X.K tg J fp it tn ∧ tn 0 s2.heap ∧ (∀ b ∈ fp, FpOk X pins H' b) ∧ R J H'
noncomputable def PI (X : Cx) (tg iter : Expr) (wi : TI) : Prop :=
  ∀ (pins : List (Addr × Obj)) (s : Shared) (σ : St) (H : Hp) (R : It → Hp → Prop), Inv X pins σ H s → wi σ H R →
    wpAny (model X.prog X.w) X.A (eval iter X.env) (fun v s1 => wpAny (model X.prog X.w) X.A (pyIter v) (PIE X pins σ tg R) X.xe s1) X.xe s
theorem go_of {M : Model} {A : Around} {E : Value → Shared → Prop} {s : Shared} {tg : Expr} {it : Addr} {u : Value} {o : Obj} {n : String} {vs : Array Value} {Q : Unit → Shared → Prop} (ho : s.heap.get? it = some o) (hc : o.cls = .type n) (hd : o.data = .fields vs)
    (hn : ["enumerate", "zip", "dict_itemiterator", "dict_reverseitemiterator", "odict_iterator", "itertools.zip_longest", "itertools.pairwise"].contains n = false) (hQ : Q () s) : wpAny M A (letOwnedTupleGo tg (.ref it) u) Q E s := by
  unfold letOwnedTupleGo
  cases tg <;> first
    | exact wpAny_pure hQ
    | (cases u <;> first
        | exact wpAny_pure hQ
        | (refine wpAny_bind (wpAny_load ho ?_)
           rw [hc, hd]
           show wpAny M A (if (["enumerate", "zip", "dict_itemiterator", "dict_reverseitemiterator", "odict_iterator", "itertools.zip_longest", "itertools.pairwise"].contains n && vs[0]? == some (rawInt _)) = true then _ else _) Q E s
           rw [if_neg (by intro h; rw [hn, Bool.false_and] at h; cases h)]
           exact wpAny_pure hQ))
noncomputable def Itl (K : PySem.W.Frag) (a : Addr) : It :=
  ⟨fun i H => ∃ xs x, SqL K H a xs ∧ xs[i]? = some x, fun i H x H' => H' = H ∧ ∀ xs, SqL K H a xs → xs[i]? = some x, fun i H => ∃ xs, SqL K H a xs ∧ xs.length ≤ i⟩
noncomputable def Itt (K : PySem.W.Frag) (a : Addr) : It :=
  ⟨fun i H => ∃ xs x, SqT K H a xs ∧ xs[i]? = some x, fun i H x H' => H' = H ∧ ∀ xs, SqT K H a xs → xs[i]? = some x, fun i H => ∃ xs, SqT K H a xs ∧ xs.length ≤ i⟩
noncomputable def Itr (lo : Int) (n : Nat) : It := ⟨fun i _ => i < n, fun i H x H' => H' = H ∧ x = .int (lo + i), fun i _ => n ≤ i⟩
theorem turn_list {P : Program} {w : World} {K : PySem.W.Frag} {tg : Expr} (a it : Addr) : Turn P w K tg (Itl K a) [it] it (fun i h => h.IsListIter it a i) where
  mem := by simp
  obj := fun i h st b hb => by
    have e : b = it := by simpa using hb
    subst e
    obtain ⟨o, e, c, d⟩ := st
    exact ⟨o, e, fun v z => by rw [d] at z; cases z⟩
  keep := fun i h h' st k => st.at fun o e => k it (by simp) o e
  item := by
    intro X hP hw hK hc i pins s σ H E I hf st hg
    subst hP hw hK
    obtain ⟨xs, x, hq, hx⟩ := hg
    obtain ⟨its, rv, p, hz⟩ := I.list hq
    obtain ⟨u, hu, ru⟩ := rv.get hx
    obtain ⟨f0, f1, f2, f3, f4, f5⟩ := hf it (by simp)
    refine wpAny_pyNext_list_item st p.isList (x := u) (by simpa using hu) fun h' st' sb => ?_
    have I1 : Inv X pins σ H { s with heap := h' } := I.turned (t' := s.toks) (fun b o hb e => (sb.2 b hb).trans e) f0 f1 f3 f4 f5
    obtain ⟨o, e, c, d⟩ := id st'
    exact ⟨u, rfl, go_of (s := { s with heap := h' }) e c d (by decide) ⟨x, H, I1, ru, ⟨rfl, fun ys hy => by rw [I.list_inj hy hq]; exact hx⟩, st', fun b hb => (hf b hb).1⟩⟩
  done := by
    intro X hP hw hK hc i pins s σ H E I hf st hg
    subst hP hw hK
    obtain ⟨xs, hq, hx⟩ := hg
    obtain ⟨its, rv, p, hz⟩ := I.list hq
    obtain ⟨f0, f1, f2, f3, f4, f5⟩ := hf it (by simp)
    have hl := rv.length
    exact wpAny_pyNext_list_end (I.ok.hd hc) st p.isList (by simp; lia) fun h' eb => ⟨rfl, I.turned (t' := s.toks) (fun b o hb e => eb b o hb e) f0 f1 f3 f4 f5⟩
  self := fun _ _ _ _ _ st h => wpAny_pyIter_listiter st h
theorem turn_tuple {P : Program} {w : World} {K : PySem.W.Frag} {tg : Expr} (a it : Addr) : Turn P w K tg (Itt K a) [it] it (fun i h => h.IsTupleIter it a i) where
  mem := by simp
  obj := fun i h st b hb => by
    have e : b = it := by simpa using hb
    subst e
    obtain ⟨o, e, c, d⟩ := st
    exact ⟨o, e, fun v z => by rw [d] at z; cases z⟩
  keep := fun i h h' st k => st.at fun o e => k it (by simp) o e
  item := by
    intro X hP hw hK hc i pins s σ H E I hf st hg
    subst hP hw hK
    obtain ⟨xs, x, hq, hx⟩ := hg
    obtain ⟨its, rv, p, hz⟩ := I.tuple hq
    obtain ⟨u, hu, ru⟩ := rv.get hx
    obtain ⟨f0, f1, f2, f3, f4, f5⟩ := hf it (by simp)
    refine wpAny_pyNext_tuple_item st (show s.heap.IsTuple a its.toArray from p) (x := u) (by simpa using hu) fun h' st' sb => ?_
    have I1 : Inv X pins σ H { s with heap := h' } := I.turned (t' := s.toks) (fun b o hb e => (sb.2 b hb).trans e) f0 f1 f3 f4 f5
    obtain ⟨o, e, c, d⟩ := id st'
    exact ⟨u, rfl, go_of (s := { s with heap := h' }) e c d (by decide) ⟨x, H, I1, ru, ⟨rfl, fun ys hy => by rw [I.tuple_inj hy hq]; exact hx⟩, st', fun b hb => (hf b hb).1⟩⟩
  done := by
    intro X hP hw hK hc i pins s σ H E I hf st hg
    subst hP hw hK
    obtain ⟨xs, hq, hx⟩ := hg
    obtain ⟨its, rv, p, hz⟩ := I.tuple hq
    obtain ⟨f0, f1, f2, f3, f4, f5⟩ := hf it (by simp)
    have hl := rv.length
    exact wpAny_pyNext_tuple_end (I.ok.hd hc) st (show s.heap.IsTuple a its.toArray from p) (by simp; lia) fun h' eb => ⟨rfl, I.turned (t' := s.toks) (fun b o hb e => eb b o hb e) f0 f1 f3 f4 f5⟩
  self := fun _ _ _ _ _ st h => wpAny_pyIter_tupleiter st h
theorem turn_range {P : Program} {w : World} {K : PySem.W.Frag} {tg : Expr} (it : Addr) (lo : Int) (n : Nat) : Turn P w K tg (Itr lo n) [it] it (fun i h => IsRangeIter h it (lo + (i : Nat) * 1) ((n : Int) - (i : Nat)) 1) where
  mem := by simp
  obj := fun i h st b hb => by
    have e : b = it := by simpa using hb
    subst e
    exact ⟨_, st, fun v z => by
      have z' : Data.fields _ = Data.cell v := z
      cases z'⟩
  keep := fun i h h' st k => k it (by simp) _ st
  item := by
    intro X hP hw hK hc i pins s σ H E I hf st hg
    subst hP hw hK
    obtain ⟨f0, f1, f2, f3, f4, f5⟩ := hf it (by simp)
    have W := Walks.range (prog := X.prog) (w := X.w) (I.ok.hd hc) it lo 1 n
    refine W.item i s _ _ hg st fun v h' tk hv st' kk => ?_
    obtain ⟨t, rfl⟩ := hv
    have I1 : Inv X pins σ H { s with heap := h', toks := tk } := I.turned (fun b o hb e => kk b o (by simpa using hb) e) f0 f1 f3 f4 f5
    refine ⟨_, rfl, go_of (s := { s with heap := h', toks := tk }) (n := "range_iterator") st' rfl rfl (by decide) ⟨.int (lo + i), H, I1, ⟨t, ?_⟩, ⟨rfl, rfl⟩, st', fun b hb => (hf b hb).1⟩⟩
    rw [Int.mul_one]
  done := by
    intro X hP hw hK hc i pins s σ H E I hf st hg
    subst hP hw hK
    obtain ⟨f0, f1, f2, f3, f4, f5⟩ := hf it (by simp)
    exact wpAny_pyNext_range_end (I.ok.hd hc) st (by have : n ≤ i := hg; lia) fun h' eb => ⟨rfl, I.turned (t' := s.toks) (fun b o hb e => eb b o hb e) f0 f1 f3 f4 f5⟩
  self := fun _ _ _ _ _ st h => wpAny_pyIter_rangeiter st h
end L2
namespace L2
open PySem PySem.Spec PyProof.Rows
section
variable {X : Cx} {tg : Expr}
noncomputable def iList (K : PySem.W.Frag) (tl : TE) : TI := fun σ H R => tl σ H fun x H1 => ∃ a, x = .ref a ∧ (∃ xs, SqL K H1 a xs) ∧ R (Itl K a) H1
noncomputable def iTup (K : PySem.W.Frag) (tl : TE) : TI := fun σ H R => tl σ H fun x H1 => ∃ a, x = .ref a ∧ (∃ xs, SqT K H1 a xs) ∧ R (Itt K a) H1
theorem pi_list {l : Expr} {tl : TE} (hl : PE X l tl) : PI X tg l (iList X.K tl) := by
  intro pins s σ H R I h
  refine thn (hl pins s σ H _ I h) fun v s1 hp0 => ?_
  obtain ⟨x, H1, I1, r1, q1⟩ := hp0
  obtain ⟨a, e, ⟨xs, hq⟩, q⟩ := q1
  subst e
  cases r1
  obtain ⟨its, rv, p, hz⟩ := I1.list hq
  refine wpAny_pyIter_list p.isList ?_
  refine ⟨s1.heap.objs.size, [s1.heap.objs.size], _, _, H1, rfl, I1.kept (t' := s1.toks) fun b o e => Heap.get?_push_of_some _ e, turn_list a _, ⟨_, Heap.get?_push_size _ rfl, rfl, rfl⟩, fun b hb => ?_, q⟩
  have e : b = s1.heap.objs.size := by simpa using hb
  subst e
  exact I1.fpOk (Nat.le_refl _) (I1.hok.fresh (Nat.le_refl _))
theorem pi_tup {l : Expr} {tl : TE} (hl : PE X l tl) : PI X tg l (iTup X.K tl) := by
  intro pins s σ H R I h
  refine thn (hl pins s σ H _ I h) fun v s1 hp0 => ?_
  obtain ⟨x, H1, I1, r1, q1⟩ := hp0
  obtain ⟨a, e, ⟨xs, hq⟩, q⟩ := q1
  subst e
  cases r1
  obtain ⟨its, rv, p, hz⟩ := I1.tuple hq
  refine wpAny_pyIter_tuple (show s1.heap.IsTuple a its.toArray from p) ?_
  refine ⟨s1.heap.objs.size, [s1.heap.objs.size], _, _, H1, rfl, I1.kept (t' := s1.toks) fun b o e => Heap.get?_push_of_some _ e, turn_tuple a _, ⟨_, Heap.get?_push_size _ rfl, rfl, rfl⟩, fun b hb => ?_, q⟩
  have e : b = s1.heap.objs.size := by simpa using hb
  subst e
  exact I1.fpOk (Nat.le_refl _) (I1.hok.fresh (Nat.le_refl _))
theorem range_it {pins : List (Addr × Obj)} {σ : St} {H : Hp} {s : Shared} {R : It → Hp → Prop} {E : Value → Shared → Prop} {lo hi : Int} {t u v : Tok} {tk : Nat} (I : Inv X pins σ H s) (h1 : -(2 ^ 62) ≤ lo) (h2 : lo < 2 ^ 62) (h3 : -(2 ^ 62) ≤ hi) (h4 : hi < 2 ^ 62)
    (q : R (Itr lo (hi - lo).toNat) H) : wpAny (model X.prog X.w) X.A (pyIter (.ref s.heap.objs.size)) (PIE X pins σ tg R) E { s with heap := s.heap.push { cls := .type "range", data := .fields #[.int lo t, .int hi u, .int 1 v] }, toks := tk } := by
  refine wpAny_pyIter_range (IsRange.new ..) (small_one h1 h2 h3 h4) ?_
  have I1 : Inv X pins σ H { s with heap := s.heap.push { cls := .type "range", data := .fields #[.int lo t, .int hi u, .int 1 v] }, toks := tk } := I.kept fun b o e => Heap.get?_push_of_some _ e
  refine ⟨(s.heap.push { cls := .type "range", data := .fields #[.int lo t, .int hi u, .int 1 v] }).objs.size, [(s.heap.push { cls := .type "range", data := .fields #[.int lo t, .int hi u, .int 1 v] }).objs.size], _, _, H, rfl,
    I1.kept (t' := tk) fun b o e => Heap.get?_push_of_some _ e, turn_range _ lo (hi - lo).toNat, ?_, fun b hb => ?_, q⟩
  · have e1 : lo + ((0 : Nat) : Int) * 1 = lo := by simp
    have e2 : (((hi - lo).toNat : Nat) : Int) - ((0 : Nat) : Int) = Builtin.Range.rangeSize lo hi 1 := by rw [rangeSize_one]; split <;> lia
    show IsRangeIter _ _ (lo + ((0 : Nat) : Int) * 1) ((((hi - lo).toNat : Nat) : Int) - ((0 : Nat) : Int)) 1
    rw [e1, e2]
    exact Heap.get?_push_size _ rfl
  · have e : b = (s.heap.push { cls := .type "range", data := .fields #[.int lo t, .int hi u, .int 1 v] }).objs.size := by simpa using hb
    subst e
    exact I1.fpOk (Nat.le_refl _) (I1.hok.fresh (Nat.le_refl _))
noncomputable def iRng1 (ta : TA) : TI := fun σ H R => ta σ H fun vs H1 => ∃ j : Int, vs = [.int j] ∧ -(2 ^ 62) ≤ j ∧ j < 2 ^ 62 ∧ R (Itr 0 j.toNat) H1
theorem pi_range1 {a : Expr} {ta : TA} {p pos : Pos} (hg : Gl X "range") (hm : X.mg "range" = none) (ha : PA X [a] ta) (hs : starEach [a] X.env = [(false, eval a X.env)] := by rfl) : PI X tg (.Call (.Name "range" p) [a] [] pos) (iRng1 ta) := by
  intro pins s σ H R I h
  refine Call_ (ld_blt I hg hm boot_range (PyProof.Rows.callWith_type1 (thn (ha pos pins s σ H _ I h) fun us s1 hp0 => ?_) hs rfl))
  obtain ⟨vs, H1, I1, r1, q1⟩ := hp0
  obtain ⟨j, e, q1, q2, q⟩ := q1
  subst e
  cases r1 with
  | cons r rr =>
    cases rr
    obtain ⟨t, rfl⟩ := r
    exact call_range_1 (range_it I1 (by lia) (by lia) q1 q2 (by simpa using q))
noncomputable def tFor (wi : TI) (g : TG) (tb : TS) : TS := fun D σ H => wi σ H fun J H1 => ∃ W : Nat → Nat → St → Hp → Prop, (∃ m, W 0 m σ H1) ∧ ∀ i m σ H, W i m σ H →
  (J.stop i H ∧ D.nx σ H) ∨ (J.go i H ∧ ∃ N : St → Hp → Prop, (∀ σ' H', N σ' H' → ∃ m', m' < m ∧ W (i + 1) m' σ' H') ∧ ∀ x H', J.yld i H x H' → g x σ H' fun σ2 H2 => tb { D with nx := N, ct := N, bk := D.nx } σ2 H2)
noncomputable def pinsAt (fp : List Addr) (h : Heap) : List (Addr × Obj) := fp.filterMap fun b => (h.get? b).map fun o => (b, o)
theorem mem_pinsAt {fp : List Addr} {h : Heap} {b : Addr} {o : Obj} (hb : b ∈ fp) (e : h.get? b = some o) : (b, o) ∈ pinsAt fp h := List.mem_filterMap.mpr ⟨b, hb, by rw [e]; rfl⟩
theorem of_pinsAt {fp : List Addr} {h : Heap} {p : Addr × Obj} (hp : p ∈ pinsAt fp h) : p.1 ∈ fp ∧ h.get? p.1 = some p.2 := by
  obtain ⟨b, hb, e⟩ := List.mem_filterMap.mp hp
  cases q : h.get? b with
  | none => rw [q] at e; cases e
  | some o =>
    rw [q] at e
    have e' : (b, o) = p := Option.some.inj e
    subst e'
    exact ⟨hb, q⟩
theorem Inv.pinned {pins : List (Addr × Obj)} {σ : St} {H : Hp} {s : Shared} {fp : List Addr} (I : Inv X pins σ H s) (hf : ∀ b ∈ fp, FpOk X pins H b) (ho : ∀ b ∈ fp, ∃ o, s.heap.get? b = some o ∧ ∀ v, o.data ≠ .cell v) : Inv X (pins ++ pinsAt fp s.heap) σ H s :=
  I.pins_of fun p hp => (List.mem_append.mp hp).elim (fun z => I.pin p (List.mem_append_right _ z)) fun z => by
    obtain ⟨hb, e⟩ := of_pinsAt z
    obtain ⟨f0, f1, f2, _⟩ := hf p.1 hb
    obtain ⟨o, e', d⟩ := ho p.1 hb
    rw [e] at e'; cases e'
    exact ⟨e, f0, f1, f2, d⟩
theorem Inv.unpinned {pins pl : List (Addr × Obj)} {σ : St} {H : Hp} {s : Shared} (I : Inv X (pins ++ pl) σ H s) : Inv X pins σ H s := I.pins_of fun p hp => I.pin p (List.mem_append_right _ (List.mem_append_left _ hp))
theorem ps_for {iter : Expr} {body : List Stmt} {wi : TI} {g : TG} {tb : TS} {pos : Pos} (hp : PassesOwn (model X.prog X.w) X.A X.env X.xe) (hc : X.calm = true) (hi : PI X tg iter wi) (hg : PG X tg g) (hb : PSs X body tb)
    (hs : ∀ x, foldedSetIterable iter X.env x = pure x := by intro _; rfl) : PS X (.For tg iter body [] pos) (tFor wi g tb) := by
  intro pins s σ H D I h
  refine wpAny_For (thn (hi pins s σ H _ I h) fun v s1 h1 => thn h1 fun itv s2 h2 => ?_) hs
  obtain ⟨it, fp, tn, J, H2, e, I2, T, st2, f2, W, ⟨m0, w0⟩, turn⟩ := h2
  subst e
  -- what stays true of the iterator's objects through the loop
  have stat : ∀ {H' : Hp}, (∀ b ∈ fp, H' b = none) → ∀ b ∈ fp, FpOk X pins H' b := fun hn b hb => ⟨hn b hb, (f2 b hb).2⟩
  refine codeAny_forLoop_any (fun n s' => ∃ i σ' H', Inv X pins σ' H' s' ∧ tn i s'.heap ∧ (∀ b ∈ fp, H' b = none) ∧ W i n σ' H') ?_ m0 ⟨0, σ, H2, I2, st2, fun b hb => (f2 b hb).1, w0⟩
  rintro n s3 ⟨i, σ3, H3, I3, st3, fr3, w3⟩
  rcases turn i n σ3 H3 w3 with ⟨stop, qn⟩ | ⟨go, N, hN, step⟩
  · refine wpAny_passesOwn hp (thn (T.done X rfl rfl rfl hc i pins s3 σ3 H3 X.xe I3 (stat fr3) st3 stop) fun r s4 hp0 => ?_)
    obtain ⟨hr, I4⟩ := hp0
    subst hr
    exact wpAny_execs_nil ⟨σ3, H3, I4, qn⟩
  · refine wpAny_passesOwn hp (thn (T.item X rfl rfl rfl hc i pins s3 σ3 H3 X.xe I3 (stat fr3) st3 go) fun r s4 hp0 => ?_)
    obtain ⟨u, hr, h4⟩ := hp0
    subst hr
    refine wpAny_passesOwn hp (thn h4 fun _ s5 hp0 => ?_)
    obtain ⟨x, H5, I5, r5, y5, st5, fr5⟩ := hp0
    have I5' := I5.pinned (stat fr5) (T.obj _ _ st5)
    refine wpAny_passesOwn hp (thn (hg _ s5 σ3 H5 x u _ I5' r5 (step x H5 y5)) fun _ s6 hp0 => ?_)
    obtain ⟨σ6, H6, I6, q6⟩ := hp0
    refine wpAny_passesOwn hp (thn (hb _ s6 σ6 H6 _ I6 q6) fun f s7 q7 => ?_)
    have again : ∀ {σ7 : St} {H7 : Hp}, Inv X (pins ++ pinsAt fp s5.heap) σ7 H7 s7 → N σ7 H7 → ∃ m, m < n ∧ ∃ i σ' H', Inv X pins σ' H' s7 ∧ tn i s7.heap ∧ (∀ b ∈ fp, H' b = none) ∧ W i m σ' H' := fun {σ7 H7} I7 n7 => by
      obtain ⟨m', hm, w7⟩ := hN σ7 H7 n7
      refine ⟨m', hm, i + 1, σ7, H7, I7.unpinned, T.keep _ _ _ st5 fun b hb o e => (I7.pin (b, o) (List.mem_append_right _ (List.mem_append_right _ (mem_pinsAt hb e)))).1, fun b hb => ?_, w7⟩
      obtain ⟨o, e, d⟩ := T.obj _ _ st5 b hb
      exact (I7.pin (b, o) (List.mem_append_right _ (List.mem_append_right _ (mem_pinsAt hb e)))).2.1
    cases f with
    | next => obtain ⟨σ7, H7, I7, n7⟩ := q7; exact again I7 n7
    | cont => obtain ⟨σ7, H7, I7, n7⟩ := q7; exact again I7 n7
    | brk => obtain ⟨σ7, H7, I7, q7⟩ := q7; exact ⟨σ7, H7, I7.unpinned, q7⟩
    | ret v => obtain ⟨x7, σ7, H7, I7, r7, q7⟩ := q7; exact ⟨x7, σ7, H7, I7.unpinned, r7, q7⟩
end
theorem for_list {K : PySem.W.Frag} {a : Addr} {xs : List V} {g : TG} {tb : TS} {D : Ends} {σ : St} {H : Hp} (Pv : Nat → St → Hp → Prop) (h0 : Pv 0 σ H) (hl : ∀ i σ H, i ≤ xs.length → Pv i σ H → SqL K H a xs)
    (hs : ∀ i x σ H, xs[i]? = some x → Pv i σ H → g x σ H fun σ2 H2 => tb { D with nx := Pv (i + 1), ct := Pv (i + 1), bk := D.nx } σ2 H2) (hd : ∀ σ H, Pv xs.length σ H → D.nx σ H) :
    ∃ W : Nat → Nat → St → Hp → Prop, (∃ m, W 0 m σ H) ∧ ∀ i m σ H, W i m σ H →
      ((Itl K a).stop i H ∧ D.nx σ H) ∨ ((Itl K a).go i H ∧ ∃ N : St → Hp → Prop, (∀ σ' H', N σ' H' → ∃ m', m' < m ∧ W (i + 1) m' σ' H') ∧ ∀ x H', (Itl K a).yld i H x H' → g x σ H' fun σ2 H2 => tb { D with nx := N, ct := N, bk := D.nx } σ2 H2) := by
  refine ⟨fun i m σ H => m = xs.length - i ∧ i ≤ xs.length ∧ Pv i σ H, ⟨xs.length, by simp, Nat.zero_le _, h0⟩, ?_⟩
  rintro i m σ H ⟨rfl, hi, p⟩
  have q := hl i σ H hi p
  by_cases hlt : i < xs.length
  · refine .inr ⟨⟨xs, xs[i], q, by simp [hlt]⟩, Pv (i + 1), fun σ' H' p' => ⟨xs.length - (i + 1), by lia, rfl, hlt, p'⟩, fun x H' y => ?_⟩
    obtain ⟨e, y⟩ := y
    subst e
    exact hs i x σ _ (y xs q) p
  · have e : i = xs.length := by lia
    subst e
    exact .inl ⟨⟨xs, q, Nat.le_refl _⟩, hd σ H p⟩
theorem for_tup {K : PySem.W.Frag} {a : Addr} {xs : List V} {g : TG} {tb : TS} {D : Ends} {σ : St} {H : Hp} (Pv : Nat → St → Hp → Prop) (h0 : Pv 0 σ H) (hl : ∀ i σ H, i ≤ xs.length → Pv i σ H → SqT K H a xs)
    (hs : ∀ i x σ H, xs[i]? = some x → Pv i σ H → g x σ H fun σ2 H2 => tb { D with nx := Pv (i + 1), ct := Pv (i + 1), bk := D.nx } σ2 H2) (hd : ∀ σ H, Pv xs.length σ H → D.nx σ H) :
    ∃ W : Nat → Nat → St → Hp → Prop, (∃ m, W 0 m σ H) ∧ ∀ i m σ H, W i m σ H →
      ((Itt K a).stop i H ∧ D.nx σ H) ∨ ((Itt K a).go i H ∧ ∃ N : St → Hp → Prop, (∀ σ' H', N σ' H' → ∃ m', m' < m ∧ W (i + 1) m' σ' H') ∧ ∀ x H', (Itt K a).yld i H x H' → g x σ H' fun σ2 H2 => tb { D with nx := N, ct := N, bk := D.nx } σ2 H2) := by
  refine ⟨fun i m σ H => m = xs.length - i ∧ i ≤ xs.length ∧ Pv i σ H, ⟨xs.length, by simp, Nat.zero_le _, h0⟩, ?_⟩
  rintro i m σ H ⟨rfl, hi, p⟩
  have q := hl i σ H hi p
  by_cases hlt : i < xs.length
  · refine .inr ⟨⟨xs, xs[i], q, by simp [hlt]⟩, Pv (i + 1), fun σ' H' p' => ⟨xs.length - (i + 1), by lia, rfl, hlt, p'⟩, fun x H' y => ?_⟩
    obtain ⟨e, y⟩ := y
    subst e
    exact hs i x σ _ (y xs q) p
  · have e : i = xs.length := by lia
    subst e
    exact .inl ⟨⟨xs, q, Nat.le_refl _⟩, hd σ H p⟩
theorem for_range {lo : Int} {n : Nat} {g : TG} {tb : TS} {D : Ends} {σ : St} {H : Hp} (Pv : Nat → St → Hp → Prop) (h0 : Pv 0 σ H)
    (hs : ∀ i σ H, i < n → Pv i σ H → g (.int (lo + i)) σ H fun σ2 H2 => tb { D with nx := Pv (i + 1), ct := Pv (i + 1), bk := D.nx } σ2 H2) (hd : ∀ σ H, Pv n σ H → D.nx σ H) :
    ∃ W : Nat → Nat → St → Hp → Prop, (∃ m, W 0 m σ H) ∧ ∀ i m σ H, W i m σ H →
      ((Itr lo n).stop i H ∧ D.nx σ H) ∨ ((Itr lo n).go i H ∧ ∃ N : St → Hp → Prop, (∀ σ' H', N σ' H' → ∃ m', m' < m ∧ W (i + 1) m' σ' H') ∧ ∀ x H', (Itr lo n).yld i H x H' → g x σ H' fun σ2 H2 => tb { D with nx := N, ct := N, bk := D.nx } σ2 H2) := by
  refine ⟨fun i m σ H => m = n - i ∧ i ≤ n ∧ Pv i σ H, ⟨n, by simp, Nat.zero_le _, h0⟩, ?_⟩
  rintro i m σ H ⟨rfl, hi, p⟩
  by_cases hlt : i < n
  · refine .inr ⟨hlt, Pv (i + 1), fun σ' H' p' => ⟨n - (i + 1), by lia, rfl, hlt, p'⟩, fun x H' y => ?_⟩
    obtain ⟨e, y⟩ := y
    subst e y
    exact hs i σ _ hlt p
  · have e : i = n := by lia
    subst e
    exact .inl ⟨Nat.le_refl _, hd σ H p⟩
end L2
namespace L2
open PySem PySem.Spec PyProof.Rows
noncomputable abbrev R2 := V → V → Hp → VK → Prop
noncomputable def OpR (X : Cx) (f : Value → Value → Sem Value) (r : R2) : Prop :=
  ∀ (pins : List (Addr × Obj)) (s : Shared) (σ : St) (H : Hp) (x y : V) (v u : Value) (Q : VK), Inv X pins σ H s → RelV x v → RelV y u → r x y H Q →
    wpAny (model X.prog X.w) X.A (f v u) (EP X pins σ Q) X.xe s
noncomputable def UnR (X : Cx) (f : Value → Sem Value) (r : V → Hp → VK → Prop) : Prop :=
  ∀ (pins : List (Addr × Obj)) (s : Shared) (σ : St) (H : Hp) (x : V) (v : Value) (Q : VK), Inv X pins σ H s → RelV x v → r x H Q →
    wpAny (model X.prog X.w) X.A (f v) (EP X pins σ Q) X.xe s
noncomputable def CallR (X : Cx) (f : Value) (r : List V → Hp → VK → Prop) : Prop :=
  ∀ (pins : List (Addr × Obj)) (s : Shared) (σ : St) (H : Hp) (xs : List V) (us : List Value) (Q : VK), Inv X pins σ H s → Vals xs us → r xs H Q →
    wpAny (model X.prog X.w) X.A (call f us) (EP X pins σ Q) X.xe s
noncomputable def tOp (r : R2) (ta tb : TE) : TE := fun σ H Q => ta σ H fun x H1 => tb σ H1 fun y H2 => r x y H2 Q
noncomputable def tUn (r : V → Hp → VK → Prop) (ta : TE) : TE := fun σ H Q => ta σ H fun x H1 => r x H1 Q
inductive rI (C : Int → Int → Prop) (g : Int → Int → V) (x : V) (y : V) (H : Hp) (Q : VK) : Prop
  | mk (i : _) (j : _) (c0 : x = .int i) (c1 : y = .int j) (c2 : C i j) (c3 : Q (g i j) H) : rI C g x y H Q
inductive rI0 (g : Int → Int → V) (x : V) (y : V) (H : Hp) (Q : VK) : Prop
  | mk (i : _) (j : _) (c0 : x = .int i) (c1 : y = .int j) (c2 : Q (g i j) H) : rI0 g x y H Q
noncomputable def rU (g : Int → V) : V → Hp → VK → Prop := fun x H Q => ∃ i, x = .int i ∧ Q (g i) H
section
variable {X : Cx} {a b c : Expr} {ta tb tc : TE} {pos : Pos}
theorem binT (ha : PE X a ta) (hb : PE X b tb) {pins : List (Addr × Obj)} {s : Shared} {σ : St} {H : Hp} {R : V → V → Hp → Prop} (I : Inv X pins σ H s)
    (h : ta σ H fun x H1 => tb σ H1 fun y H2 => R x y H2) {Q : Value → Shared → Prop} {f : Value → Value → Sem Value}
    (hf : ∀ v u s2 x y H2, Inv X pins σ H2 s2 → RelV x v → RelV y u → R x y H2 → wpAny (model X.prog X.w) X.A (f v u) Q X.xe s2) :
    wpAny (model X.prog X.w) X.A (eval a X.env) (fun v s₁ => wpAny (model X.prog X.w) X.A (eval b X.env) (fun u s₂ => wpAny (model X.prog X.w) X.A (f v u) Q X.xe s₂) X.xe s₁) X.xe s := by
  refine thn (ha pins s σ H _ I h) fun v s1 hp0 => ?_
  obtain ⟨x, H1, I1, r1, q1⟩ := hp0
  refine thn (hb pins s1 σ H1 _ I1 q1) fun u s2 hp0 => ?_
  obtain ⟨y, H2, I2, r2, q2⟩ := hp0
  exact hf v u s2 x y H2 I2 r1 r2 q2
theorem pe_op {op : Operator} {r : R2} (ho : OpR X (binaryOp op) r) (ha : PE X a ta) (hb : PE X b tb) : PE X (.BinOp a op b pos) (tOp r ta tb) := by
  intro pins s σ H Q I h
  exact wpAny_BinOp (binT ha hb I h fun v u s2 x y H2 I2 rx ry q => ho pins s2 σ H2 x y v u Q I2 rx ry q)
theorem pe_un {op : UnaryOp} {r : V → Hp → VK → Prop} (ho : UnR X (unaryOp op) r) (ha : PE X a ta) : PE X (.UnaryOp op a pos) (tUn r ta) := by
  intro pins s σ H Q I h
  exact UnaryOp_ (thn (ha pins s σ H _ I h) fun v s1 hp0 => by obtain ⟨x, H1, I1, r1, q1⟩ := hp0; exact ho pins s1 σ H1 x v Q I1 r1 q1)
theorem opI {f : Value → Value → Sem Value} {C : Int → Int → Prop} {g : Int → Int → Int}
    (rule : ∀ (i j : Int) (t u : Tok) (s : Shared) (Q : Value → Shared → Prop) (E : Value → Shared → Prop), C i j → Q (.int (g i j) s.toks) { s with toks := s.toks + 1 } → wpAny (model X.prog X.w) X.A (f (.int i t) (.int j u)) Q E s) :
    OpR X f (rI C fun i j => .int (g i j)) := by
  intro pins s σ H x y v u Q I rx ry h
  obtain ⟨i, j, rfl, rfl, hc, q⟩ := h
  obtain ⟨t, rfl⟩ := rx
  obtain ⟨t', rfl⟩ := ry
  exact rule i j t t' s _ _ hc ⟨.int (g i j), H, I.tok _, ⟨_, rfl⟩, q⟩
theorem opI0 {f : Value → Value → Sem Value} {g : Int → Int → Int}
    (rule : ∀ (i j : Int) (t u : Tok) (s : Shared) (Q : Value → Shared → Prop) (E : Value → Shared → Prop), Q (.int (g i j) s.toks) { s with toks := s.toks + 1 } → wpAny (model X.prog X.w) X.A (f (.int i t) (.int j u)) Q E s) :
    OpR X f (rI0 fun i j => .int (g i j)) := by
  intro pins s σ H x y v u Q I rx ry h
  obtain ⟨i, j, rfl, rfl, q⟩ := h
  obtain ⟨t, rfl⟩ := rx
  obtain ⟨t', rfl⟩ := ry
  exact rule i j t t' s _ _ ⟨.int (g i j), H, I.tok _, ⟨_, rfl⟩, q⟩
theorem opB0 {f : Value → Value → Sem Value} {g : Int → Int → Bool}
    (rule : ∀ (i j : Int) (t u : Tok) (s : Shared) (Q : Value → Shared → Prop) (E : Value → Shared → Prop), Q (.bool (g i j)) s → wpAny (model X.prog X.w) X.A (f (.int i t) (.int j u)) Q E s) :
    OpR X f (rI0 fun i j => .bl (g i j)) := by
  intro pins s σ H x y v u Q I rx ry h
  obtain ⟨i, j, rfl, rfl, q⟩ := h
  obtain ⟨t, rfl⟩ := rx
  obtain ⟨t', rfl⟩ := ry
  exact rule i j t t' s _ _ ⟨.bl (g i j), H, I, rfl, q⟩
noncomputable def CDiv (i j : Int) : Prop := 0 < j ∧ j < 1073741824
noncomputable def CPow (i j : Int) : Prop := 0 ≤ j ∧ j ≤ 1000000 ∧ i.natAbs < 2 ^ 64
noncomputable def CMul (i j : Int) : Prop := (-(2 ^ 64) < i ∧ i < 2 ^ 64) ∨ (-(2 ^ 64) < j ∧ j < 2 ^ 64)
theorem CMul.ok {i j : Int} (h : CMul i j) : IntMulOk i j := by
  rcases h with ⟨h1, h2⟩ | ⟨h1, h2⟩
  · exact .of_left (intBits_le_64 h1 h2)
  · exact .of_right (intBits_le_64 h1 h2)
theorem op_add : OpR X (binaryOp .Add) (rI0 fun i j => .int (i + j)) := opI0 fun _ _ _ _ _ _ _ q => add_int q
theorem op_sub : OpR X (binaryOp .Sub) (rI0 fun i j => .int (i - j)) := opI0 fun _ _ _ _ _ _ _ q => sub_int q
theorem op_mul : OpR X (binaryOp .Mult) (rI CMul fun i j => .int (i * j)) := opI fun _ _ _ _ _ _ _ hc q => mul_int q hc.ok
theorem op_fdiv : OpR X (binaryOp .FloorDiv) (rI CDiv fun i j => .int (i / j)) := opI fun i j _ _ _ _ _ hc q => by
  have h1 : (0 : Int) < j := hc.1
  have h2 : j < 1073741824 := hc.2
  exact floordiv_int (by lia) (by rw [Int.fdiv_eq_ediv_of_nonneg i (by lia)]; exact q) (.inl (PyProof.noPylong_small (by lia)))
theorem op_mod : OpR X (binaryOp .Mod) (rI (fun _ j => 0 < j) fun i j => .int (i % j)) := opI fun i j _ _ _ _ _ hc q => by
  have h1 : (0 : Int) < j := hc
  exact mod_int' (by lia) (by rw [Int.fmod_eq_emod_of_nonneg i (by lia)]; exact q)
theorem op_pow : OpR X (binaryOp .Pow) (rI CPow fun i j => .int (i ^ j.toNat)) := opI fun _ _ _ _ _ _ _ hc q => pow_int_small hc.1 hc.2.1 hc.2.2 q
theorem unI {f : Value → Sem Value} {g : Int → Int}
    (rule : ∀ (i : Int) (t : Tok) (s : Shared) (Q : Value → Shared → Prop) (E : Value → Shared → Prop), Q (.int (g i) s.toks) { s with toks := s.toks + 1 } → wpAny (model X.prog X.w) X.A (f (.int i t)) Q E s) :
    UnR X f (rU fun i => .int (g i)) := by
  intro pins s σ H x v Q I rx h
  obtain ⟨i, rfl, q⟩ := h
  obtain ⟨t, rfl⟩ := rx
  exact rule i t s _ _ ⟨.int (g i), H, I.tok _, ⟨_, rfl⟩, q⟩
theorem un_neg : UnR X (unaryOp .USub) (rU fun i => .int (-i)) := unI fun _ _ _ _ _ q => neg_int q
end
noncomputable def scal : V → V → Bool
  | .non, .non => true | .non, .int _ => true | .int _, .non => true | .non, .bl _ => true | .bl _, .non => true | .non, .str _ => true | .str _, .non => true
  | .int _, .int _ => true | .bl _, .bl _ => true | .str _, .str _ => true | .byt _, .byt _ => true
  | .int _, .str _ => true | .str _, .int _ => true | .bl _, .str _ => true | .str _, .bl _ => true
  | _, _ => false
noncomputable def rEq : R2 := fun x y H Q => scal x y = true ∧ Q (.bl (decide (x = y))) H
noncomputable def rNe : R2 := fun x y H Q => scal x y = true ∧ Q (.bl (!decide (x = y))) H
theorem dec_int {i j : Int} : decide (V.int i = V.int j) = (i == j) := by
  rw [Bool.eq_iff_iff]
  simp
theorem dec_bl {i j : Bool} : decide (V.bl i = V.bl j) = (i == j) := by
  rw [Bool.eq_iff_iff]
  simp
theorem dec_str {i j : Str} : decide (V.str i = V.str j) = (i == j) := by
  rw [Bool.eq_iff_iff]
  simp
theorem dec_byt {i j : Array UInt8} : decide (V.byt i = V.byt j) = (i.toList == j.toList) := by
  rw [Bool.eq_iff_iff]
  cases i
  cases j
  simp
section
variable {X : Cx} {a b c : Expr} {ta tb tc : TE} {pos : Pos}
theorem fin_bl {pins : List (Addr × Obj)} {σ : St} {H : Hp} {s : Shared} {Q : VK} {k k' : Bool} (I : Inv X pins σ H s) (q : Q (.bl k) H) (e : k = k') : EP X pins σ Q (.bool k') s := by
  subst e
  exact ⟨.bl k, H, I, rfl, q⟩
theorem op_eq : OpR X (compareOp .Eq) rEq := by
  intro pins s σ H x y v u Q I rx ry h
  obtain ⟨hs, q⟩ := h
  cases x with
  | non =>
    cases rx
    cases y with
    | non => cases ry; exact PySem.EqNone.eq_none_none (fin_bl I q (by simp))
    | bl j => cases ry; exact PySem.EqNone.eq_none_bool (fin_bl I q (by simp))
    | int j => obtain ⟨t', rfl⟩ := ry; exact PySem.EqNone.eq_none_int (fin_bl I q (by simp))
    | str j => obtain ⟨t', rfl⟩ := ry; exact PySem.EqNone.eq_none_str (fin_bl I q (by simp))
    | _ => exact absurd (show false = true from hs) Bool.false_ne_true
  | bl i =>
    cases rx
    cases y with
    | non => cases ry; exact PySem.EqNone.eq_bool_none (fin_bl I q (by simp))
    | bl j => cases ry; exact eq_bool (fin_bl I q dec_bl)
    | str j => obtain ⟨t', rfl⟩ := ry; exact PySem.EqMixed.eq_bool_str (fin_bl I q (by simp))
    | _ => exact absurd (show false = true from hs) Bool.false_ne_true
  | int i =>
    obtain ⟨t, rfl⟩ := rx
    cases y with
    | non => cases ry; exact PySem.EqNone.eq_int_none (fin_bl I q (by simp))
    | int j => obtain ⟨t', rfl⟩ := ry; exact eq_int (fin_bl I q dec_int)
    | str j => obtain ⟨t', rfl⟩ := ry; exact PySem.EqMixed.eq_int_str (fin_bl I q (by simp))
    | _ => exact absurd (show false = true from hs) Bool.false_ne_true
  | str i =>
    obtain ⟨t, rfl⟩ := rx
    cases y with
    | non => cases ry; exact PySem.EqNone.eq_str_none (fin_bl I q (by simp))
    | bl j => cases ry; exact PySem.EqMixed.eq_str_bool (fin_bl I q (by simp))
    | int j => obtain ⟨t', rfl⟩ := ry; exact PySem.EqMixed.eq_str_int (fin_bl I q (by simp))
    | str j => obtain ⟨t', rfl⟩ := ry; exact eq_str (fin_bl I q dec_str)
    | _ => exact absurd (show false = true from hs) Bool.false_ne_true
  | byt i =>
    obtain ⟨t, rfl⟩ := rx
    cases y with
    | byt j => obtain ⟨t', rfl⟩ := ry; exact PySem.W.eq_bytes (fin_bl I q dec_byt)
    | _ => exact absurd (show false = true from hs) Bool.false_ne_true
  | _ => cases y <;> exact absurd (show false = true from hs) Bool.false_ne_true
theorem op_ne : OpR X (compareOp .NotEq) rNe := by
  intro pins s σ H x y v u Q I rx ry h
  obtain ⟨hs, q⟩ := h
  cases x with
  | non =>
    cases rx
    cases y with
    | non => cases ry; exact PySem.EqNone.ne_none_none (fin_bl I q (by simp))
    | bl j => cases ry; exact PySem.EqNone.ne_none_bool (fin_bl I q (by simp))
    | int j => obtain ⟨t', rfl⟩ := ry; exact PySem.EqNone.ne_none_int (fin_bl I q (by simp))
    | str j => obtain ⟨t', rfl⟩ := ry; exact PySem.EqNone.ne_none_str (fin_bl I q (by simp))
    | _ => exact absurd (show false = true from hs) Bool.false_ne_true
  | bl i =>
    cases rx
    cases y with
    | non => cases ry; exact PySem.EqNone.ne_bool_none (fin_bl I q (by simp))
    | bl j => cases ry; exact ne_bool (fin_bl I q (congrArg not dec_bl))
    | str j => obtain ⟨t', rfl⟩ := ry; exact PySem.EqMixed.ne_bool_str (fin_bl I q (by simp))
    | _ => exact absurd (show false = true from hs) Bool.false_ne_true
  | int i =>
    obtain ⟨t, rfl⟩ := rx
    cases y with
    | non => cases ry; exact PySem.EqNone.ne_int_none (fin_bl I q (by simp))
    | int j => obtain ⟨t', rfl⟩ := ry; exact ne_int (fin_bl I q (congrArg not dec_int))
    | str j => obtain ⟨t', rfl⟩ := ry; exact PySem.EqMixed.ne_int_str (fin_bl I q (by simp))
    | _ => exact absurd (show false = true from hs) Bool.false_ne_true
  | str i =>
    obtain ⟨t, rfl⟩ := rx
    cases y with
    | non => cases ry; exact PySem.EqNone.ne_str_none (fin_bl I q (by simp))
    | bl j => cases ry; exact PySem.EqMixed.ne_str_bool (fin_bl I q (by simp))
    | int j => obtain ⟨t', rfl⟩ := ry; exact PySem.EqMixed.ne_str_int (fin_bl I q (by simp))
    | str j => obtain ⟨t', rfl⟩ := ry; exact ne_str (fin_bl I q (congrArg not dec_str))
    | _ => exact absurd (show false = true from hs) Bool.false_ne_true
  | byt i =>
    obtain ⟨t, rfl⟩ := rx
    cases y with
    | byt j => obtain ⟨t', rfl⟩ := ry; exact PySem.W.ne_bytes (fin_bl I q (congrArg not dec_byt))
    | _ => exact absurd (show false = true from hs) Bool.false_ne_true
  | _ => cases y <;> exact absurd (show false = true from hs) Bool.false_ne_true
theorem op_lt : OpR X (compareOp .Lt) (rI0 fun i j => .bl (decide (i < j))) := opB0 fun _ _ _ _ _ _ _ q => lt_int q
theorem op_gt : OpR X (compareOp .Gt) (rI0 fun i j => .bl (decide (j < i))) := opB0 fun _ _ _ _ _ _ _ q => gt_int q
theorem op_in_str : OpR X (compareOp .In) (fun x y H Q => ∃ i j, x = .str i ∧ y = .str j ∧ Q (.bl (!(Builtin.Str.occurrences j i 0 j.length 1).isEmpty)) H) := by
  intro pins s σ H x y v u Q I rx ry h
  obtain ⟨i, j, rfl, rfl, q⟩ := h
  obtain ⟨t, rfl⟩ := rx
  obtain ⟨t', rfl⟩ := ry
  exact in_str (fin_bl I q rfl)
theorem op_isN : OpR X (compareOp .Is) (fun x y H Q => y = .non ∧ Q (.bl (decide (x = .non))) H) := by
  intro pins s σ H x y v u Q I rx ry h
  obtain ⟨rfl, q⟩ := h
  cases ry
  refine is_none_gen (fin_bl I q ?_)
  cases x <;> first
    | (cases rx; rfl)
    | (obtain ⟨t, rfl⟩ := rx; rfl)
theorem op_notN : OpR X (compareOp .IsNot) (fun x y H Q => y = .non ∧ Q (.bl (!decide (x = .non))) H) := by
  intro pins s σ H x y v u Q I rx ry h
  obtain ⟨rfl, q⟩ := h
  cases ry
  refine isnot_none_gen (fin_bl I q ?_)
  cases x <;> first
    | (cases rx; rfl)
    | (obtain ⟨t, rfl⟩ := rx; rfl)
theorem nomark (b : Expr) {op : CmpOp} (h : op ≠ .In := by decide) (h2 : op ≠ .NotIn := by decide) : behindInMarks op b = false := by
  have e1 : (op == CmpOp.In) = false := by cases op <;> first | rfl | exact absurd rfl h
  have e2 : (op == CmpOp.NotIn) = false := by cases op <;> first | rfl | exact absurd rfl h2
  cases b <;> simp [behindInMarks, e1, e2]
theorem pe_cmpR {op : CmpOp} {r : R2} (ho : OpR X (compareOp op) r) (ha : PE X a ta) (hb : PE X b tb) (hm : behindInMarks op b = false) : PE X (.Compare a [op] [b] pos) (tOp r ta tb) := by
  intro pins s σ H Q I h
  exact wpAny_Compare1 (binT ha hb I h fun v u s2 x y H2 I2 rx ry q => ho pins s2 σ H2 x y v u Q I2 rx ry q) hm
inductive isB (Q : Bool → Hp → Prop) (x : V) (H' : Hp) : Prop
  | mk (k : _) (c0 : x = .bl k) (c1 : Q k H') : isB Q x H'
noncomputable def tTest (t : TE) : TT := fun σ H Q => t σ H fun x H' => isB Q x H'
theorem pt_cmpR {op : CmpOp} {r : R2} (ho : OpR X (compareOp op) r) (ha : PE X a ta) (hb : PE X b tb) (hm : behindInMarks op b = false) : PT X (.Compare a [op] [b] pos) (tTest (tOp r ta tb)) := by
  intro pins s σ H Q I h
  refine wpAny_isTrue_Compare1 (thn (ha pins s σ H _ I h) fun v s1 ⟨x, H1, I1, r1, q1⟩ => thn (hb pins s1 σ H1 _ I1 q1) fun u s2 ⟨y, H2, I2, r2, q2⟩ =>
    thn (ho pins s2 σ H2 x y v u _ I2 r1 r2 q2) fun c s3 ⟨z, H3, I3, r3, k, e, q3⟩ => ?_) hm
  subst e
  cases r3
  exact wpAny_truthy_bool ⟨H3, I3, q3⟩
theorem line63 : (sizeLine : Nat) < 2 ^ 63 := by rw [sizeLine_eq]; decide
inductive rAddS (x y : V) (H : Hp) (Q : VK) : Prop
  | mk (i : _) (j : _) (c0 : x = .str i) (c1 : y = .str j) (c2 : i.length + j.length ≤ sizeLine) (c3 : Q (.str (i ++ j)) H) : rAddS x y H Q
theorem op_add_str : OpR X (binaryOp .Add) rAddS := by
  intro pins s σ H x y v u Q I rx ry h
  obtain ⟨i, j, rfl, rfl, hz, q⟩ := h
  obtain ⟨t, rfl⟩ := rx
  obtain ⟨t', rfl⟩ := ry
  exact add_str (fun t' tk => ⟨.str (i ++ j), H, I.tok _, ⟨_, rfl⟩, q⟩) hz
theorem vals1 {x : V} {us : List Value} (r : Vals [x] us) : ∃ u, us = [u] ∧ RelV x u := by
  cases r with
  | cons r1 r2 => cases r2; exact ⟨_, rfl, r1⟩
theorem vals2 {x y : V} {us : List Value} (r : Vals [x, y] us) : ∃ u w', us = [u, w'] ∧ RelV x u ∧ RelV y w' := by
  cases r with
  | cons r1 r2 =>
    cases r2 with
    | cons r3 r4 => cases r4; exact ⟨_, _, rfl, r1, r3⟩
theorem call_int1 : CallR X (.type "int") (fun xs H Q => (∃ i, xs = [.int i] ∧ Q (.int i) H) ∨ ∃ k, xs = [.bl k] ∧ Q (.int (if k then 1 else 0)) H) := by
  intro pins s σ H xs us Q I r h
  rcases h with ⟨i, rfl, q⟩ | ⟨k, rfl, q⟩
  · obtain ⟨u, rfl, t, rfl⟩ := vals1 r
    exact call_int_int ⟨.int i, H, I, ⟨_, rfl⟩, q⟩
  · obtain ⟨u, rfl, r1⟩ := vals1 r
    cases r1
    exact call_int_bool ⟨.int (if k then 1 else 0), H, I.tok _, ⟨_, rfl⟩, q⟩
noncomputable def LenV (K : PySem.W.Frag) (x : V) (H : Hp) (n : Nat) : Prop :=
  match x with
  | .str y => y.length ≤ sizeLine ∧ n = y.length
  | .byt y => y.size ≤ sizeLine ∧ n = y.size
  | .ref p => (∃ xs, SqL K H p xs ∧ n = xs.length) ∨ ∃ xs, SqT K H p xs ∧ n = xs.length
  | _ => False
inductive rLen (K : PySem.W.Frag) (xs : List V) (H : Hp) (Q : VK) : Prop
  | mk (x : _) (n : _) (c0 : xs = [x]) (c1 : LenV K x H n) (c2 : Q (.int n) H) : rLen K xs H Q
theorem call_len : CallR X (.builtin "len") (rLen X.K) := by
  intro pins s σ H xs us Q I r h
  obtain ⟨x, n, rfl, e, q⟩ := h
  obtain ⟨u, rfl, rx⟩ := vals1 r
  have hl := line63
  have hs : sizeLine = 16777216 := sizeLine_eq
  cases x with
  | str y =>
    obtain ⟨t, rfl⟩ := rx
    obtain ⟨hy, e'⟩ : y.length ≤ sizeLine ∧ n = y.length := e
    subst e'
    exact len_str (by lia) ⟨.int _, H, I.tok _, ⟨_, rfl⟩, q⟩
  | byt y =>
    obtain ⟨t, rfl⟩ := rx
    obtain ⟨hy, e'⟩ : y.size ≤ sizeLine ∧ n = y.size := e
    subst e'
    exact PySem.W.len_bytes (by lia) ⟨.int _, H, I.tok _, ⟨_, rfl⟩, q⟩
  | ref p =>
    cases rx
    have e' : (∃ xs, SqL X.K H p xs ∧ n = xs.length) ∨ ∃ xs, SqT X.K H p xs ∧ n = xs.length := e
    rcases e' with ⟨xs, hx, e'⟩ | ⟨xs, hx, e'⟩
    · subst e'
      obtain ⟨its, r', pl, hz⟩ := I.list hx
      have hlen := r'.length
      exact Calls.call_len_list pl.isList (by simp only [List.size_toArray]; lia) ⟨.int xs.length, H, I.tok _, ⟨_, by simp only [List.size_toArray]; rw [hlen]⟩, q⟩
    · subst e'
      obtain ⟨its, r', pl, hz⟩ := I.tuple hx
      have hlen := r'.length
      exact len_tuple pl (by simp only [List.size_toArray]; lia) ⟨.int xs.length, H, I.tok _, ⟨_, by simp only [List.size_toArray]; rw [hlen]⟩, q⟩
  | _ => exact (show False from e).elim
end
end L2
namespace L2
open PySem PySem.Spec PyProof.Rows
structure ObjM (h : Heap) (x dx C : Addr) (mA : Str → Option Value) : Prop where
  obj : h.get? x = some (PySem.W.instObj C dx)
  ns : h.Ns1 dx mA
  ne : dx ≠ x
theorem lookIn_ns {h : Heap} {dx : Addr} {mA : Str → Option Value} (n : h.Ns1 dx mA) : ∃ od, h.get? dx = some od ∧ ∀ name, PySem.W.lookIn name od = some (mA name) := by
  obtain ⟨o, es, ep, ho, hd, hk, _, hm⟩ := n
  refine ⟨o, ho, fun name => ?_⟩
  have e := hm name
  unfold nsFind findBy at e
  rw [← Array.find?_toList] at e
  unfold PySem.W.lookIn
  rw [hd]
  dsimp only
  split
  · rename_i y q
    rw [q] at e
    exact congrArg some e
  · rename_i q
    rw [q] at e
    have a : es.toList.any (·.refKey) = false := by
      rw [List.any_eq_false]
      intro y hy
      obtain ⟨z, t, hkey⟩ := hk y (Array.mem_toList_iff.mp hy)
      simp [DictEntry.refKey, hkey]
    have a' : ¬ es.toList.any (·.refKey) = true := by rw [a]; exact Bool.false_ne_true
    rw [if_neg a']
    exact congrArg some e
theorem ObjM.look {h : Heap} {x dx C : Addr} {mA : Str → Option Value} (I : ObjM h x dx C mA) : ∃ od, PySem.W.InstAt h x (PySem.W.instObj C dx) C (some od) ∧ ∀ name, PySem.W.lookIn name od = some (mA name) :=
  let ⟨od, ho, hl⟩ := lookIn_ns I.ns
  ⟨od, ⟨I.obj, rfl, rfl, ho⟩, hl⟩
section
variable {prog : Program} {w : World} {A : Around} {E : Value → Shared → Prop} {s : Shared} {K : PySem.W.Frag} {x dx C f : Addr} {mA : Str → Option Value} {name : Str} {v : Value}
theorem get_map {expr : Bool} {Q : Value → Shared → Prop} (X : K.In s.heap) (I : ObjM s.heap x dx C mA) (hg : PySem.W.plainGet K C name = true) (hh : PySem.W.hasDictIn K C = true)
    (ha : PySem.W.findIn K (.ref C) name = some none) (hv : mA name = some v) (hv' : PySem.W.handedIn v = true) (h : Q v { s with toks := s.toks + 1 }) :
    wpAny (model prog w) A (getAttr (.ref x) name expr) Q E s := by
  obtain ⟨od, J, hl⟩ := I.look
  exact PySem.W.get_value X J (PySem.W.plainGet_of hg).1 (PySem.W.findObj_own hh ha rfl (by rw [hl, hv])) hv' h
theorem get_meth {pl : Sem Bool} {Q : Value × List Value → Shared → Prop} (X : K.In s.heap) (I : ObjM s.heap x dx C mA) (hg : PySem.W.plainGet K C name = true)
    (hf : PySem.W.findIn K (.ref C) name = some (some (.ref f))) (ht : PySem.W.isFn K (.ref f) = true) (hv : mA name = none) (h : Q (.ref f, [.ref x]) s) :
    wpAny (model prog w) A (getMethod (.ref x) name pl) Q E s := by
  obtain ⟨od, J, hl⟩ := I.look
  exact PySem.W.method_fn X J (PySem.W.plainGet_of hg).1 (PySem.W.plainGet_of hg).2 hf (beq_iff_eq.mp ht) (by show (PySem.W.lookIn name od).map (·.isSome) = some false; rw [hl, hv]; rfl) h
theorem set_map {ns : List Str} {Q : Unit → Shared → Prop} (X : K.In s.heap) (I : ObjM s.heap x dx C mA)
    (hs : PySem.W.findIn K (.ref C) "__setattr__" = some (some (.builtin "object.__setattr__"))) (hp : PySem.W.plainOver K C = true) (ht : PySem.W.takerIn K C name = some none) (hh : PySem.W.hasDictIn K C = true)
    (hw : PySem.Within mA ns) (hsz : ns.length ≤ sizeLine)
    (h : ∀ h', ObjM h' x dx C (fun y => if y = name then some v else mA y) → Heap.SameBut dx s.heap h' → Q () { s with heap := h', toks := s.toks + 2 }) :
    wpAny (model prog w) A (setAttr (.ref x) name v) Q E s := by
  obtain ⟨od, J, hl⟩ := I.look
  refine PySem.W.set_plain X J hs (PySem.W.osa_open (s := { s with toks := s.toks + 1 }) (r := none) X J hp ht fun b => ?_)
  obtain ⟨cd, hc, hd'⟩ := PySem.W.any_some hh
  have hx : s.heap.get? x = some ⟨.ref C, some dx, .plain, #[]⟩ := I.obj
  refine wpAny_bind (wpAny_pure (wpAny_bind (wpAny_bind (wpAny_loadPart hx (wpAny_bind (PySem.W.Looks.here (s := { s with toks := s.toks + 1 }) (PySem.W.looks_clsIn X hc) ?_))))))
  rw [hd']
  refine wpAny_pure (a := some dx) (wpAny_bind (wpAny_pure (wpAny_bind ?_)))
  refine wpAny_nsSet1 (s := { s with toks := s.toks + 1 }) I.ns fun h' hn2 hs2 => ?_
  obtain ⟨oD, esD, epD, hoD, hdD, hcD⟩ := hn2.count (PySem.Within.cons name v hw)
  refine wpAny_bind (wpAny_lookBehind hoD (by rw [hdD]; exact pastItsLine_dict (Nat.le_trans hcD (by rw [List.length_cons]; lia))) ?_)
  exact wpAny_pure (h _ ⟨(hs2.2 _ (Ne.symm I.ne)).trans I.obj, hn2, I.ne⟩ hs2)
theorem make_map {R : Result → Shared → Prop} {vs : List Value} {kw : List (Str × Value)} (X : K.In s.heap) (hm : PySem.W.makesIn K C = true)
    (hi : PySem.W.findIn K (.ref C) "__init__" = some (some (.ref f))) (hf : PySem.W.typeIn K (.ref f) = some (.type "function"))
    (h : codeAny (model prog w) (A.under (.builtin "type.__call__" ⟨.ref C :: vs, kw⟩)) (.call (.ref f) ⟨.ref (s.heap.objs.size + 1) :: vs, kw⟩) (PySem.W.InitBack (s.heap.objs.size + 1) R)
      { s with heap := (s.heap.push PySem.W.emptyDict).push (PySem.W.instObj C s.heap.objs.size) }) :
    codeAny (model prog w) A (.call (.ref C) ⟨vs, kw⟩) R s := by
  obtain ⟨hh, g, d, t, os⟩ := s
  exact PySem.W.make_core (PySem.W.makes_of X hm) (PySem.W.looks_findIn X hi) (fun self => PySem.W.bind_fn X self hf) (.inl rfl) h
end
noncomputable def putF (f : Str) (v : V) : List (Str × V) → List (Str × V)
  | [] => [(f, v)]
  | (g, x) :: r => if g = f then (g, v) :: r else (g, x) :: putF f v r
theorem lookup_putF (f g : Str) (v : V) : ∀ fs : List (Str × V), (putF f v fs).lookup g = if g = f then some v else fs.lookup g
  | [] => by
    show List.lookup g [(f, v)] = _
    by_cases h : g = f
    · have hb : (g == f) = true := beq_iff_eq.mpr h
      simp only [List.lookup, hb, if_pos h]
    · have hb : (g == f) = false := beq_eq_false_iff_ne.mpr h
      simp only [List.lookup, hb, if_neg h]
  | (k, x) :: r => by
    have ih := lookup_putF f g v r
    rw [show putF f v ((k, x) :: r) = (if k = f then (k, v) :: r else (k, x) :: putF f v r) from rfl]
    by_cases hk : k = f
    · rw [if_pos hk]
      by_cases h : g = k
      · have hb : (g == k) = true := beq_iff_eq.mpr h
        simp only [List.lookup, hb, if_pos (h.trans hk)]
      · have hb : (g == k) = false := beq_eq_false_iff_ne.mpr h
        simp only [List.lookup, hb, if_neg (fun e : g = f => h (e.trans hk.symm))]
    · rw [if_neg hk]
      by_cases h : g = k
      · have hb : (g == k) = true := beq_iff_eq.mpr h
        simp only [List.lookup, hb, if_neg (fun e : g = f => hk (h.symm.trans e))]
      · have hb : (g == k) = false := beq_eq_false_iff_ne.mpr h
        simp only [List.lookup, hb]
        exact ih
theorem keys_putF (f : Str) (v : V) : ∀ fs : List (Str × V), f ∈ (putF f v fs).map (·.1) ∧ ∀ g, g ∈ fs.map (·.1) → g ∈ (putF f v fs).map (·.1)
  | [] => ⟨by simp [putF], fun g h => by simp at h⟩
  | (k, x) :: r => by
    obtain ⟨i1, i2⟩ := keys_putF f v r
    rw [show putF f v ((k, x) :: r) = (if k = f then (k, v) :: r else (k, x) :: putF f v r) from rfl]
    by_cases hk : k = f
    · rw [if_pos hk]
      subst hk
      exact ⟨by simp, fun g h => by simpa using h⟩
    · rw [if_neg hk]
      refine ⟨?_, fun g h => ?_⟩
      · rw [List.map_cons]
        exact List.mem_cons_of_mem _ i1
      · rw [List.map_cons] at h ⊢
        rcases List.mem_cons.mp h with e | e
        · exact List.mem_cons.mpr (.inl e)
        · exact List.mem_cons_of_mem _ (i2 g e)
theorem length_putF (f : Str) (v : V) : ∀ fs : List (Str × V), (putF f v fs).length ≤ fs.length + 1
  | [] => by simp [putF]
  | (k, x) :: r => by
    have ih := length_putF f v r
    rw [show putF f v ((k, x) :: r) = (if k = f then (k, v) :: r else (k, x) :: putF f v r) from rfl]
    by_cases hk : k = f
    · rw [if_pos hk, List.length_cons, List.length_cons]; lia
    · rw [if_neg hk, List.length_cons, List.length_cons]; lia
theorem RelO.some_of {v : V} {o : Option Value} (r : RelO (some v) o) : ∃ u, o = some u ∧ RelV v u := by
  cases o with
  | none => exact (show False from r).elim
  | some u => exact ⟨u, rfl, r⟩
theorem RelO.none_of {o : Option Value} (r : RelO none o) : o = none := by
  cases o with
  | none => rfl
  | some u => exact (show False from r).elim
theorem handed_of {v : V} {u : Value} (r : RelV v u) : PySem.W.handedIn u = true := by
  cases v with
  | non => cases (show u = Value.none from r); rfl
  | bl b => cases (show u = Value.bool b from r); rfl
  | int i => obtain ⟨t, e⟩ := (show ∃ t, u = Value.int i t from r); cases e; rfl
  | str x => obtain ⟨t, e⟩ := (show ∃ t, u = Value.str x t from r); cases e; rfl
  | byt b => obtain ⟨t, e⟩ := (show ∃ t, u = Value.bytes b t from r); cases e; rfl
  | flt b => obtain ⟨t, e⟩ := (show ∃ t, u = Value.float b t from r); cases e; rfl
  | ref a => cases (show u = Value.ref a from r); rfl
  | ty n => cases (show u = Value.type n from r); rfl
section
variable {P : Program} {w : World} {H H' : Hp} {h h' : Heap} {a C dx : Addr} {fs fs' : List (Str × V)}
theorem ins_get (hok : HOk P w H h) (e : H a = some (.ins C dx fs)) : ∃ mA, ObjM h a dx C mA ∧ (∀ f, RelO (fs.lookup f) (mA f)) ∧ PySem.Within mA (fs.map (·.1)) ∧ fs.length ≤ 1000 ∧ H dx = some (.own a) := by
  obtain ⟨d, z, ne, ob, mA, n, r, q⟩ := (show ObjOk P w H h a (.ins C dx fs) from hok a _ e)
  exact ⟨mA, ⟨ob, n, ne⟩, r, q, z, d⟩
end
structure Cls (K : PySem.W.Frag) (C : Addr) : Prop where
  pg : PySem.W.plainGet K C Str.empty = true
  hd : PySem.W.hasDictIn K C = true
  po : PySem.W.plainOver K C = true
  sa : PySem.W.findIn K (.ref C) "__setattr__" = some (some (.builtin "object.__setattr__"))
theorem Cls.get {K : PySem.W.Frag} {C : Addr} (c : Cls K C) (f : Str) : PySem.W.plainGet K C f = true := c.pg
noncomputable def NoAttr (K : PySem.W.Frag) (C : Addr) (f : Str) : Prop := PySem.W.findIn K (.ref C) f = some none
theorem NoAttr.taker {K : PySem.W.Frag} {C : Addr} {f : Str} (n : NoAttr K C f) : PySem.W.takerIn K C f = some none := by
  unfold PySem.W.takerIn
  rw [show PySem.W.findIn K (.ref C) f = some none from n]
  rfl
structure Meth (K : PySem.W.Frag) (C : Addr) (m : Str) (f : Addr) : Prop where
  at_ : PySem.W.findIn K (.ref C) m = some (some (.ref f))
  fn : PySem.W.isFn K (.ref f) = true
  kp : PySem.W.keepIn K (.ref f) = true
section
variable {X : Cx} {pins : List (Addr × Obj)} {σ : St} {H : Hp} {s : Shared} {a C dx : Addr} {fs : List (Str × V)} {f : Str} {v : V} {A : Around} {E : Value → Shared → Prop}
theorem getattr_ok {b : Bool} {Q : Value → Shared → Prop} (I : Inv X pins σ H s) (e : H a = some (.ins C dx fs)) (c : Cls X.K C) (n : NoAttr X.K C f) (l : fs.lookup f = some v)
    (h : ∀ u s', Inv X pins σ H s' → RelV v u → Q u s') : wpAny (model X.prog X.w) A (getAttr (.ref a) f b) Q E s := by
  obtain ⟨mA, O, r, _, _, _⟩ := ins_get I.hok e
  obtain ⟨u, hu, ru⟩ := RelO.some_of (v := v) (o := mA f) (by rw [← l]; exact r f)
  exact get_map I.kIn O (c.get f) c.hd n hu (handed_of ru) (h u _ (I.tok _) ru)
theorem getmeth_ok {m : Str} {g : Addr} {pl : Sem Bool} {Q : Value × List Value → Shared → Prop} (I : Inv X pins σ H s) (e : H a = some (.ins C dx fs)) (c : Cls X.K C) (k : Meth X.K C m g) (l : fs.lookup m = none)
    (h : Q (.ref g, [.ref a]) s) : wpAny (model X.prog X.w) A (getMethod (.ref a) m pl) Q E s := by
  obtain ⟨mA, O, r, _, _, _⟩ := ins_get I.hok e
  have hn : mA m = none := RelO.none_of (by rw [← l]; exact r m)
  exact get_meth I.kIn O (c.get m) k.at_ k.fn hn h
theorem setattr_ok {y : V} {u : Value} {Q : Unit → Shared → Prop} (I : Inv X pins σ H s) (e : H a = some (.ins C dx fs)) (c : Cls X.K C) (n : NoAttr X.K C f) (hl : fs.length < 1000) (ry : RelV y u)
    (h : ∀ s', Inv X pins σ (upd H a (.ins C dx (putF f y fs))) s' → Q () s') : wpAny (model X.prog X.w) A (setAttr (.ref a) f u) Q E s := by
  obtain ⟨mA, O, r, wi, _, ho⟩ := ins_get I.hok e
  have hz : (fs.map (·.1)).length ≤ sizeLine := by rw [List.length_map, sizeLine_eq]; lia
  refine set_map I.kIn O c.sa c.po n.taker c.hd wi hz fun h' O' sb => h _ ?_
  have hd : ∃ o, h'.get? dx = some o := let ⟨o, _, _, e', _⟩ := O'.ns; ⟨o, e'⟩
  refine I.write (x := a) (e := dx) (by rw [e]; exact True.intro) (.inr ho) (fun b q hb z => (sb.2 b hb).trans z) hd ?_
  refine ⟨by rw [upd_ne O.ne]; exact ho, ?_, O.ne, O'.obj, _, O'.ns, fun g => ?_, fun g hg => ?_⟩
  · have := length_putF f y fs; lia
  · show RelO ((putF f y fs).lookup g) (if g = f then some u else mA g)
    rw [lookup_putF]
    by_cases q : g = f
    · rw [if_pos q, if_pos q]; exact ry
    · rw [if_neg q, if_neg q]; exact r g
  · by_cases q : g = f
    · rw [q]; exact (keys_putF f y fs).1
    · refine (keys_putF f y fs).2 g (wi g fun z => hg ?_)
      show (if g = f then some u else mA g) = none
      rw [if_neg q]; exact z
theorem Inv.made (I : Inv X pins σ H s) : Inv X pins σ (upd (upd H s.heap.objs.size (.own (s.heap.objs.size + 1))) (s.heap.objs.size + 1) (.ins C s.heap.objs.size []))
    { s with heap := (s.heap.push PySem.W.emptyDict).push (PySem.W.instObj C s.heap.objs.size) } := by
  have e1 : (s.heap.push PySem.W.emptyDict).get? s.heap.objs.size = some PySem.W.emptyDict := Heap.get?_push_size s.heap rfl
  have e2 : ((s.heap.push PySem.W.emptyDict).push (PySem.W.instObj C s.heap.objs.size)).get? (s.heap.objs.size + 1) = some (PySem.W.instObj C s.heap.objs.size) := by
    have := Heap.get?_push_size (s.heap.push PySem.W.emptyDict) (o := PySem.W.instObj C s.heap.objs.size) rfl
    rwa [Heap.size_push] at this
  have e3 : (s.heap.push PySem.W.emptyDict).Ns s.heap.objs.size (fun _ => none) := ⟨PySem.W.emptyDict, #[], _, e1, rfl, (fun e he => absurd he (by simp)), fun _ => rfl⟩
  have I1 := I.laid (a := s.heap.objs.size) (o := .own (s.heap.objs.size + 1)) (h' := s.heap.push PySem.W.emptyDict) (t' := s.toks) (fun b u q => Heap.get?_push_of_some _ q) (Nat.le_refl _) ⟨_, e1⟩
  refine I1.laid (a := s.heap.objs.size + 1) (o := .ins C s.heap.objs.size []) (t' := s.toks) (fun b u q => Heap.get?_push_of_some _ q) (Nat.le_of_eq (Heap.size_push _ _)) ?_
  have ne : s.heap.objs.size ≠ s.heap.objs.size + 1 := Nat.ne_of_lt (Nat.lt_succ_self _)
  refine ⟨by rw [upd_ne ne, upd_same], Nat.zero_le _, ne, e2, fun _ => none, (Heap.Ns1.of_empty e3).at fun o q => Heap.get?_push_of_some _ q, fun _ => True.intro, fun y hy => absurd rfl hy⟩
theorem attr_of {prog : Program} {w : World} {env : Env} {e : Expr} {f : Str} {pos : Pos} {s : Shared} {Q : Value → Shared → Prop} (hb : attributeBase e f env (eval e env) = eval e env)
    (h : wpAny (model prog w) A (eval e env) (fun o s₁ => wpAny (model prog w) A (getAttr o f true) Q E s₁) E s) : wpAny (model prog w) A (eval (.Attribute e f pos) env) Q E s :=
  Attribute_any_ h (by rw [arm_eval_Attribute, hb])
end
inductive hasF (K : PySem.W.Frag) (f : Str) (Q : VK) (x : V) (H1 : Hp) : Prop
  | mk (a : _) (C : _) (dx : _) (fs : _) (v : _) (c0 : x = .ref a) (c1 : H1 a = some (.ins C dx fs)) (c2 : Cls K C) (c3 : NoAttr K C f) (c4 : fs.lookup f = some v) (c5 : Q v H1) : hasF K f Q x H1
noncomputable def tFld (K : PySem.W.Frag) (ta : TE) (f : Str) : TE := fun σ H Q => ta σ H fun x H1 => hasF K f Q x H1
noncomputable def sFld (K : PySem.W.Frag) (ta tv : TE) (f : Str) : TS := fun D σ H => tv σ H fun y H1 => ta σ H1 fun x H2 => ∃ a C dx fs, x = .ref a ∧ H2 a = some (.ins C dx fs) ∧ Cls K C ∧ NoAttr K C f ∧ fs.length < 1000 ∧
  D.nx σ (upd H2 a (.ins C dx (putF f y fs)))
section
variable {X : Cx} {o e value : Expr} {f : Str} {pos pos' tpos : Pos} {ta tv : TE}
theorem pe_fld (he : PE X e ta) (hb : attributeBase e f X.env (eval e X.env) = eval e X.env) : PE X (.Attribute e f pos) (tFld X.K ta f) := by
  intro pins s σ H Q I h
  refine attr_of hb (thn (he pins s σ H _ I h) fun u s1 hp0 => ?_)
  obtain ⟨x, H1, I1, rx, a, C, dx, fs, v, ex, ea, c, n, l, q⟩ := hp0
  subst ex
  obtain rfl : u = Value.ref a := rx
  exact getattr_ok I1 ea c n l fun u' s2 I2 ru => ⟨v, H1, I2, ru, q⟩
theorem ps_fld (ha : PE X o ta) (hv : PE X value tv) (hs : swapsWith value (some (.Attribute o f pos')) pos.line X.env = pure false) : PS X (.Assign [.Attribute o f pos'] value pos) (sFld X.K ta tv f) := by
  intro pins s σ H D I h
  refine plainObj_wpAny_Assign_Attribute (thn (hv pins s σ H _ I h) fun u s1 hp0 => ?_) hs
  obtain ⟨y, H1, I1, ry, q⟩ := hp0
  refine thn (ha pins s1 σ H1 _ I1 q) fun ov s2 hp1 => ?_
  obtain ⟨x, H2, I2, rx, a, C, dx, fs, ex, ea, c, n, l, q2⟩ := hp1
  subst ex
  obtain rfl : ov = Value.ref a := rx
  exact setattr_ok I2 ea c n l ry fun s3 I3 => ⟨σ, _, I3, q2⟩
end
end L2
namespace L2
open PySem PySem.Spec PyProof.Rows
structure Room (k : Nat) (A : Around) : Prop where
  hd : A.handled = none
  dp : A.depth + 3 * k + 5 < recursionLimit
  un : A.units + 16 * k + 200 < cLine
theorem Room.mono {j k : Nat} {A : Around} (r : Room k A) (h : j ≤ k) : Room j A := ⟨r.hd, by have := r.dp; lia, by have := r.un; lia⟩
theorem Room.deeper {k : Nat} {A : Around} (r : Room (k + 1) A) (env : Env) : Room k (A.deeper env) :=
  ⟨r.hd, by have := r.dp; show A.depth + 1 + 3 * k + 5 < _; lia, by have := r.un; show A.units + 3 + 16 * k + 200 < _; lia⟩
theorem make_depth {A : Around} {C : Addr} {us : List Value} {kw : List (Str × Value)} : (A.under (.builtin "type.__call__" ⟨.ref C :: us, kw⟩)).depth = A.depth + 1 := by
  first | rfl | simp [Around.under, Code.weight, Code.isCreation, Code.isGuard, Code.isCaller, Code.frames, Code.isFrame, guardIds]
theorem make_units {A : Around} {C : Addr} {us : List Value} {kw : List (Str × Value)} : (A.under (.builtin "type.__call__" ⟨.ref C :: us, kw⟩)).units = A.units + 1 := by
  first | rfl | simp [Around.under, Code.cUnits, Code.frames, Code.isFrame]
theorem Room.make {k : Nat} {A : Around} (r : Room (k + 1) A) (C : Addr) (us : List Value) (kw : List (Str × Value)) : Room k (A.under (.builtin "type.__call__" ⟨.ref C :: us, kw⟩)) :=
  ⟨r.hd, by have := r.dp; rw [make_depth]; lia, by have := r.un; rw [make_units]; lia⟩
theorem Room.depth {k : Nat} {A : Around} (r : Room k A) : A.depth < recursionLimit := by have := r.dp; lia
theorem Room.units {k : Nat} {A : Around} (r : Room k A) : A.units + 64 < cLine := by have := r.un; lia
noncomputable def tNil : TA := fun _ H Q => Q [] H
noncomputable def tCons (ta : TE) (tr : TA) : TA := fun σ H Q => ta σ H fun x H1 => tr σ H1 fun xs H2 => Q (x :: xs) H2
section
variable {X : Cx} {e : Expr} {es : List Expr} {te : TE} {t : TA} {pos : Pos}
theorem pa_nil : PA X [] tNil := fun _ _ _ _ H Q I h => Calls.spliced_nil ⟨[], H, I, .nil, h⟩
theorem pa_cons (ha : PE X e te) (hr : PA X es t) (hs : starEach (e :: es) X.env = (false, eval e X.env) :: starEach es X.env := by rfl) : PA X (e :: es) (tCons te t) := by
  intro pos pins s σ H Q I h
  rw [hs]
  show wpAny _ _ (spliced ((false, eval e X.env) :: backTo pos (starEach es X.env))) _ _ s
  refine Calls.spliced_cons (thn (ha pins s σ H _ I h) fun u s1 hp0 => ?_)
  obtain ⟨x, H1, I1, r1, q1⟩ := hp0
  exact thn (hr pos pins s1 σ H1 _ I1 q1) fun us s2 hp0 => by obtain ⟨xs, H2, I2, r2, q2⟩ := hp0; exact ⟨x :: xs, H2, I2, .cons r1 r2, q2⟩
noncomputable def tTup (t : TA) : TE := fun σ H Q => t σ H fun xs H1 => xs.length ≤ sizeLine ∧ ∀ p, H1 p = none → Q (.ref p) (upd H1 p (.tup xs))
noncomputable def tLst (t : TA) : TE := fun σ H Q => t σ H fun xs H1 => xs.length ≤ sizeLine ∧ ∀ p, H1 p = none → Q (.ref p) (upd H1 p (.lst xs))
theorem pe_tup {x1} (h : PA X es t) : PE X (.Tuple es x1 pos) (tTup t) := by
  intro pins s σ H Q I hq
  refine wpAny_Tuple_spliced (thn (h pos pins s σ H _ I hq) fun us s1 hp0 => ?_)
  obtain ⟨xs, H1, I1, r, z, q⟩ := hp0
  refine ⟨by rw [← r.length]; exact z, ?_⟩
  have hf : H1 s1.heap.objs.size = none := I1.hok.fresh (Nat.le_refl _)
  refine ⟨.ref s1.heap.objs.size, upd H1 s1.heap.objs.size (.tup xs), I1.laid (t' := s1.toks) (fun b u e => Heap.get?_push_of_some _ e) (Nat.le_refl _) ?_, rfl, q _ hf⟩
  exact ⟨z, us, r, ⟨_, Heap.get?_push_size _ rfl, rfl, _, rfl⟩⟩
theorem pe_lst (h : PA X es t) : PE X (.List es pos) (tLst t) := by
  intro pins s σ H Q I hq
  refine wpAny_List_spliced (thn (h pos pins s σ H _ I hq) fun us s1 hp0 => ?_)
  obtain ⟨xs, H1, I1, r, z, q⟩ := hp0
  refine ⟨by rw [← r.length]; exact z, ?_⟩
  have hf : H1 s1.heap.objs.size = none := I1.hok.fresh (Nat.le_refl _)
  refine ⟨.ref s1.heap.objs.size, upd H1 s1.heap.objs.size (.lst xs), I1.laid (t' := s1.toks) (fun b u e => Heap.get?_push_of_some _ e) (Nat.le_refl _) ?_, rfl, q _ hf⟩
  exact ⟨z, us, 0, r, Heap.get?_push_size _ rfl⟩
end
noncomputable abbrev Sp := List V → Hp → VK → XK → Prop
noncomputable abbrev CXT := List Env → Hp → Shared → XK → Value → Shared → Prop
structure Env0 (P : Program) (w : World) (K : PySem.W.Frag) (mg : Str → Option Value) (base : Heap) (A : Around) (outer : List Env) (s : Shared) (H : Hp) : Prop where
  frames : A.frames = some outer
  mod : Mod K mg base
  bs : ∀ b o, base.get? b = some o → s.heap.get? b = some o ∧ H b = none
  bsz : base.objs.size ≤ s.heap.objs.size
  funs : s.heap.FunFrames base outer
  frf : ∀ b ∈ frs outer, H b = none
  hok : HOk P w H s.heap
  bare : AllBare s.gens
noncomputable def CE (outer : List Env) (P : Program) (w : World) (H : Hp) (s : Shared) (Q : VK) (u : Value) (s' : Shared) : Prop :=
  ∃ v H', s'.os = s.os ∧ AllBare s'.gens ∧ Un (frs outer) [] H H' s.heap s'.heap ∧ HOk P w H' s'.heap ∧ RelV v u ∧ Q v H'
noncomputable def CR (CX : CXT) (outer : List Env) (P : Program) (w : World) (H : Hp) (s : Shared) (Q : VK) (E : XK) (r : Result) (s' : Shared) : Prop :=
  match r with
  | .ok (.ret u) => CE outer P w H s Q u s'
  | .ok _ => False
  | .error e => CX outer H s E e s'
structure FnOk (P : Program) (w : World) (K : PySem.W.Frag) (mg : Str → Option Value) (base : Heap) (CX : CXT) (k : Nat) (f : Addr) (fd : FuncData) (ps : List Str) (sp : Sp) : Prop where
  len : ∀ vs H Q E, sp vs H Q E → vs.length = ps.length
  run : ∀ (A : Around) (outer : List Env) (s : Shared) (H : Hp) (args : Args) (us : List Value) (vs : List V) (Q : VK) (E : XK), Room k A → Env0 P w K mg base A outer s H → BindsTo s fd args (ps.zip us) → Vals vs us → sp vs H Q E →
    codeAny (model P w) A (.call (.ref f) args) (CR CX outer P w H s Q E) s
theorem FnOk.imp {P : Program} {w : World} {K : PySem.W.Frag} {mg : Str → Option Value} {base : Heap} {CX : CXT} {k : Nat} {f : Addr} {fd : FuncData} {ps : List Str} {sp sp' : Sp} (F : FnOk P w K mg base CX k f fd ps sp)
    (h : ∀ vs H Q E, sp' vs H Q E → sp vs H Q E) : FnOk P w K mg base CX k f fd ps sp' :=
  ⟨fun vs H Q E q => F.len vs H Q E (h _ _ _ _ q), fun A outer s H args us vs Q E hr he hb hv hs => F.run A outer s H args us vs Q E hr he hb hv (h _ _ _ _ hs)⟩
theorem Env0.make {P : Program} {w : World} {K : PySem.W.Frag} {mg : Str → Option Value} {base : Heap} {A : Around} {outer : List Env} {s : Shared} {H : Hp} (e : Env0 P w K mg base A outer s H) (C : Addr) (us : List Value) (kw : List (Str × Value)) :
    Env0 P w K mg base (A.under (.builtin "type.__call__" ⟨.ref C :: us, kw⟩)) outer s H := ⟨by first | exact e.frames | (simpa [Around.under, Code.envs, Code.isFrame, pushEnvs] using e.frames), e.mod, e.bs, e.bsz, e.funs, e.frf, e.hok, e.bare⟩
section
variable {X : Cx} {pins : List (Addr × Obj)} {σ : St} {H : Hp} {s s' : Shared}
theorem Inv.env0 (I : Inv X pins σ H s) : Env0 X.prog X.w X.K X.mg X.base X.A X.stack s H :=
  ⟨I.ok.frames, I.ok.mod, I.bs, Nat.le_trans I.ok.bsz I.sz, I.stack, I.stkFree, I.hok, I.bare⟩
theorem Inv.after {Q : VK} {u : Value} (I : Inv X pins σ H s) (h : CE X.stack X.prog X.w H s Q u s') : EP X pins σ Q u s' := by
  obtain ⟨v, H', os, bare, un, hok, r, q⟩ := h
  obtain ⟨hh, g, d, t, os'⟩ := s'
  obtain rfl : os' = s.os := os
  exact ⟨v, H', I.call (h' := hh) (g' := g) (d' := d) (t' := t) (ch := []) un hok bare (fun b z => absurd z (by simp)), r, q⟩
end
noncomputable def tCall (sp : Sp) (dvs : List V) (E : XK) (t : TA) : TE := fun σ H Q => t σ H fun vs H1 => sp (vs ++ dvs) H1 Q E
inductive isI (C : Addr) (m : Str) (x : V) (H1 : Hp) (R : Prop) : Prop
  | mk (a : _) (dx : _) (fs : _) (c0 : x = .ref a) (c1 : H1 a = some (.ins C dx fs)) (c2 : fs.lookup m = none) (c3 : R) : isI C m x H1 R
noncomputable def tMeth (C : Addr) (m : Str) (sp : Sp) (dvs : List V) (E : XK) (ta : TE) (t : TA) : TE := fun σ H Q => ta σ H fun x H1 => isI C m x H1 (t σ H1 fun vs H2 => sp (x :: (vs ++ dvs)) H2 Q E)
noncomputable def tMake (C : Addr) (sp : Sp) (dvs : List V) (E : XK) (t : TA) : TE := fun σ H Q => t σ H fun vs H1 => ∀ x dx, H1 x = none → H1 dx = none → dx ≠ x →
  sp (.ref x :: (vs ++ dvs)) (upd (upd H1 dx (.own x)) x (.ins C dx [])) (fun v H2 => v = .non ∧ Q (.ref x) H2) E
noncomputable def Binds (K : PySem.W.Frag) (fd : FuncData) (ps : List Str) (ds : List Value) : Prop :=
  ∀ (s : Shared) (us : List Value), K.In s.heap → (us ++ ds).length = ps.length → BindsTo s fd ⟨us, []⟩ (ps.zip (us ++ ds))
theorem Binds.all {K : PySem.W.Frag} {fd : FuncData} {ps : List Str} (h : ∀ us : List Value, us.length = ps.length → bindArgs fd ⟨us, []⟩ = pure (ps.zip us)) : Binds K fd ps [] := fun s us _ hl => by
  rw [List.append_nil] at hl ⊢
  exact .of_eq (h us hl)
noncomputable def Passes (CX : CXT) (X : Cx) (E : XK) : Prop := ∀ (pins : List (Addr × Obj)) (σ : St) (H : Hp) (s : Shared) (e : Value) (s' : Shared), Inv X pins σ H s → CX X.stack H s E e s' → X.xe e s'
section
variable {X : Cx} {CX : CXT} {k : Nat} {f C : Addr} {fd : FuncData} {ps : List Str} {sp : Sp} {dvs : List V} {ds : List Value} {E : XK} {x m : Str} {p pos apos : Pos} {e o : Expr} {es : List Expr} {ta : TE} {t : TA}
theorem run_fn {pins : List (Addr × Obj)} {σ : St} {H : Hp} {s : Shared} {Q : VK} {us : List Value} {vs : List V} (F : FnOk X.prog X.w X.K X.mg X.base CX k f fd ps sp) (hr : Room k X.A) (hb : Binds X.K fd ps ds) (hd : Vals dvs ds) (hx : Passes CX X E)
    (I : Inv X pins σ H s) (r : Vals vs us) (h : sp (vs ++ dvs) H Q E) : wpAny (model X.prog X.w) X.A (call (.ref f) us) (EP X pins σ Q) X.xe s := by
  have r2 : Vals (vs ++ dvs) (us ++ ds) := r.append hd
  have hl : (us ++ ds).length = ps.length := by rw [← r2.length]; exact F.len _ _ _ _ h
  refine wpAny_call (codeAny_mono (F.run X.A X.stack s H ⟨us, []⟩ (us ++ ds) (vs ++ dvs) Q E hr I.env0 (hb s us I.kIn hl) r2 h) fun r s' hq => ?_)
  cases r with
  | error e => exact hx pins σ H s e s' I hq
  | ok fl =>
    cases fl with
    | ret u => exact I.after hq
    | next => exact False.elim hq
    | brk => exact False.elim hq
    | cont => exact False.elim hq
theorem pe_call (F : FnOk X.prog X.w X.K X.mg X.base CX k f fd ps sp) (hr : Room k X.A) (hg : Gl X x) (hm : X.mg x = some (.ref f)) (hk : PySem.W.keepIn X.K (.ref f) = true) (hb : Binds X.K fd ps ds) (hd : Vals dvs ds) (hx : Passes CX X E)
    (ha : PA X (e :: es) t) (hdb : (x == ("__debug__" : Str)) = false := by decide) (he : starEach (e :: es) X.env = (false, eval e X.env) :: starEach es X.env := by rfl) (hpl : (backTo pos (starEach es X.env)).any (·.1) = false := by rfl) :
    PE X (.Call (.Name x p) (e :: es) [] pos) (tCall sp dvs E t) := by
  intro pins s σ H Q I h
  refine wpAny_Call_Name_kw (ld_glob I hg hm ?_ hdb)
  refine PySem.W.callWith_K (h₀ := X.base) I.ok.mod.kin hk (thn (ha pos pins s σ H _ I h) fun us s1 hp0 => ?_) he hpl
  obtain ⟨vs, H1, I1, r, q⟩ := hp0
  refine ⟨I1.kIn, ?_⟩
  exact run_fn F hr hb hd hx I1 r q
theorem pe_meth0 {pl : Sem Bool} (he : PE X o ta) (c : Cls X.K C) (hm : Meth X.K C m f) (F : FnOk X.prog X.w X.K X.mg X.base CX k f fd ps sp) (hr : Room k X.A) (hb : Binds X.K fd ps ds) (hd : Vals dvs ds) (hx : Passes CX X E)
    (ht : eval (.Call (.Attribute o m apos) [] [] pos) X.env = (do
      let ov ← eval o X.env
      standAt apos.atName
      let (f, first) ← holding [ov] (getMethod ov m pl)
      callWith pos f first (backTo pos (starEach [] X.env)) (backToKw pos (keywordEach [] X.env))) := by rfl) :
    PE X (.Call (.Attribute o m apos) [] [] pos) (tMeth C m sp dvs E ta tNil) := by
  intro pins s σ H Q I h
  refine PySem.W.methodCall_KW (pl := pl) (thn (he pins s σ H _ I h) fun u s1 hp0 => ?_) ht
  obtain ⟨x, H1, I1, rx, a, dx, fs, ex, ea, l, q⟩ := hp0
  subst ex
  obtain rfl : u = Value.ref a := rx
  refine getmeth_ok I1 ea c hm l ?_
  exact PySem.W.callWith_K0 (first := [.ref a]) I1.kIn hm.kp (run_fn (us := [.ref a]) (vs := [.ref a]) F hr hb hd hx I1 (.cons rfl .nil) q)
structure Mk (K : PySem.W.Frag) (C f : Addr) : Prop where
  makes : PySem.W.makesIn K C = true
  init : PySem.W.findIn K (.ref C) "__init__" = some (some (.ref f))
  fn : PySem.W.isFn K (.ref f) = true
  kp : PySem.W.keepIn K (.ref C) = true
theorem run_make {pins : List (Addr × Obj)} {σ : St} {H : Hp} {s : Shared} {Q : VK} {us : List Value} {vs : List V} (M : Mk X.K C f) (F : FnOk X.prog X.w X.K X.mg X.base CX k f fd ps sp) (hr : Room (k + 1) X.A) (hb : Binds X.K fd ps ds) (hd : Vals dvs ds)
    (hx : Passes CX X E) (I : Inv X pins σ H s) (r : Vals vs us)
    (h : ∀ x dx, H x = none → H dx = none → dx ≠ x → sp (.ref x :: (vs ++ dvs)) (upd (upd H dx (.own x)) x (.ins C dx [])) (fun v H2 => v = .non ∧ Q (.ref x) H2) E) :
    wpAny (model X.prog X.w) X.A (call (.ref C) us) (EP X pins σ Q) X.xe s := by
  have hq := h (s.heap.objs.size + 1) s.heap.objs.size (I.hok.fresh (Nat.le_succ _)) (I.hok.fresh (Nat.le_refl _)) (Nat.ne_of_lt (Nat.lt_succ_self _))
  have I2 := Inv.made (C := C) I
  have r2 : Vals (V.ref (s.heap.objs.size + 1) :: (vs ++ dvs)) (Value.ref (s.heap.objs.size + 1) :: (us ++ ds)) := .cons rfl (r.append hd)
  have hl : (Value.ref (s.heap.objs.size + 1) :: us ++ ds).length = ps.length := by
    have e := r2.length
    rw [F.len _ _ _ _ hq] at e
    exact e.symm
  refine wpAny_call (make_map (f := f) I.kIn M.makes M.init (beq_iff_eq.mp M.fn) (codeAny_mono (F.run _ X.stack _ _ ⟨Value.ref (s.heap.objs.size + 1) :: us, []⟩ (Value.ref (s.heap.objs.size + 1) :: (us ++ ds)) _ _ E (hr.make C us [])
    (I2.env0.make C us []) (hb _ (Value.ref (s.heap.objs.size + 1) :: us) I2.kIn hl) r2 hq) fun r s' hq' => ?_))
  cases r with
  | error e => exact hx pins σ _ _ e s' I2 hq'
  | ok fl =>
    cases fl with
    | ret u =>
      obtain ⟨v, H', I3, rv, ev, q3⟩ := I2.after hq'
      subst ev
      exact ⟨rv, ⟨V.ref (s.heap.objs.size + 1), H', I3, rfl, q3⟩⟩
    | next => exact False.elim hq'
    | brk => exact False.elim hq'
    | cont => exact False.elim hq'
theorem pe_make (M : Mk X.K C f) (F : FnOk X.prog X.w X.K X.mg X.base CX k f fd ps sp) (hr : Room (k + 1) X.A) (hg : Gl X x) (hm : X.mg x = some (.ref C)) (hb : Binds X.K fd ps ds) (hd : Vals dvs ds) (hx : Passes CX X E)
    (ha : PA X (e :: es) t) (hdb : (x == ("__debug__" : Str)) = false := by decide) (he : starEach (e :: es) X.env = (false, eval e X.env) :: starEach es X.env := by rfl) (hpl : (backTo pos (starEach es X.env)).any (·.1) = false := by rfl) :
    PE X (.Call (.Name x p) (e :: es) [] pos) (tMake C sp dvs E t) := by
  intro pins s σ H Q I h
  refine wpAny_Call_Name_kw (ld_glob I hg hm ?_ hdb)
  refine PySem.W.callWith_K (h₀ := X.base) I.ok.mod.kin M.kp (thn (ha pos pins s σ H _ I h) fun us s1 hp0 => ?_) he hpl
  obtain ⟨vs, H1, I1, r, q⟩ := hp0
  refine ⟨I1.kIn, ?_⟩
  exact run_make M F hr hb hd hx I1 r q
end
structure FnScope (N P : List Str) (sc : Scope) : Prop where
  kind : sc.kind = .function
  co : sc.isCoroutine = false
  gen : sc.isGenerator = false
  nd : N.Nodup
  pre : N.take P.length = P
  par : ∀ x ∈ P, sc.names.lookup x = some .local ∨ sc.names.lookup x = some .cell
  nofree : ∀ y ∈ sc.names, y.2 ≠ .free
theorem bindL_out {kindOf : Str → Option NameKind} {x : Str} : ∀ {binds : List (Str × Value)} {m : Str → Option Value}, (∀ v, (x, v) ∉ binds) → bindL kindOf binds m x = m x
  | [], _, _ => rfl
  | (n, v) :: r, m, h => by
    unfold bindL
    rw [bindL_out fun w hw => h w (List.mem_cons_of_mem _ hw)]
    split
    · have : x ≠ n := by rintro rfl; exact h v List.mem_cons_self
      simp [this]
    · rfl
theorem bindC_out {kindOf : Str → Option NameKind} {x : Str} : ∀ {binds : List (Str × Value)} {m : Str → Option Value}, (∀ v, (x, v) ∉ binds) → bindC kindOf binds m x = m x
  | [], _, _ => rfl
  | (n, v) :: r, m, h => by
    unfold bindC
    rw [bindC_out fun w hw => h w (List.mem_cons_of_mem _ hw)]
    split
    · rfl
    · have : x ≠ n := by rintro rfl; exact h v List.mem_cons_self
      simp [this]
theorem bindL_get {kindOf : Str → Option NameKind} {x : Str} {v : Value} : ∀ {P : List Str} {vs : List Value} {i : Nat} {m : Str → Option Value}, P.Nodup → P[i]? = some x → vs[i]? = some v → kindOf x = some .local →
    bindL kindOf (P.zip vs) m x = some v
  | [], _, _, _, _, h, _, _ => by simp at h
  | _ :: _, [], _, _, _, _, h, _ => by simp at h
  | p :: P, w :: vs, 0, m, nd, h1, h2, hk => by
    simp at h1 h2; subst h1; subst h2
    show bindL kindOf ((p, w) :: P.zip vs) m p = _
    unfold bindL
    rw [bindL_out fun v hv => (List.nodup_cons.mp nd).1 (List.of_mem_zip hv).1, if_pos hk]
    simp
  | p :: P, w :: vs, i + 1, m, nd, h1, h2, hk => by
    show bindL kindOf ((p, w) :: P.zip vs) m x = _
    unfold bindL
    exact bindL_get (i := i) (List.nodup_cons.mp nd).2 (by simpa using h1) (by simpa using h2) hk
theorem bindC_get {kindOf : Str → Option NameKind} {x : Str} {v : Value} : ∀ {P : List Str} {vs : List Value} {i : Nat} {m : Str → Option Value}, P.Nodup → P[i]? = some x → vs[i]? = some v → kindOf x ≠ some .local →
    bindC kindOf (P.zip vs) m x = some v
  | [], _, _, _, _, h, _, _ => by simp at h
  | _ :: _, [], _, _, _, _, h, _ => by simp at h
  | p :: P, w :: vs, 0, m, nd, h1, h2, hk => by
    simp at h1 h2; subst h1; subst h2
    show bindC kindOf ((p, w) :: P.zip vs) m p = _
    unfold bindC
    rw [bindC_out fun v hv => (List.nodup_cons.mp nd).1 (List.of_mem_zip hv).1, if_neg hk]
    simp
  | p :: P, w :: vs, i + 1, m, nd, h1, h2, hk => by
    show bindC kindOf ((p, w) :: P.zip vs) m x = _
    unfold bindC
    exact bindC_get (i := i) (List.nodup_cons.mp nd).2 (by simpa using h1) (by simpa using h2) hk
noncomputable def start (N : List Str) (vs : List V) : St := vs.map some ++ List.replicate (N.length - vs.length) none
noncomputable def cxOf (CX : CXT) (P : Program) (w : World) (K : PySem.W.Frag) (mg : Str → Option Value) (base : Heap) (N : List Str) (qual : Str) (scope : Scope) (f : Addr) (cd : Value) (A : Around) (outer : List Env) (s : Shared) (H : Hp) (E : XK) : Cx where
  prog := P
  w := w
  K := K
  mg := mg
  base := base
  A := A.deeper (envOfC qual scope s.heap.objs.size f cd)
  N := N
  s₀ := s
  H₀ := H
  env := envOfC qual scope s.heap.objs.size f cd
  outer := outer
  stack := envOfC qual scope s.heap.objs.size f cd :: outer
  ex := []
  calm := true
  fn := fun _ => true
  pn := []
  xe := fun e s' => wpAny (model P w) (A.deeper (envOfC qual scope s.heap.objs.size f cd)) (leaving (envOfC qual scope s.heap.objs.size f cd) e) (fun _ s'' => CX outer H s E e s'') (fun e' s'' => CX outer H s E e' s'') s'
theorem cell_has {sc : Scope} {n : Nat} {x : Str} (h : sc.names.lookup x = some .cell) : ∃ c, (cellsFrom n sc.names []).lookup x = some c := by
  have q := PySem.W.cellsFrom_some sc.names n [] (.inl h)
  exact Option.isSome_iff_exists.mp q
theorem inv_start {CX : CXT} {P : Program} {w : World} {K : PySem.W.Frag} {mg : Str → Option Value} {base : Heap} {N ps : List Str} {qual : Str} {scope : Scope} {f : Addr} {cd : Value} {A : Around} {outer : List Env} {s s1 : Shared} {H : Hp} {E : XK} {us : List Value} {vs : List V}
    (S : FnScope N ps scope) (hd : A.handled = none) (e0 : Env0 P w K mg base A outer s H) (hl : vs.length = ps.length) (r : Vals vs us)
    (x : InCallC s s.heap.objs.size (bindL (envOfC qual scope s.heap.objs.size f cd).kindOf (ps.zip us) fun _ => none) (cellsFrom (s.heap.objs.size + 1) scope.names []) (bindC (envOfC qual scope s.heap.objs.size f cd).kindOf (ps.zip us) fun _ => none) s1) :
    Inv (cxOf CX P w K mg base N qual scope f cd A outer s H E) [] (start N vs) H s1 := by
  have hpl : ps.length ≤ N.length := by have := congrArg List.length S.pre; rw [List.length_take] at this; lia
  obtain ⟨h1, tk, rfl, hk⟩ := x.done
  have noA : ∀ b : Addr, b ∉ (cxOf CX P w K mg base N qual scope f cd A outer s H E).ex := fun b z => absurd (show b ∈ ([] : List Addr) from z) (by simp)
  refine ⟨⟨e0.mod, S.kind, rfl, rfl, Nat.le_refl _, fun y z c h1 h2 => ?_, fun y hy => ?_, fun y c _ h => ?_, fun _ => hd, Around.frames_deeper e0.frames, .inr ⟨rfl, rfl⟩, fun b z => absurd z (noA b), e0.bs, e0.bsz, fun b _ _ => noA b, fun b z => absurd z (noA b), e0.funs, e0.frf⟩,
    rfl, e0.bare, Un.kept hk, ⟨_, x.toInCall.ns, fun i y v h1 h2 h3 => ?_⟩, fun y c h => ⟨_, x.cell y c h⟩, e0.hok.fresh (Nat.le_refl _), fun y c h => ?_, fun p hp => absurd (show p ∈ ([] : List (Addr × Obj)) from hp) (by simp), e0.hok.kept hk, ?_⟩
  · exact name_of_addr x.apart (PySem.mem_of_lookup h1) (PySem.mem_of_lookup h2)
  · have hy : scope.names.lookup y = some .cell ∨ scope.names.lookup y = some .free := hy
    rcases hy with hy | hy
    · exact cell_has hy
    · exact absurd rfl (S.nofree _ (PySem.mem_of_lookup hy))
  · exact Nat.le_of_lt (x.above y c (PySem.mem_of_lookup h))
  · have hi : i < vs.length := by
      unfold start at h2
      by_cases hi : i < vs.length
      · exact hi
      · rw [List.getElem?_append_right (by simpa using hi)] at h2
        rw [List.getElem?_replicate] at h2
        split at h2 <;> cases h2
    have ha : vs[i]? = some v := by
      unfold start at h2
      rw [List.getElem?_append_left (by simpa using hi), List.getElem?_map] at h2
      cases e : vs[i]? with
      | none => rw [e] at h2; cases h2
      | some a => rw [e] at h2; cases h2; rfl
    obtain ⟨u, hu, rv⟩ := r.get ha
    have hp : ps[i]? = some y := by
      rw [← S.pre, List.getElem?_take_of_lt (by lia)]; exact h1
    have ndP : ps.Nodup := by rw [← S.pre]; exact S.nd.sublist (List.take_sublist _ _)
    refine ⟨u, rv, ?_⟩
    rcases S.par y (List.mem_of_getElem? hp) with k | k
    · exact .inl ⟨k, bindL_get ndP hp hu k⟩
    · obtain ⟨c, e⟩ := cell_has (n := s.heap.objs.size + 1) k
      refine .inr ⟨.inl k, c, e, ?_⟩
      have q := x.cell y c e
      rw [bindC_get ndP hp hu (by show scope.names.lookup y ≠ _; rw [k]; decide)] at q
      exact q
  · exact e0.hok.fresh (Nat.le_of_lt (x.above y c (PySem.mem_of_lookup h)))
  · unfold start
    show _ = N.length
    rw [List.length_append, List.length_map, List.length_replicate]
    lia
theorem fn_of {CX : CXT} {P : Program} {w : World} {K : PySem.W.Frag} {mg : Str → Option Value} {base : Heap} {k : Nat} {f : Addr} {name qual : Str} {params : Arguments} {body : List Stmt} {scope : Scope} {dV kV doc pm cdv ct oc : Value} {an od : Option Addr}
    {osl : Array (Option Value)} {N ps : List Str} {sp : Sp} (lk : K.lookup f = some ⟨oc, od, .func (PySem.W.fnOf name qual params body scope dV kV doc pm an cdv ct), osl⟩) (hcd : PySem.W.codeIn K cdv qual = true) (S : FnScope N ps scope)
    (len : ∀ vs H Q E, sp vs H Q E → vs.length = ps.length)
    (hbody : ∀ (A : Around) (outer : List Env) (s : Shared) (H : Hp) (vs : List V) (Q : VK) (E : XK), Room k (A.deeper (envOfC qual scope s.heap.objs.size f cdv)) → sp vs H Q E →
      ∃ t, PSs (cxOf CX P w K mg base N qual scope f cdv A outer s H E) body t ∧ t { nx := fun _ H' => Q .non H', rt := Q } (start N vs) H) :
    FnOk P w K mg base CX (k + 1) f (PySem.W.fnOf name qual params body scope dV kV doc pm an cdv ct) ps sp := by
  refine ⟨len, fun A outer s H args us vs Q E hr e0 hb r hsp => ?_⟩
  have hl := len _ _ _ _ hsp
  have KX : K.In s.heap := e0.mod.kin.keeps fun b o e => (e0.bs b o e).1
  have lim : s.heap.NoLimit := e0.mod.nolimit.keeps fun b o e => (e0.bs b o e).1
  have hkind : ∀ y ∈ ps.zip us, scope.names.lookup y.1 = some .local ∨ (scope.names.lookup y.1 = some .cell ∧ ((cellsFrom (s.heap.objs.size + 1) scope.names []).lookup y.1).isSome = true) := fun ⟨n, v⟩ hy => by
    rcases S.par n (List.of_mem_zip hy).1 with q | q
    · exact .inl q
    · exact .inr ⟨q, PySem.W.cellsFrom_some _ _ _ (.inl q)⟩
  refine codeAny_call_function hr.depth (KX _ _ lk) rfl S.co S.gen rfl (PySem.W.codeRec_of KX hcd) (hb _ _ _ _ ?_)
  refine wpAny_newFunctionEnv_cells S.kind hkind fun env he s1 x => ?_
  subst he
  refine ⟨lim.keeps x.toInCall.keep, codeAny_func ?_⟩
  obtain ⟨t, ht, hq⟩ := hbody A outer s H vs Q E (hr.deeper _) hsp
  have I : Inv (cxOf CX P w K mg base N qual scope f cdv A outer s H E) [] (start N vs) H s1 := inv_start S hr.hd e0 hl r x
  refine wpAny_mono (ht [] s1 (start N vs) H _ I hq) (fun fl s' hs => ?_) fun e s' hs => hs
  have fin : ∀ {σ' : St} {H' : Hp} {v : V} {u : Value}, Inv (cxOf CX P w K mg base N qual scope f cdv A outer s H E) [] σ' H' s' → RelV v u → Q v H' → CE outer P w H s Q u s' :=
    fun {σ' H' v u} J rv q => ⟨v, H', J.os, J.bare, J.base, J.hok, rv, q⟩
  cases fl with
  | ret u =>
    obtain ⟨v, σ', H', J, rv, q⟩ := hs
    exact fin J rv q
  | next =>
    obtain ⟨σ', H', J, q⟩ := hs
    exact fin (v := V.non) (u := Value.none) J rfl q
  | brk =>
    obtain ⟨_, _, _, q⟩ := hs
    exact False.elim q
  | cont =>
    obtain ⟨_, _, _, q⟩ := hs
    exact False.elim q
end L2
namespace L2
open PySem PySem.Spec PyProof.Rows
section
variable {X : Cx} {x : Str} {p pos : Pos} {e : Expr} {es : List Expr} {t : TA} {id T : String} {r : List V → Hp → VK → Prop}
noncomputable def tCB (r : List V → Hp → VK → Prop) (t : TA) : TE := fun σ H Q => t σ H fun vs H1 => r vs H1 Q
theorem pe_callB (hc : CallR X (.builtin id) r) (hg : Gl X x) (hm : X.mg x = none) (hv : bootBuiltins x = some (.builtin id)) (ha : PA X (e :: es) t) (hn : x ≠ "__name__" := by decide) (hdb : (x == ("__debug__" : Str)) = false := by decide)
    (he : starEach (e :: es) X.env = (false, eval e X.env) :: starEach es X.env := by rfl) (hpl : (backTo pos (starEach es X.env)).any (·.1) = false := by rfl) : PE X (.Call (.Name x p) (e :: es) [] pos) (tCB r t) := by
  intro pins s σ H Q I h
  refine wpAny_Call_Name_kw (ld_blt I hg hm hv ?_ hn hdb)
  exact PyProof.Rows.callWith_builtin1 (thn (ha pos pins s σ H _ I h) fun us s1 hp0 => by obtain ⟨vs, H1, I1, r1, q1⟩ := hp0; exact hc pins s1 σ H1 vs us Q I1 r1 q1) he hpl
theorem pe_callTy (hc : CallR X (.type T) r) (hg : Gl X x) (hm : X.mg x = none) (hv : bootBuiltins x = some (.type T)) (ha : PA X (e :: es) t) (hn : x ≠ "__name__" := by decide) (hdb : (x == ("__debug__" : Str)) = false := by decide)
    (he : starEach (e :: es) X.env = (false, eval e X.env) :: starEach es X.env := by rfl) (hpl : (backTo pos (starEach es X.env)).any (·.1) = false := by rfl) : PE X (.Call (.Name x p) (e :: es) [] pos) (tCB r t) := by
  intro pins s σ H Q I h
  refine wpAny_Call_Name_kw (ld_blt I hg hm hv ?_ hn hdb)
  exact PyProof.Rows.callWith_type1 (thn (ha pos pins s σ H _ I h) fun us s1 hp0 => by obtain ⟨vs, H1, I1, r1, q1⟩ := hp0; exact hc pins s1 σ H1 vs us Q I1 r1 q1) he hpl
end
end L2
namespace HT
open PySem PyProof.Rows
section
open PySem.SeqAt
open PySem.AutoSeq1 (wpAny_loadPart')
open PySem.MeetsSeq PySem.MeetsSeq2 PySem.MeetsSeq3
end
section
variable {prog : Program} {w : World} {A : Around} {E : Value → Shared → Prop} {s : Shared}
theorem cat_tup {t b : Addr} {vs ws : List Value} {Q : Value → Shared → Prop} (ht : IsTup s.heap t vs.toArray) (hb : IsTup s.heap b ws.toArray) (hv : vs ≠ [])
    (h1 : ws = [] → Q (.ref t) s) (h2 : ws ≠ [] → Q (.ref s.heap.objs.size) { s with heap := s.heap.push { cls := .type "tuple", data := .seq (vs ++ ws).toArray } })
    (hsz : vs.length + ws.length ≤ sizeLine) : wpAny (model prog w) A (binaryOp .Add (.ref t) (.ref b)) Q E s := by
  obtain ⟨⟨cls, dd, data, sl⟩, ho, hc, n, hd⟩ := id ht
  obtain ⟨⟨cls2, dd2, data2, sl2⟩, ho2, hc2, n2, hd2⟩ := id hb
  simp only at hc hd hc2 hd2
  subst hc hd hc2 hd2
  have e : vs.toArray ++ ws.toArray = (vs ++ ws).toArray := by simp
  by_cases hw : ws = []
  · exact concat_meets ⟨_, ho, rfl⟩ ⟨_, ho2, rfl⟩ noFill_tuple_add seq_tuple_add PySem.F.slot_tuple_add PySem.F.entry_tuple_add (PySem.F.args_tuple_add_2 _ _)
      (tuple_addW1 t b vs.toArray ws.toArray n n2 dd dd2 sl sl2 (by simpa using hv) (by simp [hw])) ⟨ho, ho2, h1 hw⟩
  · refine concat_meets ⟨_, ho, rfl⟩ ⟨_, ho2, rfl⟩ noFill_tuple_add seq_tuple_add PySem.F.slot_tuple_add PySem.F.entry_tuple_add (PySem.F.args_tuple_add_2 _ _)
      (tuple_addW2 t b vs.toArray ws.toArray n n2 dd dd2 sl sl2 (by simpa using hv) (by simpa using hw) (by rw [List.size_toArray, List.size_toArray]; exact hsz)) ⟨ho, ho2, ?_⟩
    rw [e]
    exact h2 hw
noncomputable def sIx (n d : Nat) : Option Int → Nat
  | none => d
  | some v => if v < 0 then (v + (n : Int)).toNat else min v.toNat n
theorem sIx_none (n d : Nat) : sIx n d none = d := rfl
theorem sIx_nat (n d k : Nat) : sIx n d (some (k : Int)) = min k n := by
  show (if (k : Int) < 0 then ((k : Int) + (n : Int)).toNat else min (k : Int).toNat n) = min k n
  rw [if_neg (by lia), Int.toNat_natCast]
theorem sIx_le (n d : Nat) (hd : d ≤ n) (o : Option Int) : sIx n d o ≤ n := by
  cases o with
  | none => exact hd
  | some v =>
    show (if v < 0 then (v + (n : Int)).toNat else min v.toNat n) ≤ n
    by_cases hv : v < 0
    · rw [if_pos hv]; lia
    · rw [if_neg hv]; exact Nat.min_le_right _ _
theorem clip_eq (v : Int) (n d : Nat) : (if v < 0 then max (v + (n : Int)) 0 else min v (n : Int)) = ((sIx n d (some v) : Nat) : Int) := by
  show (if v < 0 then max (v + (n : Int)) 0 else min v (n : Int)) = (((if v < 0 then (v + (n : Int)).toNat else min v.toNat n) : Nat) : Int)
  by_cases hv : v < 0
  · simp only [if_pos hv]; lia
  · simp only [if_neg hv]; lia
theorem adjust_gen (lo hi : Option Int) (n : Nat) : Builtin.Slice.sliceAdjust lo hi 1 (n : Int) = (((sIx n 0 lo : Nat) : Int), ((sIx n n hi : Nat) : Int)) := by
  have h1 : ¬ ((1 : Int) < 0) := by lia
  unfold Builtin.Slice.sliceAdjust
  simp only [h1, if_false]
  refine Prod.ext ?_ ?_
  · cases lo with
    | none => rfl
    | some v => exact clip_eq v n 0
  · cases hi with
    | none => rfl
    | some v => exact clip_eq v n n
theorem places_gen (i j : Nat) : Builtin.Slice.slicePlaces (i : Int) (j : Int) 1 = j - i := by
  unfold Builtin.Slice.slicePlaces
  have h1 : (1 : Int) > 0 := by lia
  simp only [h1, if_true, Int.ediv_one]
  split <;> lia
theorem slicePart_ {v : Value} {o : Option Int} {Q : Option Int → Shared → Prop} (p : IsPart v o) (h : Q o s) : wpAny (model prog w) A (Builtin.Slice.slicePartIndex v) Q E s := by
  cases p with
  | none => exact slicePart_none h
  | int i t => exact slicePart_int h
theorem sliceApplied_gen {sl : Addr} {vl vu : Value} {lo hi : Option Int} {n : Nat} {Q : Int × Int × Nat → Shared → Prop} (hs : s.heap.IsSliceOf sl vl vu .none) (pl : IsPart vl lo) (pu : IsPart vu hi)
    (h : Q (((sIx n 0 lo : Nat) : Int), 1, sIx n n hi - sIx n 0 lo) s) : wpAny (model prog w) A (Builtin.Slice.sliceApplied (.ref sl) (pure (n : Int))) Q E s := by
  obtain ⟨os, hos, hcs, hds⟩ := id hs
  unfold Builtin.Slice.sliceApplied Builtin.Slice.sliceFields
  refine wpAny_bind (wpAny_bind (wpAny_field hos hds (x := vl) rfl (wpAny_bind (wpAny_field hos hds (x := vu) rfl (wpAny_bind (wpAny_field hos hds (x := .none) rfl (wpAny_pure ?_)))))))
  refine wpAny_bind (slicePart_none ?_)
  show wpAny _ _ (if ((1 : Int) == 0) = true then _ else _) _ _ s
  rw [if_neg (by decide)]
  refine wpAny_bind (slicePart_ pl (wpAny_bind (slicePart_ pu (wpAny_bind (wpAny_pure ?_)))))
  show wpAny _ _ (match Builtin.Slice.sliceAdjust lo hi 1 (n : Int) with | (lo, hi) => pure (lo, (1 : Int), Builtin.Slice.slicePlaces lo hi 1)) _ _ s
  rw [adjust_gen lo hi n]
  show wpAny _ _ (pure (((sIx n 0 lo : Nat) : Int), (1 : Int), Builtin.Slice.slicePlaces ((sIx n 0 lo : Nat) : Int) ((sIx n n hi : Nat) : Int) 1)) _ _ s
  rw [places_gen]
  exact wpAny_pure h
theorem pick_gen (xs : Array Value) (i k : Nat) : ((List.range k).filterMap fun (m : Nat) => xs[((i : Int) + (m : Int) * 1).toNat]?).toArray = ((xs.toList.drop i).take k).toArray := by
  have e : (fun (m : Nat) => xs[((i : Int) + (m : Int) * 1).toNat]?) = fun m => xs[i + m]? := by
    funext m
    have : ((i : Int) + (m : Int) * 1).toNat = i + m := by lia
    rw [this]
  rw [e]
  have := pick_run xs i k
  rw [List.filterMap_map] at this
  have e2 : ((fun x => xs[x]?) ∘ fun x => i + x) = fun m => xs[i + m]? := rfl
  rw [e2] at this
  rw [this]
theorem getItem_tuple_cut {t sl : Addr} {items : Array Value} {vl vu : Value} {lo hi : Option Int} {Q : Value → Shared → Prop} (ht : IsTup s.heap t items) (hs : s.heap.IsSliceOf sl vl vu .none) (pl : IsPart vl lo) (pu : IsPart vu hi)
    (hw : ¬ (sIx items.size 0 lo = 0 ∧ sIx items.size items.size hi = items.size))
    (h : Q (.ref s.heap.objs.size) { s with heap := s.heap.push { cls := .type "tuple", data := .seq ((items.toList.drop (sIx items.size 0 lo)).take (sIx items.size items.size hi - sIx items.size 0 lo)).toArray } })
    (hsz : items.size ≤ sizeLine) : wpAny (model prog w) A (getItem (.ref t) (.ref sl)) Q E s := by
  have htake : sizeOk (.seq ((items.toList.drop (sIx items.size 0 lo)).take (sIx items.size items.size hi - sIx items.size 0 lo)).toArray) := by
    show ((items.toList.drop (sIx items.size 0 lo)).take (sIx items.size items.size hi - sIx items.size 0 lo)).toArray.size ≤ sizeLine
    rw [List.size_toArray, List.length_take, List.length_drop, Array.length_toList]
    lia
  have hj : sIx items.size items.size hi ≤ items.size := sIx_le _ _ (Nat.le_refl _) hi
  obtain ⟨os, hos, hcs, hds⟩ := id hs
  have hTs : s.TypeIs (.ref sl) "slice" := ⟨os, hos, hcs⟩
  unfold getItem
  try with_reducible refine wpAny_holding ?_
  first | refine wpAny_bind (wpAny_pure ?_) | skip
  refine wpAny_bind (wpAny_sequenceKey ht.typeIs (by decide) ?_)
  refine wpAny_bind (wpAny_callSpecial?_slot (name := Str.ofString "__getitem__") ht.typeIs PyProof.Rows.slot_tuple_getitem
    (wpAny_call_entry PyProof.Rows.slot_tuple_getitem ht.typeIs entry_tuple_getitem ?_ (args_tuple_getitem _ _)))
  show wpAny _ _ (Builtin.Tuple.tupleItemsOf (.ref t) >>= _) _ _ s
  refine wpAny_bind (tupleItemsOf_ ht ?_)
  refine wpAny_bind (wpAny_typeOf hTs ?_)
  rw [if_pos (by decide)]
  refine wpAny_bind (sliceApplied_gen hs pl pu ?_)
  have hno : ¬ ((((sIx items.size 0 lo : Nat) : Int) == 0 && (1 : Int) == 1 && (sIx items.size items.size hi - sIx items.size 0 lo) == items.size) = true) := by
    intro q
    rw [Bool.and_eq_true, Bool.and_eq_true] at q
    have q1 : ((sIx items.size 0 lo : Nat) : Int) = 0 := eq_of_beq q.1.1
    have q2 : sIx items.size items.size hi - sIx items.size 0 lo = items.size := eq_of_beq q.2
    exact hw ⟨by lia, by lia⟩
  show wpAny _ _ (if (((sIx items.size 0 lo : Nat) : Int) == 0 && (1 : Int) == 1 && (sIx items.size items.size hi - sIx items.size 0 lo) == items.size) = true then _ else _) _ _ s
  rw [if_neg hno, pick_gen]
  first
    | exact wpAny_bind (m := Builtin.Tuple.tupleExact _) (wpAny_newObj_type (wpAny_pure ⟨_, rfl, wpAny_pure h⟩) htake)
    | exact wpAny_bind (m := Builtin.Tuple.tupleExact _) (wpAny_newObj_type (wpAny_bind (wpAny_pure (wpAny_pure ⟨_, rfl, wpAny_pure h⟩))) htake)
    | exact wpAny_bind (wpAny_bind (m := Builtin.Tuple.tupleExact _) (wpAny_newObj_type (wpAny_pure (wpAny_pure ⟨_, rfl, wpAny_pure h⟩)) htake))
    | exact wpAny_bind (wpAny_bind (m := Builtin.Tuple.tupleExact _) (wpAny_newObj_type (wpAny_pure ⟨_, rfl, wpAny_pure h⟩) htake))
end
end HT
namespace L2
open PySem PySem.Spec PyProof.Rows
noncomputable abbrev TO := St → Hp → (Option Int → Hp → Prop) → Prop
noncomputable def PO (X : Cx) (e : Option Expr) (t : TO) : Prop :=
  ∀ (pins : List (Addr × Obj)) (s : Shared) (σ : St) (H : Hp) (Q : Option Int → Hp → Prop), Inv X pins σ H s → t σ H Q →
    wpAny (model X.prog X.w) X.A (evalPart e X.env) (fun u s' => ∃ o H', Inv X pins σ H' s' ∧ IsPart u o ∧ Q o H') X.xe s
noncomputable def tNoPart : TO := fun _ H Q => Q none H
noncomputable def tPart (t : TE) : TO := fun σ H Q => t σ H fun x H1 => ∃ i, x = .int i ∧ Q (some i) H1
section
variable {X : Cx} {e : Expr} {te : TE} {lo hi : Option Expr} {tl th : TO} {pos p2 : Pos}
theorem po_none : PO X none tNoPart := by
  intro pins s σ H Q I h
  rw [evalPart_none]
  exact wpAny_pure ⟨none, H, I, .none, h⟩
theorem po_some (h : PE X e te) : PO X (some e) (tPart te) := by
  intro pins s σ H Q I hw
  rw [evalPart_some]
  refine thn (h pins s σ H _ I hw) fun u s1 hp0 => ?_
  obtain ⟨x, H1, I1, r1, q1⟩ := hp0
  obtain ⟨i, rfl, q⟩ := q1
  obtain ⟨t, rfl⟩ := r1
  exact ⟨some i, H1, I1, .int i t, q⟩
noncomputable def SlR (X : Cx) (r : V → Option Int → Option Int → Hp → VK → Prop) : Prop :=
  ∀ (pins : List (Addr × Obj)) (s : Shared) (σ : St) (H : Hp) (x : V) (v vl vu : Value) (lo hi : Option Int) (sl : Addr) (Q : VK), Inv X pins σ H s → RelV x v → s.heap.IsSliceOf sl vl vu .none → IsPart vl lo → IsPart vu hi → r x lo hi H Q →
    ∃ T id, typeLookup (.type T) "__getitem__" = pure (some (.builtin id)) ∧ s.TypeIs v T ∧ wpAny (model X.prog X.w) X.A (getItem v (.ref sl)) (EP X pins σ Q) X.xe s
noncomputable def tSl (r : V → Option Int → Option Int → Hp → VK → Prop) (te : TE) (tl th : TO) : TE := fun σ H Q => te σ H fun x H1 => tl σ H1 fun l H2 => th σ H2 fun u H3 => r x l u H3 Q
theorem pe_slice {r : V → Option Int → Option Int → Hp → VK → Prop} (hr : SlR X r) (he : PE X e te) (hl : PO X lo tl) (hu : PO X hi th) : PE X (.Subscript e (.Slice lo hi none p2) pos) (tSl r te tl th) := by
  intro pins s σ H Q I h
  refine Subscript_ (thn (he pins s σ H _ I h) fun v s1 hp0 => ?_)
  obtain ⟨x, H1, I1, r1, q1⟩ := hp0
  refine wpAny_Slice (thn (hl pins s1 σ H1 _ I1 q1) fun vl s2 hp0 => ?_)
  obtain ⟨l, H2, I2, pl, q2⟩ := hp0
  refine thn (hu pins s2 σ H2 _ I2 q2) fun vu s3 hp1 => ?_
  obtain ⟨u, H3, I3, pu, q3⟩ := hp1
  rw [evalPart_none]
  refine wpAny_pure ?_
  have I4 : Inv X pins σ H3 { s3 with heap := s3.heap.push { cls := .type "slice", data := .fields #[vl, vu, .none] } } := I3.kept (t' := s3.toks) fun b ob q => Heap.get?_push_of_some _ q
  obtain ⟨T, id, hT, ht, hg⟩ := hr pins { s3 with heap := s3.heap.push { cls := .type "slice", data := .fields #[vl, vu, .none] } } σ H3 x v vl vu l u s3.heap.objs.size Q I4 r1 (Heap.IsSliceOf.new ..) pl pu q3
  show wpAny (model X.prog X.w) X.A (subscriptTail e (.Slice lo hi none p2) v (.ref s3.heap.objs.size)) (EP X pins σ Q) X.xe { s3 with heap := s3.heap.push { cls := .type "slice", data := .fields #[vl, vu, .none] } }
  exact tail_any (ops := [.ref s3.heap.objs.size, v]) ht hT hg (by with_unfolding_all rfl)
noncomputable def cutV (xs : List V) (lo hi : Option Int) : List V := (xs.drop (HT.sIx xs.length 0 lo)).take (HT.sIx xs.length xs.length hi - HT.sIx xs.length 0 lo)
theorem cutV_length (xs : List V) (lo hi : Option Int) : (cutV xs lo hi).length ≤ xs.length := by
  unfold cutV
  rw [List.length_take, List.length_drop]
  lia
noncomputable def rSlT (K : PySem.W.Frag) : V → Option Int → Option Int → Hp → VK → Prop := fun x lo hi H Q => ∃ a xs, x = .ref a ∧ SqT K H a xs ∧
  ¬ (HT.sIx xs.length 0 lo = 0 ∧ HT.sIx xs.length xs.length hi = xs.length) ∧ ∀ p, H p = none → Q (.ref p) (upd H p (.tup (cutV xs lo hi)))
theorem sl_tup : SlR X (rSlT X.K) := by
  intro pins s σ H x v vl vu lo hi sl Q I rx hs pl pu h
  obtain ⟨a, xs, rfl, hx, hw, q⟩ := h
  cases rx
  obtain ⟨its, r, ht, hz⟩ := I.tuple hx
  have hlen : its.toArray.size = xs.length := by rw [List.size_toArray]; exact r.length.symm
  refine ⟨"tuple", _, PyProof.Rows.slot_tuple_getitem.lookup, ht.typeIs, ?_⟩
  refine HT.getItem_tuple_cut ht hs pl pu (by rw [hlen]; exact hw) ?_ (by rw [hlen]; exact hz)
  rw [hlen]
  refine ⟨.ref s.heap.objs.size, _, I.laid (t' := s.toks) (o := .tup (cutV xs lo hi)) (fun b ob q => Heap.get?_push_of_some _ q) (Nat.le_refl _) ?_, rfl, q _ (I.hok.fresh (Nat.le_refl _))⟩
  exact ⟨Nat.le_trans (cutV_length xs lo hi) hz, _, (r.drop (HT.sIx xs.length 0 lo)).take (HT.sIx xs.length xs.length hi - HT.sIx xs.length 0 lo), IsTup.new _ _⟩
noncomputable def rCatT (K : PySem.W.Frag) : R2 := fun x y H Q => ∃ a b xs ys, x = .ref a ∧ y = .ref b ∧ SqT K H a xs ∧ SqT K H b ys ∧ xs ≠ [] ∧ xs.length + ys.length ≤ sizeLine ∧
  (ys = [] → Q (.ref a) H) ∧ (ys ≠ [] → ∀ p, H p = none → Q (.ref p) (upd H p (.tup (xs ++ ys))))
theorem Vals.nil_iff {xs : List V} {us : List Value} (r : Vals xs us) : us = [] ↔ xs = [] := by
  cases r with
  | nil => simp
  | cons _ _ => simp
theorem op_catT : OpR X (binaryOp .Add) (rCatT X.K) := by
  intro pins s σ H x y v u Q I rx ry h
  obtain ⟨a, b, xs, ys, rfl, rfl, ha, hb, hx, hz, q1, q2⟩ := h
  cases rx
  cases ry
  obtain ⟨its, r1, p1, _⟩ := I.tuple ha
  obtain ⟨its2, r2, p2, _⟩ := I.tuple hb
  refine HT.cat_tup p1 p2 (fun z => hx (r1.nil_iff.mp z)) (fun z => ⟨.ref a, H, I, rfl, q1 (r2.nil_iff.mp z)⟩) (fun z => ?_) (by rw [← r1.length, ← r2.length]; exact hz)
  refine ⟨.ref s.heap.objs.size, _, I.laid (t' := s.toks) (o := .tup (xs ++ ys)) (fun b ob q => Heap.get?_push_of_some _ q) (Nat.le_refl _) ?_, rfl, q2 (fun w => z (r2.nil_iff.mpr w)) _ (I.hok.fresh (Nat.le_refl _))⟩
  exact ⟨by rw [List.length_append]; exact hz, _, r1.append r2, IsTup.new _ _⟩
end
end L2
namespace L2
open PySem PySem.Spec PyProof.Rows
noncomputable def ixN (n : Nat) (i : Int) : Option Nat := if 0 ≤ i then (if i < n then some i.toNat else none) else if -(n : Int) ≤ i then some (i + n).toNat else none
noncomputable def atI {α : Type} (xs : List α) (i : Int) : Option α := (ixN xs.length i).bind fun j => xs[j]?
theorem ixN_seq {n : Nat} {i : Int} {j : Nat} (h : ixN n i = some j) : seqIndex? i n = some j ∧ j < n ∧ -(n : Int) ≤ i ∧ i < n := by
  unfold ixN at h
  by_cases h0 : 0 ≤ i
  · rw [if_pos h0] at h
    by_cases h1 : i < n
    · rw [if_pos h1] at h
      have e : i.toNat = j := Option.some.inj h
      exact ⟨by rw [seqIndex_of h0 h1, e], by lia, by lia, h1⟩
    · rw [if_neg h1] at h; cases h
  · rw [if_neg h0] at h
    by_cases h1 : -(n : Int) ≤ i
    · rw [if_pos h1] at h
      have e : (i + n).toNat = j := Option.some.inj h
      exact ⟨by rw [seqIndex_neg (by lia) h1, e], by lia, h1, by lia⟩
    · rw [if_neg h1] at h; cases h
theorem atI_get {α : Type} {xs : List α} {i : Int} {v : α} (h : atI xs i = some v) : ∃ j, seqIndex? i xs.length = some j ∧ xs[j]? = some v ∧ j < xs.length ∧ -(xs.length : Int) ≤ i ∧ i < xs.length := by
  unfold atI at h
  cases e : ixN xs.length i with
  | none => rw [e] at h; cases h
  | some j =>
    rw [e] at h
    obtain ⟨h1, h2, h3, h4⟩ := ixN_seq e
    exact ⟨j, h1, h, h2, h3, h4⟩
theorem atI_nat {α : Type} {xs : List α} {j : Nat} {v : α} (h : xs[j]? = some v) : atI xs (j : Int) = some v := by
  have hj : j < xs.length := (List.getElem?_eq_some_iff.mp h).1
  have e : ixN xs.length (j : Int) = some j := by
    unfold ixN
    rw [if_pos (by lia), if_pos (by lia)]; simp
  unfold atI; rw [e]; exact h
theorem atI_last {α : Type} (xs : List α) (v : α) : atI (xs ++ [v]) (-1) = some v := by
  have hl : (xs ++ [v]).length = xs.length + 1 := by simp
  have e : ixN (xs ++ [v]).length (-1) = some xs.length := by
    unfold ixN
    rw [hl, if_neg (by decide), if_pos (by lia)]
    congr 1
    lia
  unfold atI
  rw [e]
  show (xs ++ [v])[xs.length]? = some v
  simp
noncomputable def PlainIx (b : Expr) : Prop := ∀ o i, subscripted b false o i = operate [o, i] (getItem o i)
noncomputable def IxR (X : Cx) (r : R2) : Prop :=
  ∀ (value slice : Expr) (pins : List (Addr × Obj)) (s : Shared) (σ : St) (H : Hp) (x y : V) (v u : Value) (Q : VK), Inv X pins σ H s → RelV x v → RelV y u → r x y H Q →
    subscripted slice false v u = operate [v, u] (getItem v u) → wpAny (model X.prog X.w) X.A (subscriptTail value slice v u) (EP X pins σ Q) X.xe s
noncomputable def MtR (X : Cx) (id : String) (r : V → List V → Hp → VK → Prop) : Prop :=
  ∀ (pins : List (Addr × Obj)) (s : Shared) (σ : St) (H : Hp) (x : V) (xs : List V) (v : Value) (us : List Value) (Q : VK), Inv X pins σ H s → RelV x v → Vals xs us → r x xs H Q →
    wpAny (model X.prog X.w) X.A (call (.builtin id) (v :: us)) (EP X pins σ Q) X.xe s
section
variable {X : Cx} {a b : Expr} {ta tb : TE} {pos : Pos}
theorem pe_ix {r : R2} (hr : IxR X r) (ha : PE X a ta) (hb : PE X b tb) (hs : PlainIx b) : PE X (.Subscript a b pos) (tOp r ta tb) := by
  intro pins s σ H Q I h
  exact Subscript_ (binT ha hb I h fun v u s2 x y H2 I2 rx ry q => hr a b pins s2 σ H2 x y v u Q I2 rx ry q (hs _ _))
inductive rIxL (K : PySem.W.Frag) (x : V) (y : V) (H : Hp) (Q : VK) : Prop
  | mk (p : _) (xs : _) (i : _) (v : _) (c0 : x = .ref p) (c1 : y = .int i) (c2 : SqL K H p xs) (c3 : atI xs i = some v) (c4 : Q v H) : rIxL K x y H Q
inductive rIxT (K : PySem.W.Frag) (x : V) (y : V) (H : Hp) (Q : VK) : Prop
  | mk (p : _) (xs : _) (i : _) (v : _) (c0 : x = .ref p) (c1 : y = .int i) (c2 : SqT K H p xs) (c3 : atI xs i = some v) (c4 : Q v H) : rIxT K x y H Q
noncomputable def rIxS : R2 := fun x y H Q => ∃ z i c, x = .str z ∧ y = .int i ∧ z.length ≤ sizeLine ∧ atI z.cps.toList i = some c ∧ Q (.str ⟨#[c]⟩) H
theorem ix_list : IxR X (rIxL X.K) := by
  intro value slice pins s σ H x y v u Q I rx ry h hs
  obtain ⟨p, xs, i, z, rfl, rfl, hq, he, q⟩ := h
  cases rx
  obtain ⟨t, rfl⟩ := ry
  obtain ⟨its, r, pl, hz⟩ := I.list hq
  obtain ⟨j, h1, h2, h3, h4, h5⟩ := atI_get he
  obtain ⟨w, ew, rw'⟩ := r.get h2
  have hl := r.length
  have hn := line63
  have fin : EP X pins σ Q w s := ⟨z, H, I, rw', q⟩
  by_cases h0 : 0 ≤ i
  · have hj : i.toNat = j := by
      rw [seqIndex_of h0 h5] at h1
      exact Option.some.inj h1
    exact item_listR pl.isList h0 (by lia) (by rw [hj]; simpa using ew) fin hs
  · have hj : (i + (its.toArray.size : Int)).toNat = j := by
      rw [seqIndex_neg (by lia) h4] at h1
      rw [List.size_toArray, ← hl]
      exact Option.some.inj h1
    exact subscriptTail_builtinR (x := w) pl.isList.typeIs slot_list_getitem.lookup
      (wpAny_getItem_list_neg (Q := fun r s' => r = w ∧ EP X pins σ Q r s') pl.isList (by lia) (by rw [List.size_toArray] <;> lia) (by lia) (by rw [hj]; simpa using ew) ⟨rfl, fin⟩) hs
theorem ix_tup : IxR X (rIxT X.K) := by
  intro value slice pins s σ H x y v u Q I rx ry h hs
  obtain ⟨p, xs, i, z, rfl, rfl, hq, he, q⟩ := h
  cases rx
  obtain ⟨t, rfl⟩ := ry
  obtain ⟨its, r, pl, hz⟩ := I.tuple hq
  obtain ⟨j, h1, h2, h3, h4, h5⟩ := atI_get he
  obtain ⟨w, ew, rw'⟩ := r.get h2
  have hl := r.length
  have hn := line63
  have fin : EP X pins σ Q w s := ⟨z, H, I, rw', q⟩
  exact subscriptTail_builtinR (x := w) pl.typeIs slot_tuple_getitem.lookup
    (getItem_tuple (j := j) (Q := fun r s' => r = w ∧ EP X pins σ Q r s') pl (by lia) (by lia) (by rw [List.size_toArray, ← hl]; exact h1) (by simpa using ew) ⟨rfl, fin⟩) hs
theorem ix_str : IxR X rIxS := by
  intro value slice pins s σ H x y v u Q I rx ry h hs
  obtain ⟨z, i, c, rfl, rfl, hz, he, q⟩ := h
  obtain ⟨t, rfl⟩ := rx
  obtain ⟨t', rfl⟩ := ry
  obtain ⟨j, h1, h2, h3, h4, h5⟩ := atI_get he
  have hl : z.cps.toList.length = z.length := by simp [Str.length]
  rw [hl] at h1 h4 h5
  have hn := line63
  exact tail_any (typeIs_str s z t) slot_str_getitem.lookup (getItem_str (c := c) (by
    have e1 : decide (i < -(2 ^ 63 : Int)) = false := decide_eq_false (by lia)
    have e2 : decide (i ≥ 2 ^ 63) = false := decide_eq_false (by lia)
    rw [e1, e2, Bool.or_false]) (by rw [h1]; simpa using h2) ⟨.str ⟨#[c]⟩, H, I.tok _, ⟨_, rfl⟩, q⟩) hs
theorem slice_bounds (lo hi : Option Int) (n : Nat) : (sliceBounds lo hi none n).1 = ((HT.sIx n 0 lo : Nat) : Int) ∧ (sliceBounds lo hi none n).2.1 = ((HT.sIx n n hi : Nat) : Int) ∧ (sliceBounds lo hi none n).2.2 = 1 := by
  refine ⟨?_, ?_, rfl⟩
  · cases lo with
    | none => simp [sliceBounds, HT.sIx]
    | some i =>
      simp only [sliceBounds, HT.sIx, Option.getD_none, show (1 : Int) > 0 by decide, if_true]
      by_cases h : i < 0
      · simp only [h, if_true] <;> lia
      · simp only [h, if_false] <;> lia
  · cases hi with
    | none => simp [sliceBounds, HT.sIx]
    | some i =>
      simp only [sliceBounds, HT.sIx, Option.getD_none, show (1 : Int) > 0 by decide, if_true]
      by_cases h : i < 0
      · simp only [h, if_true] <;> lia
      · simp only [h, if_false] <;> lia
theorem slicePick_cut (its : List Value) (lo hi : Option Int) : slicePick its.toArray lo hi none = ((its.drop (HT.sIx its.length 0 lo)).take (HT.sIx its.length its.length hi - HT.sIx its.length 0 lo)).toArray := by
  obtain ⟨h1, h2, h3⟩ := slice_bounds lo hi its.toArray.size
  unfold slicePick
  rw [h1, h2, h3]
  simp only [sliceRange_one, pick_run, List.size_toArray] <;> rfl
noncomputable def rSlL (K : PySem.W.Frag) : V → Option Int → Option Int → Hp → VK → Prop := fun x lo hi H Q => ∃ a xs, x = .ref a ∧ SqL K H a xs ∧ ∀ p, H p = none → Q (.ref p) (upd H p (.lst (cutV xs lo hi)))
theorem sl_list : SlR X (rSlL X.K) := by
  intro pins s σ H x v vl vu lo hi sl Q I rx hs pl pu h
  obtain ⟨a, xs, rfl, hx, q⟩ := h
  cases rx
  obtain ⟨its, r, ht, hz⟩ := I.list hx
  have hlen := r.length
  refine ⟨"list", _, slot_list_getitem.lookup, ht.isList.typeIs, ?_⟩
  refine wpAny_getItem_list_slice ht.isList hs pl pu .none (by simp) ?_ (by rw [List.size_toArray] <;> lia)
  rw [slicePick_cut, ← hlen]
  refine ⟨.ref s.heap.objs.size, _, I.laid (t' := s.toks) (o := .lst (cutV xs lo hi)) (fun b ob q => Heap.get?_push_of_some _ q) (Nat.le_refl _) ?_, rfl, q _ (I.hok.fresh (Nat.le_refl _))⟩
  exact ⟨Nat.le_trans (cutV_length xs lo hi) hz, _, 0, (r.drop (HT.sIx xs.length 0 lo)).take (HT.sIx xs.length xs.length hi - HT.sIx xs.length 0 lo), Heap.get?_push_size _ rfl⟩
noncomputable def flatV : V → Bool
  | .non => true
  | .bl _ => true
  | .int _ => true
  | .str _ => true
  | _ => false
noncomputable def eqV : V → V → Bool
  | .non, .non => true
  | .bl a, .bl b => a == b
  | .bl a, .int b => (if a then 1 else 0) == b
  | .int a, .bl b => a == (if b then 1 else 0)
  | .int a, .int b => a == b
  | .str a, .str b => a == b
  | _, _ => false
theorem eqAt_V {A : Around} {s : Shared} {y x : V} {u v : Value} (ry : RelV y u) (rx : RelV x v) (fy : flatV y = true) (fx : flatV x = true) : SeqAt.EqAt A s u v (eqV y x) := by
  cases y with
  | non =>
    cases ry
    cases x with
    | non => cases rx; exact SeqAt.EqAt.same _
    | bl b => cases rx; exact SeqAt.EqAt.none_bool b
    | int b => obtain ⟨t, rfl⟩ := rx; exact SeqAt.EqAt.none_int b t
    | str b => obtain ⟨t, rfl⟩ := rx; exact SeqAt.EqAt.none_str b t
    | _ => exact absurd (show false = true from fx) Bool.false_ne_true
  | bl a =>
    cases ry
    cases x with
    | non => cases rx; exact SeqAt.EqAt.bool_none a
    | bl b => cases rx; exact SeqAt.EqAt.bool_bool a b
    | int b => obtain ⟨t, rfl⟩ := rx; exact SeqAt.EqAt.bool_int a b t
    | str b => obtain ⟨t, rfl⟩ := rx; exact SeqAt.EqAt.bool_str a b t
    | _ => exact absurd (show false = true from fx) Bool.false_ne_true
  | int a =>
    obtain ⟨t', rfl⟩ := ry
    cases x with
    | non => cases rx; exact SeqAt.EqAt.int_none a t'
    | bl b => cases rx; exact SeqAt.EqAt.int_bool a t' b
    | int b => obtain ⟨t, rfl⟩ := rx; exact SeqAt.EqAt.int_int a t' b t
    | str b => obtain ⟨t, rfl⟩ := rx; exact SeqAt.EqAt.int_str a t' b t
    | _ => exact absurd (show false = true from fx) Bool.false_ne_true
  | str a =>
    obtain ⟨t', rfl⟩ := ry
    cases x with
    | non => cases rx; exact SeqAt.EqAt.str_none a t'
    | bl b => cases rx; exact SeqAt.EqAt.str_bool a t' b
    | int b => obtain ⟨t, rfl⟩ := rx; exact SeqAt.EqAt.str_int a t' b t
    | str b => obtain ⟨t, rfl⟩ := rx; exact SeqAt.EqAt.str_str a t' b t
    | _ => exact absurd (show false = true from fx) Bool.false_ne_true
  | _ => exact absurd (show false = true from fy) Bool.false_ne_true
noncomputable def eqU (x : V) (u : Value) : Bool := match u with
  | .none => eqV .non x
  | .bool b => eqV (.bl b) x
  | .int i _ => eqV (.int i) x
  | .str z _ => eqV (.str z) x
  | _ => false
theorem eqU_of {x y : V} {u : Value} (r : RelV y u) (f : flatV y = true) : eqU x u = eqV y x := by
  cases y with
  | non => cases r; rfl
  | bl b => cases r; rfl
  | int i => obtain ⟨t, rfl⟩ := r; rfl
  | str z => obtain ⟨t, rfl⟩ := r; rfl
  | _ => exact absurd (show false = true from f) Bool.false_ne_true
theorem any_eqU {x : V} : ∀ {xs : List V} {us : List Value}, Vals xs us → xs.all flatV = true → us.any (eqU x) = xs.any fun y => eqV y x
  | _, _, .nil, _ => rfl
  | y :: xs, u :: us, .cons r t, f => by
    rw [List.all_cons, Bool.and_eq_true] at f
    rw [List.any_cons, List.any_cons, eqU_of r f.1, any_eqU t f.2]
theorem mem_eqAt {A : Around} {s : Shared} {x : V} {v : Value} (rx : RelV x v) (fx : flatV x = true) : ∀ {xs : List V} {us : List Value}, Vals xs us → xs.all flatV = true → ∀ u ∈ us, SeqAt.EqAt A s u v (eqU x u)
  | _, _, .nil, _ => fun u hu => by cases hu
  | y :: xs, u :: us, .cons r t, f => fun u' hu => by
    rw [List.all_cons, Bool.and_eq_true] at f
    rcases List.mem_cons.mp hu with rfl | hu
    · rw [eqU_of r f.1]; exact eqAt_V r rx f.1 fx
    · exact mem_eqAt rx fx t f.2 u' hu
noncomputable def inV (x : V) (xs : List V) : Bool := xs.any fun y => eqV y x
inductive rIn (K : PySem.W.Frag) (neg : Bool) (x : V) (y : V) (H : Hp) (Q : VK) : Prop
  | mk (p : _) (xs : _) (c0 : y = .ref p) (c1 : (SqL K H p xs ∨ SqT K H p xs)) (c2 : flatV x = true) (c3 : xs.all flatV = true) (c4 : Q (.bl (if neg then !inV x xs else inV x xs)) H) : rIn K neg x y H Q
theorem op_in_seq : OpR X (compareOp .In) (rIn X.K false) := by
  intro pins s σ H x y v u Q I rx ry h
  obtain ⟨p, xs, rfl, hq, fx, fs, q⟩ := h
  cases ry
  rcases hq with hq | hq
  · obtain ⟨its, r, pl, hz⟩ := I.list hq
    refine SeqAt.in_listAt (eqU x) pl.isList (fun w hw => mem_eqAt rx fx r fs w (by simpa using hw)) ⟨.bl _, H, I, rfl, ?_⟩
    rw [show its.toArray.any (eqU x) = its.any (eqU x) by simp, any_eqU r fs]
    exact q
  · obtain ⟨its, r, pl, hz⟩ := I.tuple hq
    refine SeqAt.in_tupleAt (eqU x) pl (fun w hw => mem_eqAt rx fx r fs w (by simpa using hw)) ⟨.bl _, H, I, rfl, ?_⟩
    rw [show its.toArray.any (eqU x) = its.any (eqU x) by simp, any_eqU r fs]
    exact q
theorem op_notIn_seq : OpR X (compareOp .NotIn) (rIn X.K true) := by
  intro pins s σ H x y v u Q I rx ry h
  obtain ⟨p, xs, rfl, hq, fx, fs, q⟩ := h
  cases ry
  rcases hq with hq | hq
  · obtain ⟨its, r, pl, hz⟩ := I.list hq
    refine SeqAt.notIn_listAt (eqU x) pl.isList (fun w hw => mem_eqAt rx fx r fs w (by simpa using hw)) ⟨.bl _, H, I, rfl, ?_⟩
    rw [show its.toArray.any (eqU x) = its.any (eqU x) by simp, any_eqU r fs]
    exact q
  · obtain ⟨its, r, pl, hz⟩ := I.tuple hq
    refine SeqAt.notIn_tupleAt (eqU x) pl (fun w hw => mem_eqAt rx fx r fs w (by simpa using hw)) ⟨.bl _, H, I, rfl, ?_⟩
    rw [show its.toArray.any (eqU x) = its.any (eqU x) by simp, any_eqU r fs]
    exact q
theorem call_list_of : CallR X (.type "list") (fun xs H Q => ∃ p ys, xs = [.ref p] ∧ (SqL X.K H p ys ∨ SqT X.K H p ys) ∧ ∀ l, H l = none → Q (.ref l) (upd H l (.lst ys))) := by
  intro pins s σ H xs us Q I r h
  obtain ⟨p, ys, rfl, hq, q⟩ := h
  obtain ⟨u, rfl, rx⟩ := vals1 r
  cases rx
  have fin : ∀ (its : List Value), Vals ys its → ys.length ≤ sizeLine → ∀ (h' : Heap) (c' : Nat), (∀ b o', s.heap.get? b = some o' → h'.get? b = some o') →
      h'.get? s.heap.objs.size = some { cls := .type "list", dict := none, data := .seq its.toArray c', slots := #[] } → EP X pins σ Q (.ref s.heap.objs.size) { s with heap := h' } := fun its r' hz h' c' kp e =>
    ⟨.ref s.heap.objs.size, _, I.laid (t' := s.toks) kp (Nat.le_refl _) (show ObjOk X.prog X.w _ h' _ (.lst ys) from ⟨hz, its, c', r', e⟩), rfl, q _ (I.hok.fresh (Nat.le_refl _))⟩
  rcases hq with hq | hq
  · obtain ⟨its, r', pl, hz⟩ := I.list hq
    have hlen := r'.length
    obtain ⟨o, ho, hc, n, hd⟩ := pl.isList
    exact call_list_seq p (.inl rfl) ho hc hd (fun h' c' kp e => fin its r' hz h' c' kp e) (by simp only [List.size_toArray] <;> lia)
  · obtain ⟨its, r', pl, hz⟩ := I.tuple hq
    have hlen := r'.length
    obtain ⟨o, ho, hc, n, hd⟩ := pl
    exact call_list_seq p (.inr rfl) ho hc hd (fun h' c' kp e => fin its r' hz h' c' kp e) (by simp only [List.size_toArray] <;> lia)
theorem call_tuple_of : CallR X (.type "tuple") (fun xs H Q => ∃ p ys, xs = [.ref p] ∧ ((SqL X.K H p ys ∧ ∀ l, H l = none → Q (.ref l) (upd H l (.tup ys))) ∨ (SqT X.K H p ys ∧ Q (.ref p) H))) := by
  intro pins s σ H xs us Q I r h
  obtain ⟨p, ys, rfl, h⟩ := h
  obtain ⟨u, rfl, rx⟩ := vals1 r
  cases rx
  rcases h with ⟨hq, q⟩ | ⟨hq, q⟩
  · obtain ⟨its, r', pl, hz⟩ := I.list hq
    have hlen := r'.length
    refine call_tuple_list pl.isList (fun h' kp => ?_) (by simp only [List.size_toArray] <;> lia)
    have I1 : Inv X pins σ H { s with heap := h' } := I.kept (t' := s.toks) kp
    have I2 : Inv X pins σ (upd H h'.objs.size (.tup ys)) { s with heap := h'.push { cls := .type "tuple", data := .seq its.toArray } } :=
      I1.laid (t' := s.toks) (fun b o e => Heap.get?_push_of_some _ e) (Nat.le_refl _) (show ObjOk X.prog X.w _ _ _ (.tup ys) from ⟨hz, its, r', IsTup.new _ _⟩)
    exact ⟨.ref h'.objs.size, _, I2, rfl, q _ (I1.hok.fresh (Nat.le_refl _))⟩
  · obtain ⟨its, r', pl, hz⟩ := I.tuple hq
    exact call_tuple_same pl ⟨.ref p, H, I, rfl, q⟩
noncomputable def tyV (K : PySem.W.Frag) (T : String) (x : V) (H : Hp) : Prop := match x with
  | .str _ => T = "str"
  | .int _ => T = "int"
  | .ref p => (T = "list" ∧ ∃ xs, SqL K H p xs) ∨ (T = "tuple" ∧ ∃ o, K.lookup p = some o ∧ o.cls = .type "tuple" ∧ o.dict = none) ∨
      (T = "dict" ∧ ((∃ kvs, H p = some (.dK kvs)) ∨ ∃ kvs, H p = some (.dT kvs))) ∨ (T = "set" ∧ ∃ S n, H p = some (.set S n))
  | _ => False
theorem tyV_is {pins : List (Addr × Obj)} {σ : St} {H : Hp} {s : Shared} {T : String} {x : V} {v : Value} (I : Inv X pins σ H s) (r : RelV x v) (ty : tyV X.K T x H) :
    s.TypeIs v T ∧ ∀ a, v = .ref a → ∃ ob, s.heap.get? a = some ob ∧ ob.dict = none := by
  cases x with
  | str z =>
    obtain ⟨t, rfl⟩ := r
    cases (show T = "str" from ty)
    exact ⟨typeIs_str s z t, fun _ e => nomatch e⟩
  | int i =>
    obtain ⟨t, rfl⟩ := r
    cases (show T = "int" from ty)
    exact ⟨typeIs_int s i t, fun _ e => nomatch e⟩
  | ref p =>
    cases r
    rcases ty with ⟨rfl, xs, hq⟩ | ⟨rfl, o, hk, hc, hd⟩ | ⟨rfl, hk⟩ | ⟨rfl, S, n, hk⟩
    · obtain ⟨its, _, pl, _⟩ := I.list hq
      refine ⟨pl.isList.typeIs, fun a e => ?_⟩
      cases e
      obtain ⟨o, n, e, c, hd, _⟩ := pl
      exact ⟨o, e, hd⟩
    · refine ⟨⟨o, I.kIn p o hk, hc⟩, fun a e => ?_⟩
      cases e
      exact ⟨o, I.kIn _ o hk, hd⟩
    · have z : ∃ o, s.heap.get? p = some o ∧ o.ExactDict := by
        rcases hk with ⟨kvs, hk⟩ | ⟨kvs, hk⟩
        · obtain ⟨_, _, _, _, o, _, _, e, ex, _⟩ := I.hok p _ hk
          exact ⟨o, e, ex⟩
        · obtain ⟨_, _, _, _, o, _, _, e, ex, _⟩ := I.hok p _ hk
          exact ⟨o, e, ex⟩
      obtain ⟨o, e, ex⟩ := z
      refine ⟨⟨o, e, ex.1⟩, fun a e2 => ?_⟩
      cases e2
      exact ⟨o, e, ex.2.1⟩
    · obtain ⟨o, _, _, _, e, ex, _⟩ := I.hok p _ hk
      refine ⟨⟨o, e, ex.1⟩, fun a e2 => ?_⟩
      cases e2
      exact ⟨o, e, ex.2.1⟩
  | _ => exact False.elim ty
noncomputable def tBM0 (K : PySem.W.Frag) (T : String) (r : V → List V → Hp → VK → Prop) (to : TE) : TE := fun σ H Q => to σ H fun x H1 => tyV K T x H1 ∧ r x [] H1 Q
noncomputable def tBM (K : PySem.W.Frag) (T : String) (r : V → List V → Hp → VK → Prop) (to : TE) (t : TA) : TE := fun σ H Q => to σ H fun x H1 => tyV K T x H1 ∧ t σ H1 fun xs H2 => r x xs H2 Q
variable {o e : Expr} {es : List Expr} {to : TE} {t : TA} {name : Str} {apos cpos : Pos} {T id : String} {r : V → List V → Hp → VK → Prop}
theorem pe_bm0 (pa : PlainAttrs T) (slot : Slot T name id) (hty : typeOf (.builtin id) = pure (.type "method_descriptor")) (hm : MtR X id r) (ho : PE X o to)
    (hbase : attributeBase o name X.env (eval o X.env) = eval o X.env := by rfl) (hline : (apos.endLine == cpos.line) = true := by rfl) : PE X (.Call (.Attribute o name apos) [] [] cpos) (tBM0 X.K T r to) := by
  intro pins s σ H Q I h
  refine wpAny_Call_method0_late hbase hline (thn (ho pins s σ H _ I h) fun v s1 hp0 => ?_)
  obtain ⟨x, H1, I1, r1, ty, q1⟩ := hp0
  obtain ⟨h1, h2⟩ := tyV_is I1 r1 ty
  exact ⟨T, id, pa, slot, hty, h1, h2, Calls.callWith_builtin rfl (PySem.evalArgs_none (hm pins s1 σ H1 x [] v [] Q I1 r1 .nil q1))⟩
theorem pe_bm (pa : PlainAttrs T) (slot : Slot T name id) (hty : typeOf (.builtin id) = pure (.type "method_descriptor")) (hm : MtR X id r) (ho : PE X o to) (ha : PA X (e :: es) t)
    (hbase : attributeBase o name X.env (eval o X.env) = eval o X.env := by rfl)
    (hfew : ((backTo cpos (starEach (e :: es) X.env)).all (fun x => !x.1) && (backToKw cpos (keywordEach [] X.env)).all (fun x => x.1.isSome)
      && decide ((e :: es).length + ([] : List Keyword).length + (if ([] : List Keyword).isEmpty then 0 else 1) < 30)) = true := by rfl)
    (hline : (apos.endLine == cpos.line) = true := by rfl) (hs : starEach (e :: es) X.env = (false, eval e X.env) :: starEach es X.env := by rfl) (hplain : (backTo cpos (starEach es X.env)).any (·.1) = false := by rfl) :
    PE X (.Call (.Attribute o name apos) (e :: es) [] cpos) (tBM X.K T r to t) := by
  intro pins s σ H Q I h
  refine wpAny_Call_method_late hbase hfew hline rfl (thn (ho pins s σ H _ I h) fun v s1 hp0 => ?_)
  obtain ⟨x, H1, I1, r1, ty, q1⟩ := hp0
  obtain ⟨h1, h2⟩ := tyV_is I1 r1 ty
  refine ⟨T, id, pa, slot, hty, h1, h2, ?_⟩
  have hA := ha cpos pins s1 σ H1 _ I1 q1
  rw [hs] at hA ⊢
  refine Calls.callWith_builtin (by show (false || (backTo cpos (starEach es X.env)).any (·.1)) = false; rw [hplain] <;> rfl) (Calls.evalArgs_plain ?_)
  exact thn hA fun us s2 hp0 => by obtain ⟨vs, H2, I2, r2, q2⟩ := hp0; exact hm pins s2 σ H2 x vs v us Q I2 r1 r2 q2
end
end L2
namespace L2
open PySem PySem.Spec PyProof.Rows
noncomputable def MtM (X : Cx) (id : String) (r : V → List V → Hp → VK → Prop) : Prop :=
  ∀ (pins : List (Addr × Obj)) (s : Shared) (σ : St) (H : Hp) (x : V) (xs : List V) (v : Value) (us : List Value) (Q : VK), Inv X pins σ H s → RelV x v → Vals xs us → r x xs H Q →
    wpAny (model X.prog X.w) X.A (call (.builtin id) (v :: us)) (EP X pins σ Q) X.xe s
theorem Vals.one : ∀ {x : V} {us : List Value}, Vals [x] us → ∃ u, us = [u] ∧ RelV x u
  | _, _, .cons r .nil => ⟨_, rfl, r⟩
theorem Vals.zero : ∀ {us : List Value}, Vals [] us → us = []
  | _, .nil => rfl
theorem Vals.reverse {xs : List V} {us : List Value} (h : Vals xs us) : Vals xs.reverse us.reverse := by
  induction h with
  | nil => exact .nil
  | cons r t ih => rw [List.reverse_cons, List.reverse_cons]; exact Vals.append ih (.cons r .nil)
section
variable {X : Cx} {pins : List (Addr × Obj)} {σ : St} {H : Hp} {s : Shared} {l b : Addr} {xs ys zs : List V}
theorem Inv.lset {its its' : List Value} {n : Nat} {f : Array Value → Array Value} {t' : Nat} (I : Inv X pins σ H s) (hH : H l = some (.lst xs))
    (e : s.heap.get? l = some { cls := .type "list", data := .seq its.toArray n }) (hf : f its.toArray = its'.toArray) (hv : Vals ys its') (hz : ys.length ≤ sizeLine) :
    Inv X pins σ (upd H l (.lst ys)) { s with heap := s.heap.update l (Obj.mapSeq f), toks := t' } := by
  have q := PySem.IsL.update e f
  rw [hf] at q
  refine I.write (x := l) (e := l) (by rw [hH]; exact trivial) (.inl rfl) (fun b' u hb hu => (Heap.get?_update_other s.heap (Obj.mapSeq f) (Ne.symm hb)).trans hu) ⟨_, q⟩ ?_
  exact ⟨hz, its', _, hv, q⟩
theorem Inv.lnew {its : List Value} {t' : Nat} (I : Inv X pins σ H s) (hv : Vals ys its) (hz : ys.length ≤ sizeLine) :
    Inv X pins σ (upd H s.heap.objs.size (.lst ys)) { s with heap := s.heap.push { cls := .type "list", data := .seq its.toArray }, toks := t' } :=
  I.laid (fun _ _ q => Heap.get?_push_of_some _ q) (Nat.le_refl _) ⟨hz, its, 0, hv, Heap.get?_push_size _ rfl⟩
theorem Inv.fresh (I : Inv X pins σ H s) : H s.heap.objs.size = none := I.hok.fresh (Nat.le_refl _)
theorem Inv.lstM (I : Inv X pins σ H s) (hH : H l = some (.lst xs)) : xs.length ≤ sizeLine ∧ ∃ (its : List Value) (n : Nat), Vals xs its ∧ xs.length = its.length ∧ s.heap.get? l = some { cls := .type "list", data := .seq its.toArray n } := by
  obtain ⟨z, its, n, r, e⟩ := I.hok l _ hH
  exact ⟨z, its, n, r, r.length, e⟩
end
section
variable {X : Cx}
noncomputable def rAppend : V → List V → Hp → VK → Prop := fun x vs H Q => ∃ l xs y, x = .ref l ∧ vs = [y] ∧ H l = some (.lst xs) ∧ xs.length < sizeLine ∧ Q .non (upd H l (.lst (xs ++ [y])))
theorem mt_append : MtM X "list.append" rAppend := by
  intro pins s σ H x vs v us Q I rx rv h
  obtain ⟨l, xs, y, rfl, rfl, hH, hz, q⟩ := h
  cases rx
  obtain ⟨u, rfl, ru⟩ := rv.one
  obtain ⟨z, its, n, r, hl, e⟩ := I.lstM hH
  refine call_meets F.slot_list_append ⟨_, e, rfl⟩ F.entry_list_append (F.args_list_append_2 _ _) (PySem.list_append l its.toArray n u (by rw [List.size_toArray]; lia)) ⟨e, ?_⟩
  refine ⟨.non, _, I.lset (its' := its ++ [u]) hH e (by simp) (r.append (.cons ru .nil)) ?_, rfl, q⟩
  rw [List.length_append, List.length_singleton]
  lia
noncomputable def rReverse : V → List V → Hp → VK → Prop := fun x vs H Q => ∃ l xs, x = .ref l ∧ vs = [] ∧ H l = some (.lst xs) ∧ Q .non (upd H l (.lst xs.reverse))
theorem mt_reverse : MtM X "list.reverse" rReverse := by
  intro pins s σ H x vs v us Q I rx rv h
  obtain ⟨l, xs, rfl, rfl, hH, q⟩ := h
  cases rx
  have hus := rv.zero
  subst hus
  obtain ⟨z, its, n, r, hl, e⟩ := I.lstM hH
  refine call_meets F.slot_list_reverse ⟨_, e, rfl⟩ F.entry_list_reverse (F.args_list_reverse_1 _) (AutoSeq1.list_reverse_list_0 l its.toArray n (by rw [List.size_toArray]; lia)) ⟨e, ?_⟩
  refine ⟨.non, _, I.lset (its' := its.reverse) hH e (by simp) r.reverse ?_, rfl, q⟩
  rw [List.length_reverse]
  lia
noncomputable def rCat : R2 := fun x y H Q => ∃ l b xs zs, x = .ref l ∧ y = .ref b ∧ H l = some (.lst xs) ∧ H b = some (.lst zs) ∧ xs.length + zs.length ≤ sizeLine ∧ ∀ p, H p = none → Q (.ref p) (upd H p (.lst (xs ++ zs)))
theorem op_cat : OpR X (binaryOp .Add) rCat := by
  intro pins s σ H x y v u Q I rx ry h
  obtain ⟨l, b, xs, zs, rfl, rfl, hH, hB, hz, q⟩ := h
  cases rx
  cases ry
  obtain ⟨z, its, n, r, hl, e⟩ := I.lstM hH
  obtain ⟨z2, its2, n2, r2, hl2, e2⟩ := I.lstM hB
  refine PySem.P.add_list e e2 ?_ (by rw [List.size_toArray, List.size_toArray]; lia)
  have ea : its.toArray ++ its2.toArray = (its ++ its2).toArray := by simp
  rw [ea]
  exact ⟨.ref _, _, I.lnew (t' := s.toks) (r.append r2) (by rw [List.length_append]; lia), rfl, q _ I.fresh⟩
end
end L2
namespace L2
open PySem PySem.Spec PyProof.Rows
section
variable {κ : Type} [DecidableEq κ]
noncomputable def valV (kvs : List (κ × V)) (k : κ) : Option V := (kvs.find? fun kv => decide (kv.1 = k)).map (·.2)
noncomputable def putK (kvs : List (κ × V)) (k : κ) (v : V) : List (κ × V) :=
  if (kvs.any fun kv => decide (kv.1 = k)) = true then kvs.map (fun kv => if kv.1 = k then (kv.1, v) else kv) else kvs ++ [(k, v)]
theorem valV_pos {p : κ × V} {r : List (κ × V)} {k : κ} (e : p.1 = k) : valV (p :: r) k = some p.2 := by simp [valV, List.find?_cons, e]
theorem valV_neg {p : κ × V} {r : List (κ × V)} {k : κ} (e : ¬ p.1 = k) : valV (p :: r) k = valV r k := by simp [valV, List.find?_cons, e]
theorem valV_any (k : κ) : ∀ kvs : List (κ × V), (kvs.any fun kv => decide (kv.1 = k)) = (valV kvs k).isSome
  | [] => rfl
  | p :: r => by
    rw [List.any_cons]
    by_cases e : p.1 = k
    · simp only [valV_pos e, decide_eq_true e, Bool.true_or, Option.isSome_some]
    · rw [valV_neg e, decide_eq_false e, Bool.false_or]; exact valV_any k r
theorem valV_map (k j : κ) (y : V) : ∀ kvs : List (κ × V), valV (kvs.map fun kv => if kv.1 = k then (kv.1, y) else kv) j = (valV kvs j).map fun x => if j = k then y else x
  | [] => rfl
  | p :: r => by
    have ih := valV_map k j y r
    rw [List.map_cons]
    by_cases h : p.1 = k
    · rw [if_pos h]
      by_cases e : p.1 = j
      · rw [valV_pos (p := (p.1, y)) e, valV_pos e, Option.map_some, if_pos (e.symm.trans h)]
      · rw [valV_neg (p := (p.1, y)) e, valV_neg e, ih]
    · rw [if_neg h]
      by_cases e : p.1 = j
      · rw [valV_pos (p := p) e, valV_pos e, Option.map_some, if_neg (fun z => h (e.trans z))]
      · rw [valV_neg (p := p) e, valV_neg e, ih]
theorem valV_snoc (k j : κ) (y : V) : ∀ kvs : List (κ × V), valV kvs k = none → valV (kvs ++ [(k, y)]) j = if j = k then some y else valV kvs j
  | [], _ => by
    by_cases e : k = j
    · rw [if_pos e.symm]; exact valV_pos (p := (k, y)) e
    · rw [if_neg (fun z => e z.symm)]; exact valV_neg (p := (k, y)) e
  | p :: r, hn => by
    rw [List.cons_append]
    have hk : ¬ p.1 = k := fun z => by rw [valV_pos z] at hn; cases hn
    rw [valV_neg hk] at hn
    have ih := valV_snoc k j y r hn
    by_cases e : p.1 = j
    · rw [valV_pos e, valV_pos e, if_neg (fun z => hk (e.trans z))]
    · rw [valV_neg e, valV_neg e, ih]
theorem valV_put (kvs : List (κ × V)) (k j : κ) (y : V) : valV (putK kvs k y) j = if j = k then some y else valV kvs j := by
  unfold putK
  by_cases a : (kvs.any fun kv => decide (kv.1 = k)) = true
  · rw [if_pos a, valV_map]
    rw [valV_any] at a
    by_cases e : j = k
    · obtain ⟨x, hx⟩ := Option.isSome_iff_exists.mp a
      rw [if_pos e, e, hx, Option.map_some, if_pos rfl]
    · rw [if_neg e]
      cases valV kvs j with
      | none => rfl
      | some x => rw [Option.map_some, if_neg e]
  · rw [if_neg a]
    refine valV_snoc k j y kvs ?_
    rw [valV_any] at a
    cases q : valV kvs k with
    | none => rfl
    | some x => rw [q] at a; exact (a rfl).elim
theorem length_putK (kvs : List (κ × V)) (k : κ) (v : V) : (putK kvs k v).length ≤ kvs.length + 1 := by
  unfold putK
  split
  · rw [List.length_map]; lia
  · rw [List.length_append, List.length_cons, List.length_nil]; lia
theorem putK_new {kvs : List (κ × V)} {k : κ} (v : V) (h : valV kvs k = none) : putK kvs k v = kvs ++ [(k, v)] := by
  unfold putK
  rw [valV_any, h]
  exact if_neg (by decide)
theorem RelO.isSome_eq {o : Option V} {u : Option Value} (r : RelO o u) : o.isSome = u.isSome := by
  cases o with
  | none => cases u with
    | none => rfl
    | some _ => exact (show False from r).elim
  | some _ => cases u with
    | none => exact (show False from r).elim
    | some _ => rfl
theorem RelO.getD {o : Option V} {u : Option Value} {d : V} {d' : Value} (r : RelO o u) (rd : RelV d d') : RelV (o.getD d) (u.getD d') := by
  cases o with
  | none => cases u with
    | none => exact rd
    | some _ => exact (show False from r).elim
  | some _ => cases u with
    | none => exact (show False from r).elim
    | some _ => exact r
theorem KV.val {kvs : List (κ × V)} {vs : List (κ × Value)} (r : KV kvs vs) (k : κ) : RelO (valV kvs k) (valueAt vs k) := by
  unfold KV at r
  induction r with
  | nil => exact True.intro
  | @cons p q ps qs h t ih =>
    obtain ⟨h1, h2⟩ := h
    by_cases e : p.1 = k
    · have e' : q.1 = k := h1.symm.trans e
      have b : valueAt (q :: qs) k = some q.2 := by simp [valueAt, List.find?_cons, e']
      rw [valV_pos e, b]; exact h2
    · have e' : ¬ q.1 = k := fun z => e (h1.trans z)
      have b : valueAt (q :: qs) k = valueAt qs k := by simp [valueAt, List.find?_cons, e']
      rw [valV_neg e, b]; exact ih
theorem KV.any {kvs : List (κ × V)} {vs : List (κ × Value)} (r : KV kvs vs) (k : κ) : (kvs.any fun kv => decide (kv.1 = k)) = vs.any fun kv => decide (kv.1 = k) := by
  unfold KV at r
  induction r with
  | nil => rfl
  | cons h t ih => rw [List.any_cons, List.any_cons, ih, h.1]
theorem KV.repl {kvs : List (κ × V)} {vs : List (κ × Value)} (r : KV kvs vs) (k : κ) {y : V} {u : Value} (ry : RelV y u) :
    KV (kvs.map fun kv => if kv.1 = k then (kv.1, y) else kv) (vs.map fun kv => if kv.1 = k then (kv.1, u) else kv) := by
  unfold KV at r ⊢
  induction r with
  | nil => exact .nil
  | @cons p q ps qs h t ih =>
    rw [List.map_cons, List.map_cons]
    refine .cons ?_ ih
    obtain ⟨h1, h2⟩ := h
    by_cases e : p.1 = k
    · rw [if_pos e, if_pos (h1.symm.trans e)]; exact ⟨h1, ry⟩
    · rw [if_neg e, if_neg (fun z => e (h1.trans z))]; exact ⟨h1, h2⟩
theorem KV.put {kvs : List (κ × V)} {vs : List (κ × Value)} (r : KV kvs vs) (k : κ) {y : V} {u : Value} (ry : RelV y u) : KV (putK kvs k y) (stored vs k u) := by
  unfold putK stored
  rw [r.any k]
  by_cases e : (vs.any fun kv => decide (kv.1 = k)) = true
  · rw [if_pos e, if_pos e]; exact r.repl k ry
  · rw [if_neg e, if_neg e]; exact Paired.snoc r ⟨rfl, ry⟩
theorem KV.length {kvs : List (κ × V)} {vs : List (κ × Value)} (r : KV kvs vs) : kvs.length = vs.length := Paired.length r
end
theorem kV_is {P : Program} {w : World} {k : Key} {u : Value} (r : RelV (kV k) u) : (mixKind P w).is k u = true := by
  cases k with
  | inl i => obtain ⟨t, e⟩ := (show ∃ t, u = Value.int i t from r); subst e; exact mixKind_int P w i t
  | inr x => obtain ⟨t, e⟩ := (show ∃ t, u = Value.str x t from r); subst e; exact mixKind_str P w x t
theorem items_are {P : Program} {w : World} : ∀ {ks : List Key} {us : List Value}, Vals (ks.map kV) us → ItemsAre (mixKind P w) ks us
  | [], _, r => by rw [List.map_nil] at r; cases r; exact .nil
  | k :: ks, _, r => by
    rw [List.map_cons] at r
    cases r with
    | cons h t => exact .cons (kV_is h) (items_are t)
noncomputable abbrev KT (H : Hp) : List (List Key × V) → List (List Key × Addr × Value) → Prop := Paired fun p q => p.1 = q.1 ∧ H q.2.1 = some (.tup (p.1.map kV)) ∧ RelV p.2 q.2.2
theorem KT.val {H : Hp} {kvs : List (List Key × V)} {xs : List (List Key × Addr × Value)} (r : KT H kvs xs) (k : List Key) : RelO (valV kvs k) ((atKey xs k).map (·.2)) := by
  induction r with
  | nil => exact True.intro
  | @cons p q ps qs h t ih =>
    obtain ⟨h1, _, h2⟩ := h
    by_cases e : p.1 = k
    · have e' : q.1 = k := h1.symm.trans e
      have b : atKey (q :: qs) k = some q.2 := by simp [atKey, List.find?_cons, e']
      rw [valV_pos e, b]; exact h2
    · have e' : ¬ q.1 = k := fun z => e (h1.trans z)
      have b : atKey (q :: qs) k = atKey qs k := by simp [atKey, List.find?_cons, e']
      rw [valV_neg e, b]; exact ih
theorem KT.repl {H : Hp} {kvs : List (List Key × V)} {xs : List (List Key × Addr × Value)} (r : KT H kvs xs) (k : List Key) {y : V} {u : Value} (ry : RelV y u) :
    KT H (kvs.map fun kv => if kv.1 = k then (kv.1, y) else kv) (xs.map (putAt k u)) := by
  induction r with
  | nil => exact .nil
  | @cons p q ps qs h t ih =>
    rw [List.map_cons, List.map_cons]
    refine .cons ?_ ih
    obtain ⟨h1, h2, h3⟩ := h
    unfold putAt
    by_cases e : p.1 = k
    · rw [if_pos e, if_pos (h1.symm.trans e)]; exact ⟨h1, h2, ry⟩
    · rw [if_neg e, if_neg (fun z => e (h1.trans z))]; exact ⟨h1, h2, h3⟩
theorem KT.put {H : Hp} {kvs : List (List Key × V)} {xs : List (List Key × Addr × Value)} (r : KT H kvs xs) (k : List Key) {b : Addr} {y : V} {u : Value} (hb : H b = some (.tup (k.map kV))) (ry : RelV y u) :
    KT H (putK kvs k y) (storedH xs k b u) := by
  have e : (kvs.any fun kv => decide (kv.1 = k)) = (atKey xs k).isSome := by
    rw [valV_any, (r.val k).isSome_eq, Option.isSome_map]
  unfold putK storedH
  rw [e]
  by_cases q : (atKey xs k).isSome = true
  · rw [if_pos q, if_pos q]; exact r.repl k ry
  · rw [if_neg q, if_neg q]; exact Paired.snoc r ⟨rfl, hb, ry⟩
theorem KT.keeps {H H' : Hp} {kvs : List (List Key × V)} {xs : List (List Key × Addr × Value)} (r : KT H kvs xs) (ht : ∀ b ys, H b = some (.tup ys) → H' b = some (.tup ys)) : KT H' kvs xs :=
  Paired.mapP r fun _ _ z => ⟨z.1, ht _ _ z.2.1, z.2.2⟩
section
variable {P : Program} {w : World} {H : Hp} {h : Heap} {a : Addr}
theorem rd_of {u : HO} (ok : HOk P w H h) (e : Rd H a u) : ObjOk P w H h a u := e.ok ok
theorem dk_rd {kvs : List (Key × V)} (ok : HOk P w H h) (e : Rd H a (.dK kvs)) : kvs.length ≤ sizeLine ∧ (a == sysModules) = false ∧ ∃ vs, KV kvs vs ∧ h.DictOf (mixKind P w) a vs :=
  show ObjOk P w H h a (.dK kvs) from rd_of ok e
theorem dk_of {kvs : List (Key × V)} (ok : HOk P w H h) (e : H a = some (.dK kvs)) : kvs.length ≤ sizeLine ∧ (a == sysModules) = false ∧ ∃ vs, KV kvs vs ∧ h.DictOf (mixKind P w) a vs := dk_rd ok (.inl e)
theorem key_of {ks : List Key} (ok : HOk P w H h) (e : H a = some (.tup (ks.map kV))) : (tupleKind (mixKind P w)).is h ks a := by
  obtain ⟨_, its, r, o, h1, h2, n, h3⟩ := (show ObjOk P w H h a (.tup (ks.map kV)) from ok a _ e)
  exact ⟨o, its.toArray, n, h1, h2, h3, by simpa using items_are r⟩
theorem dt_rd {kvs : List (List Key × V)} (ok : HOk P w H h) (e : Rd H a (.dT kvs)) : kvs.length ≤ sizeLine ∧ (a == sysModules) = false ∧
    ∃ xs, KT H kvs xs ∧ h.DictOfH (tupleKind (mixKind P w)) a xs := by
  obtain ⟨z, y, xs, r, o, es, ep, h1, h2, h3, h4, h5⟩ := (show ObjOk P w H h a (.dT kvs) from rd_of ok e)
  refine ⟨z, y, xs, r, o, es, ep, h1, h2, h3, h4, fun x hx => ?_, h5⟩
  have all : ∀ {l : List (List Key × V)} {m : List (List Key × Addr × Value)}, KT H l m → ∀ x ∈ m, (tupleKind (mixKind P w)).is h x.1 x.2.1 := by
    intro l m q
    induction q with
    | nil => intro x hx; exact nomatch hx
    | @cons p q ps qs hq t ih =>
      intro x hx
      rcases List.mem_cons.mp hx with e | hx
      · subst e
        exact key_of ok (by rw [← hq.1]; exact hq.2.1)
      · exact ih x hx
  exact all r x hx
theorem dt_of {kvs : List (List Key × V)} (ok : HOk P w H h) (e : H a = some (.dT kvs)) : kvs.length ≤ sizeLine ∧ (a == sysModules) = false ∧
    ∃ xs, KT H kvs xs ∧ h.DictOfH (tupleKind (mixKind P w)) a xs := dt_rd ok (.inl e)
end
noncomputable def DGet (H : Hp) (a : Addr) (y : V) (r : Option V) : Prop :=
  (∃ kvs k, Rd H a (.dK kvs) ∧ y = kV k ∧ r = valV kvs k) ∨ ∃ kvs k b, Rd H a (.dT kvs) ∧ y = .ref b ∧ H b = some (.tup (k.map kV)) ∧ r = valV kvs k
noncomputable def DPut (H : Hp) (a : Addr) (y v : V) (H' : Hp) : Prop :=
  (∃ kvs k, H a = some (.dK kvs) ∧ y = kV k ∧ kvs.length < sizeLine ∧ H' = upd H a (.dK (putK kvs k v))) ∨
  ∃ kvs k b, H a = some (.dT kvs) ∧ y = .ref b ∧ H b = some (.tup (k.map kV)) ∧ kvs.length < sizeLine ∧ H' = upd H a (.dT (putK kvs k v))
theorem DGet.k {H : Hp} {a : Addr} {kvs : List (Key × V)} {k : Key} (e : H a = some (.dK kvs)) : DGet H a (kV k) (valV kvs k) := .inl ⟨kvs, k, .inl e, rfl, rfl⟩
theorem DPut.k {H : Hp} {a : Addr} {kvs : List (Key × V)} {k : Key} {v : V} (e : H a = some (.dK kvs)) (hl : kvs.length < sizeLine) : DPut H a (kV k) v (upd H a (.dK (putK kvs k v))) := .inl ⟨kvs, k, e, rfl, hl, rfl⟩
section
variable {X : Cx} {pins : List (Addr × Obj)} {σ : St} {H : Hp} {s : Shared} {a : Addr} {y v : V} {u r : Value} {o : Option V} {A : Around} {E : Value → Shared → Prop}
theorem Inv.big (I : Inv X pins σ H s) : sysModules < s.heap.objs.size := by
  have h : mainGlobals < s.heap.objs.size := (I.mod.glob.keeps I.bk).lt
  exact Nat.lt_trans (by decide) h
theorem d_getItem {Q : Value → Shared → Prop} (hu : A.units + 1 < cLine) (I : Inv X pins σ H s) (g : DGet H a y (some v)) (ry : RelV y u) (h : ∀ w' s', Inv X pins σ H s' → RelV v w' → Q w' s') :
    wpAny (model X.prog X.w) A (getItem (.ref a) u) Q E s := by
  rcases g with ⟨kvs, k, e, ey, l⟩ | ⟨kvs, k, b, e, ey, eb, l⟩
  · subst ey
    obtain ⟨z, hd, vs, rel, dd⟩ := dk_rd I.hok e
    obtain ⟨w', hw, rw'⟩ := RelO.some_of (v := v) (o := valueAt vs k) (by rw [l]; exact rel.val k)
    exact wpAny_getItem_of (kV_is ry) dd.mapOf hw (h w' _ (I.tok _) rw')
  · subst ey
    cases (show u = Value.ref b from ry)
    obtain ⟨z, hd, xs, rel, dd⟩ := dt_rd I.hok e
    obtain ⟨w', hw, rw'⟩ := RelO.some_of (v := v) (o := (atKey xs k).map (·.2)) (by rw [l]; exact rel.val k)
    obtain ⟨p, hp, hp2⟩ := Option.map_eq_some_iff.mp hw
    refine wpAny_getItem_heap (tupleKind_room_in1 hu) (key_of I.hok eb) dd hp ?_
    rw [hp2]
    exact h w' _ (I.tok _) rw'
theorem d_in {Q : Value → Shared → Prop} (hu : A.units + 1 < cLine) (I : Inv X pins σ H s) (g : DGet H a y o) (ry : RelV y u) (h : ∀ s', Inv X pins σ H s' → Q (.bool o.isSome) s') :
    wpAny (model X.prog X.w) A (compareOp .In u (.ref a)) Q E s := by
  rcases g with ⟨kvs, k, e, ey, l⟩ | ⟨kvs, k, b, e, ey, eb, l⟩
  · subst ey
    obtain ⟨z, hd, vs, rel, dd⟩ := dk_rd I.hok e
    refine wpAny_in_of (kV_is ry) hd dd.mapOf ?_
    rw [← (rel.val k).isSome_eq, ← l]
    exact h _ (I.tok _)
  · subst ey
    cases (show u = Value.ref b from ry)
    obtain ⟨z, hd, xs, rel, dd⟩ := dt_rd I.hok e
    refine wpAny_in_heap (tupleKind_room_in1 hu) (key_of I.hok eb) hd dd ?_
    have q := (rel.val k).isSome_eq
    rw [Option.isSome_map] at q
    rw [← q, ← l]
    exact h _ (I.tok _)
theorem d_notIn {Q : Value → Shared → Prop} (hu : A.units + 1 < cLine) (I : Inv X pins σ H s) (g : DGet H a y o) (ry : RelV y u) (h : ∀ s', Inv X pins σ H s' → Q (.bool (!o.isSome)) s') :
    wpAny (model X.prog X.w) A (compareOp .NotIn u (.ref a)) Q E s := by
  rcases g with ⟨kvs, k, e, ey, l⟩ | ⟨kvs, k, b, e, ey, eb, l⟩
  · subst ey
    obtain ⟨z, hd, vs, rel, dd⟩ := dk_rd I.hok e
    refine wpAny_notIn_of (kV_is ry) hd dd.mapOf ?_
    rw [← (rel.val k).isSome_eq, ← l]
    exact h _ (I.tok _)
  · subst ey
    cases (show u = Value.ref b from ry)
    obtain ⟨z, hd, xs, rel, dd⟩ := dt_rd I.hok e
    refine wpAny_notIn_heap (tupleKind_room_in1 hu) (key_of I.hok eb) hd dd ?_
    have q := (rel.val k).isSome_eq
    rw [Option.isSome_map] at q
    rw [← q, ← l]
    exact h _ (I.tok _)
theorem d_write {h' : Heap} {t' : Nat} {ob : HO} (I : Inv X pins σ H s) (mu : Mut (H a)) (hs : Heap.SameBut a s.heap h') (he : ∃ q, h'.get? a = some q) (new : ObjOk X.prog X.w (upd H a ob) h' a ob) :
    Inv X pins σ (upd H a ob) { s with heap := h', toks := t' } :=
  I.write (x := a) (e := a) mu (.inl rfl) (fun b q hb z => (hs.2 b hb).trans z) he new
theorem dk_new {P : Program} {w : World} {H' : Hp} {h' : Heap} {kvs : List (Key × V)} {vs : List (Key × Value)} (z : kvs.length ≤ sizeLine) (hd : (a == sysModules) = false) (rel : KV kvs vs) (dd : h'.DictOf (mixKind P w) a vs) :
    ObjOk P w H' h' a (.dK kvs) := ⟨z, hd, vs, rel, dd⟩
theorem d_setItem {H' : Hp} {Q : Unit → Shared → Prop} (hu : A.units + 1 < cLine) (I : Inv X pins σ H s) (g : DPut H a y v H') (ry : RelV y u) (rv : RelV v r) (h : ∀ s', Inv X pins σ H' s' → Q () s') :
    wpAny (model X.prog X.w) A (setItem (.ref a) u r) Q E s := by
  rcases g with ⟨kvs, k, e, ey, l, eH⟩ | ⟨kvs, k, b, e, ey, eb, l, eH⟩
  · subst ey eH
    obtain ⟨z, hd, vs, rel, dd⟩ := dk_of I.hok e
    have hz : vs.length ≤ sizeLine := by rw [← rel.length]; exact z
    have hl : (putK kvs k v).length ≤ sizeLine := by have := length_putK kvs k v; lia
    refine wpAny_setItem_pairs (hsz := hz) (kV_is ry) dd fun h' dd' hs => h _ ?_
    have he : ∃ q, h'.get? a = some q := let ⟨q, _, _, hq, _⟩ := dd'; ⟨q, hq⟩
    exact d_write I (by rw [e]; exact True.intro) hs he (dk_new hl hd (rel.put k rv) dd')
  · subst ey eH
    cases (show u = Value.ref b from ry)
    obtain ⟨z, hd, xs, rel, dd⟩ := dt_of I.hok e
    have hz : xs.length ≤ sizeLine := by rw [← Paired.length rel]; exact z
    have hl : (putK kvs k v).length ≤ sizeLine := by have := length_putK kvs k v; lia
    refine wpAny_setItem_heap (hsz := hz) (tupleKind_room_in1 hu) (key_of I.hok eb) dd fun h' dd' hs => h _ ?_
    obtain ⟨q, es, ep, hq, h2, h3, h4, _, h5⟩ := dd'
    refine d_write I (by rw [e]; exact True.intro) hs ⟨q, hq⟩ ⟨hl, hd, _, (rel.put k eb rv).keeps fun c ys ec => ?_, q, es, ep, hq, h2, h3, h4, h5⟩
    rw [upd_ne (ne_of ec e (fun z => nomatch z))]
    exact ec
end
section
variable {X : Cx} {pins : List (Addr × Obj)} {σ : St} {H : Hp} {s : Shared} {a : Addr} {kvs : List (Key × V)} {k : Key} {u : Value} {A : Around} {E : Value → Shared → Prop}
theorem d_len {Q : Value → Shared → Prop} (I : Inv X pins σ H s) (e : Rd H a (.dK kvs)) (h : ∀ t s', Inv X pins σ H s' → Q (.int kvs.length t) s') : wpAny (model X.prog X.w) A (call (.builtin "len") [.ref a]) Q E s := by
  obtain ⟨z, hd, vs, rel, dd⟩ := dk_rd I.hok e
  refine call_len_dict hd dd (by rw [← rel.length]; rw [sizeLine_eq] at z; lia) ?_
  rw [← rel.length]
  exact h _ _ (I.tok _)
end
noncomputable def NoSl (i : Expr) : Prop := ∀ ov iv, subscripted i false ov iv = operate [ov, iv] (getItem ov iv)
theorem subD_of {prog : Program} {w : World} {A : Around} {E : Value → Shared → Prop} {s : Shared} {env : Env} {value slice : Expr} {pos : Pos} {T id : String} {Q : Value → Shared → Prop}
    (hl : typeLookup (.type T) "__getitem__" = pure (some (.builtin id))) (hs : NoSl slice)
    (h : wpAny (model prog w) A (eval value env) (fun o s₁ => wpAny (model prog w) A (eval slice env) (fun i s₂ => s₂.TypeIs o T ∧ wpAny (model prog w) A (getItem o i) Q E s₂) E s₁) E s) :
    wpAny (model prog w) A (eval (.Subscript value slice pos) env) Q E s := by
  refine Subscript_ (wpAny_mono h (fun o s₁ h₁ => wpAny_mono h₁ (fun i s₂ h₂ => ?_) fun _ _ x => x) fun _ _ x => x)
  obtain ⟨hT, h₂⟩ := h₂
  unfold subscriptTail
  refine wpAny_bind ?_
  rw [getitemInPython_of_ne hT.not_modules]
  refine wpAny_bind (wpAny_specialOf hT hl ?_)
  have fin : wpAny (model prog w) A (subscripted slice false o i) (fun r s₃ => wpAny (model prog w) A (letTemporaryGo value o r >>= fun _ => pure r) Q E s₃) E s₂ := by
    rw [hs o i]
    exact wpAny_operating (wpAny_mono h₂ (fun r s₃ h₃ => wpAny_bind (wpAny_letTemporaryGo (wpAny_pure h₃))) fun _ _ x => x)
  first
    | exact wpAny_pure (wpAny_bind fin)
    | exact wpAny_bind (wpAny_pure (wpAny_bind fin))
    | exact wpAny_bind fin
theorem dict_typeIs {X : Cx} {pins : List (Addr × Obj)} {σ : St} {H : Hp} {s : Shared} {a : Addr} {y : V} {o : Option V} (I : Inv X pins σ H s) (g : DGet H a y o) : s.TypeIs (.ref a) "dict" := by
  rcases g with ⟨kvs, k, e, _, _⟩ | ⟨kvs, k, b, e, _, _, _⟩
  · obtain ⟨_, _, vs, _, dd⟩ := dk_rd I.hok e
    exact dd.typeIs
  · obtain ⟨_, _, xs, _, dd⟩ := dt_rd I.hok e
    exact dd.typeIs
inductive hasD (Q : VK) (x y : V) (H2 : Hp) : Prop
  | mk (a : _) (v : _) (c0 : x = .ref a) (c1 : DGet H2 a y (some v)) (c2 : Q v H2) : hasD Q x y H2
noncomputable def tDGet (td ty : TE) : TE := fun σ H Q => td σ H fun x H1 => ty σ H1 fun y H2 => hasD Q x y H2
inductive inD (Q : VK) (x y : V) (H2 : Hp) : Prop
  | mk (a : _) (o : _) (c0 : x = .ref a) (c1 : DGet H2 a y o) (c2 : Q (.bl o.isSome) H2) : inD Q x y H2
noncomputable def tDIn (ty td : TE) : TE := fun σ H Q => ty σ H fun y H1 => td σ H1 fun x H2 => inD Q x y H2
noncomputable def tDNotIn (ty td : TE) : TE := fun σ H Q => ty σ H fun y H1 => td σ H1 fun x H2 => ∃ a o, x = .ref a ∧ DGet H2 a y o ∧ Q (.bl (!o.isSome)) H2
noncomputable def sDPut (td ty tv : TE) : TS := fun D σ H => tv σ H fun v H1 => td σ H1 fun x H2 => ty σ H2 fun y H3 => ∃ a H4, x = .ref a ∧ DPut H3 a y v H4 ∧ D.nx σ H4
section
variable {X : Cx} {o i e value : Expr} {pos pos' tpos : Pos} {td ty tv : TE}
theorem pe_dget (hu : X.A.units + 1 < cLine) (ho : PE X o td) (hi : PE X i ty) (hs : NoSl i) : PE X (.Subscript o i pos) (tDGet td ty) := by
  intro pins s σ H Q I h
  refine subD_of PySem.F.slot_dict_getitem.lookup hs (thn (ho pins s σ H _ I h) fun u s1 hp0 => ?_)
  obtain ⟨x, H1, I1, rx, q1⟩ := hp0
  refine thn (hi pins s1 σ H1 _ I1 q1) fun iv s2 hp1 => ?_
  obtain ⟨y, H2, I2, ry, a, v, ex, g, q2⟩ := hp1
  subst ex
  obtain rfl : u = Value.ref a := rx
  exact ⟨dict_typeIs I2 g, d_getItem hu I2 g ry fun w' s3 I3 rw' => ⟨v, H2, I3, rw', q2⟩⟩
theorem pc_din (hu : X.A.units + 1 < cLine) (hi : PE X i ty) (ho : PE X o td) : PC X .In i o (tDIn ty td) := by
  intro pins s σ H Q I h
  refine thn (hi pins s σ H _ I h) fun iv s1 hp0 => ?_
  obtain ⟨y, H1, I1, ry, q1⟩ := hp0
  refine thn (ho pins s1 σ H1 _ I1 q1) fun u s2 hp1 => ?_
  obtain ⟨x, H2, I2, rx, a, ov, ex, g, q2⟩ := hp1
  subst ex
  obtain rfl : u = Value.ref a := rx
  exact d_in hu I2 g ry fun s3 I3 => ⟨.bl ov.isSome, H2, I3, rfl, q2⟩
theorem pc_dnotin (hu : X.A.units + 1 < cLine) (hi : PE X i ty) (ho : PE X o td) : PC X .NotIn i o (tDNotIn ty td) := by
  intro pins s σ H Q I h
  refine thn (hi pins s σ H _ I h) fun iv s1 hp0 => ?_
  obtain ⟨y, H1, I1, ry, q1⟩ := hp0
  refine thn (ho pins s1 σ H1 _ I1 q1) fun u s2 hp1 => ?_
  obtain ⟨x, H2, I2, rx, a, ov, ex, g, q2⟩ := hp1
  subst ex
  obtain rfl : u = Value.ref a := rx
  exact d_notIn hu I2 g ry fun s3 I3 => ⟨.bl (!ov.isSome), H2, I3, rfl, q2⟩
theorem ps_dput (hu : X.A.units + 1 < cLine) (ho : PE X o td) (hi : PE X i ty) (hv : PE X value tv) (hs : swapsWith value (some (.Subscript o i pos')) pos.line X.env = pure false) :
    PS X (.Assign [.Subscript o i pos'] value pos) (sDPut td ty tv) := by
  intro pins s σ H D I h
  refine wpAny_Assign_Subscript (thn (hv pins s σ H _ I h) fun r s1 hp0 => ?_) hs
  obtain ⟨v, H1, I1, rv, q1⟩ := hp0
  refine thn (ho pins s1 σ H1 _ I1 q1) fun u s2 hp1 => ?_
  obtain ⟨x, H2, I2, rx, q2⟩ := hp1
  refine thn (hi pins s2 σ H2 _ I2 q2) fun iv s3 hp2 => ?_
  obtain ⟨y, H3, I3, ry, a, H4, ex, g, q3⟩ := hp2
  subst ex
  obtain rfl : u = Value.ref a := rx
  exact d_setItem hu I3 g ry rv fun s4 I4 => ⟨σ, H4, I4, q3⟩
end
theorem dk_empty {P : Program} {w : World} {H : Hp} (h : Heap) (hb : sysModules < h.objs.size) : ObjOk P w H (h.push { cls := .type "dict", data := .dict #[] }) h.objs.size (.dK []) :=
  ⟨Nat.zero_le _, beq_eq_false_iff_ne.mpr (Ne.symm (Nat.ne_of_lt hb)), [], .nil, Heap.DictOf.new h⟩
noncomputable def tDNewK : TE := fun _ H Q => ∀ p, H p = none → Q (.ref p) (upd H p (.dK []))
section
variable {X : Cx} {pos : Pos}
theorem pe_dnewK : PE X (.Dict [] [] pos) tDNewK := fun pins s σ H Q I h =>
  wpAny_Dict_empty ⟨.ref s.heap.objs.size, _, I.laid (a := s.heap.objs.size) (o := .dK []) (t' := s.toks) (fun _ _ q => Heap.get?_push_of_some _ q) (Nat.le_refl _) (dk_empty s.heap I.big), rfl, h _ (I.hok.fresh (Nat.le_refl _))⟩
end
noncomputable def tPairs : List (TE × TE) → St → Hp → (List (V × V) → Hp → Prop) → Prop
  | [], _, H, Q => Q [] H
  | (tk, tv) :: r, σ, H, Q => tk σ H fun x H1 => tv σ H1 fun y H2 => tPairs r σ H2 fun ps H3 => Q ((x, y) :: ps) H3
noncomputable abbrev VV : List (V × V) → List (Value × Value) → Prop := Paired fun p q => RelV p.1 q.1 ∧ RelV p.2 q.2
noncomputable def PPs (X : Cx) (pos : Pos) (keys : List (Option Expr)) (values : List Expr) (trs : List (TE × TE)) : Prop :=
  ∀ (pins : List (Addr × Obj)) (s : Shared) (σ : St) (H : Hp) (Q : List (V × V) → Hp → Prop), Inv X pins σ H s → tPairs trs σ H Q →
    wpAny (model X.prog X.w) X.A (evalPairs (pairTrees keys values X.env pos)) (fun vs s' => ∃ ps H', Inv X pins σ H' s' ∧ VV ps vs ∧ Q ps H') X.xe s
theorem pps_nil {X : Cx} {pos : Pos} : PPs X pos [] [] [] := fun pins s σ H Q I h => pairTrees_nil_walk ⟨[], H, I, .nil, h⟩
theorem pps_cons {X : Cx} {pos : Pos} {k v : Expr} {ks : List (Option Expr)} {vs : List Expr} {tk tv : TE} {trs : List (TE × TE)} (hk : PE X k tk) (hv : PE X v tv) (hr : PPs X pos ks vs trs) :
    PPs X pos (some k :: ks) (v :: vs) ((tk, tv) :: trs) := fun pins s σ H Q I h =>
  pairTrees_cons_walk (thn (hk pins s σ H _ I h) fun u s1 ⟨x, H1, I1, rx, q1⟩ => thn (hv pins s1 σ H1 _ I1 q1) fun w2 s2 ⟨y, H2, I2, ry, q2⟩ =>
    thn (hr pins s2 σ H2 _ I2 q2) fun ws s3 hp0 => by obtain ⟨ps, H3, I3, rel, q3⟩ := hp0; exact ⟨(x, y) :: ps, H3, I3, .cons ⟨rx, ry⟩ rel, q3⟩)
noncomputable def mergeK (kvs more : List (Key × V)) : List (Key × V) := more.foldl (fun acc kv => putK acc kv.1 kv.2) kvs
theorem KV.merge : ∀ {more : List (Key × V)} {rs : List (Key × Value)} {kvs : List (Key × V)} {vs : List (Key × Value)}, KV more rs → KV kvs vs → KV (mergeK kvs more) (merged vs rs) := by
  intro more rs kvs vs r
  unfold KV at r
  induction r generalizing kvs vs with
  | nil => intro q; exact q
  | @cons p q ps qs h t ih =>
    intro r0
    have e : KV (putK kvs p.1 p.2) (stored vs q.1 q.2) := by
      have := r0.put p.1 h.2
      rw [← h.1]; exact this
    exact ih e
theorem length_mergeK : ∀ (more kvs : List (Key × V)), (mergeK kvs more).length ≤ kvs.length + more.length
  | [], kvs => by show kvs.length ≤ kvs.length + 0; lia
  | p :: r, kvs => by
    have h1 := length_mergeK r (putK kvs p.1 p.2)
    have h2 := length_putK kvs p.1 p.2
    show (mergeK (putK kvs p.1 p.2) r).length ≤ _
    rw [List.length_cons]; lia
theorem carries_of {P : Program} {w : World} : ∀ {kvs : List (Key × V)} {ws : List (Value × Value)}, VV (kvs.map fun kv => (kV kv.1, kv.2)) ws → ∃ rs, Carries (mixKind P w) ws rs ∧ KV kvs rs
  | [], _, r => by rw [List.map_nil] at r; cases r; exact ⟨[], True.intro, .nil⟩
  | p :: kvs, _, r => by
    rw [List.map_cons] at r
    cases r with
    | @cons a b as bs h t =>
      obtain ⟨rs, c, q⟩ := carries_of (P := P) (w := w) t
      obtain ⟨b1, b2⟩ := b
      exact ⟨(p.1, b2) :: rs, ⟨kV_is h.1, rfl, c⟩, .cons ⟨rfl, h.2⟩ q⟩
noncomputable def tDisp (trs : List (TE × TE)) : TE := fun σ H Q => ∀ p, H p = none → tPairs trs σ (upd H p (.dK [])) fun ps H2 => H2 p = some (.dK []) ∧ ∃ kvs : List (Key × V), ps = kvs.map (fun kv => (kV kv.1, kv.2)) ∧ kvs.length ≤ 15 ∧ Q (.ref p) (upd H2 p (.dK (mergeK [] kvs)))
theorem pe_disp {X : Cx} {pos : Pos} {keys : List (Option Expr)} {values : List Expr} {trs : List (TE × TE)} (h : PPs X pos keys values trs) (hall : keys.all (·.isSome) = true) (hl : keys.length = values.length) (h0 : keys ≠ [])
    (h15 : keys.length ≤ 15) : PE X (.Dict keys values pos) (tDisp trs) := by
  intro pins s σ H Q I q
  have hn := I.hok.fresh (Nat.le_refl s.heap.objs.size)
  have I1 := I.laid (a := s.heap.objs.size) (o := .dK []) (h' := s.heap.push { cls := .type "dict", data := .dict #[] }) (t' := s.toks) (fun _ _ q => Heap.get?_push_of_some _ q) (Nat.le_refl _) (dk_empty s.heap I.big)
  refine wpAny_Dict_walk (knd := mixKind X.prog X.w) hall hl h0 h15 (thn (h pins _ σ _ _ I1 (q _ hn)) fun ws s2 hp0 => ?_)
  obtain ⟨ps, H2, I2, rel, e, kvs, ep, lk, q2⟩ := hp0
  subst ep
  obtain ⟨rs, c, rk⟩ := carries_of (P := X.prog) (w := X.w) rel
  obtain ⟨z, hd, vs0, r0, dd⟩ := dk_of I2.hok e
  cases r0
  refine ⟨rs, c, dd, fun h' dd' hs => ⟨.ref s.heap.objs.size, _, ?_, rfl, q2⟩⟩
  have hz : (mergeK [] kvs).length ≤ sizeLine := by
    have h1 := length_mergeK kvs []
    rw [List.length_nil] at h1
    rw [sizeLine_eq]; lia
  have he : ∃ q, h'.get? s.heap.objs.size = some q := let ⟨q, _, _, hq, _⟩ := dd'; ⟨q, hq⟩
  exact d_write I2 (by rw [e]; exact True.intro) hs he (dk_new hz hd (rk.merge .nil) dd')
structure M1 (X : Cx) (o : Expr) (m : Str) (apos : Pos) (e : Expr) (cpos : Pos) : Prop where
  base : attributeBase o m X.env (eval o X.env) = eval o X.env
  few : ((backTo cpos (starEach [e] X.env)).all (fun x => !x.1) && (backToKw cpos (keywordEach [] X.env)).all (fun x => x.1.isSome)
    && decide (([e] : List Expr).length + ([] : List Keyword).length + (if ([] : List Keyword).isEmpty then 0 else 1) < 30)) = true
  line : (apos.endLine == cpos.line) = true
  trees : backTo cpos (starEach [e] X.env) = [(false, eval e X.env)]
end L2
namespace Att
open PySem PySem.W PySem.Calls PyProof.Rows
theorem ints_of_wellAll {P : Params} {h : Heap} : ∀ (ns : List Int) (vs : List Value), WellAll P h vs (ns.map WData.int) → IntsAre vs ns := by
  intro ns
  induction ns with
  | nil =>
    intro vs w
    rw [List.map_nil] at w
    cases w
    exact .nil
  | cons n ns ih =>
    intro vs w
    rw [List.map_cons] at w
    cases w with
    | cons a b =>
      cases a
      exact .cons _ _ (ih _ b)
theorem script_of {l : OpenLaw} {n : Nat} (hn : l.most = some n) {P : Params} {h : Heap} {args : List WData} {vals : List Value}
    (hpre : l.row.toRowW.claim.pre args = true) (hwl : WellAll P h vals args) :
    ∃ a vs ns, vals = [Value.ref a] ∧ args = [WData.list (ns.map WData.int)] ∧ h.get? a = some { cls := .type "list", data := .seq vs.toArray } ∧ IntsAre vs ns ∧ ns.length ≤ n := by
  have hsh : WShape.hasAll [] args [.list .int] = true := (pre_splitW hpre).1
  have hc : l.pre.holds [] { args := args } = true := (pre_splitW hpre).2
  obtain ⟨d, r, rfl, h1, h2⟩ := hasAllW_cons hsh
  obtain rfl := hasAllW_nil h2
  obtain ⟨xs, rfl, h3⟩ := hasW_list h1
  obtain ⟨ns, rfl⟩ := items_int h3
  have hlen : ns.length ≤ n := by
    unfold OpenLaw.pre at hc
    have h4 : (WTm.not (.lt (.lit (.int (n : Int))) (.len (.arg 0)))).holds [] { args := [.list (ns.map .int)] } = true := by
      have h4 := (holds_andW hc).1
      rw [hn] at h4
      exact h4
    have h5 := condW_of h4 (w_not (w_lt w_lit (w_len_list (w_arg rfl))))
    rw [List.length_map] at h5
    refine Nat.le_of_not_lt fun q => ?_
    have q' : (n : Int) < ((ns.length : Nat) : Int) := by lia
    first
      | (rw [decide_eq_true q'] at h5; exact absurd h5 (by decide))
      | (simp at h5; lia)
  cases hwl with
  | cons w1 w2 =>
    cases w2
    cases w1 with
    | list ho hall => exact ⟨_, _, ns, rfl, rfl, ho, ints_of_wellAll ns _ hall, hlen⟩
theorem post_true (l : OpenLaw) (args : List WData) : l.row.toRowW.claim.post args (.bool true) args = true :=
  postW_of (r := l.row.toRowW) (X := (true == true))
    (show WShape.has [] (.bool true) .bool = true by first | rfl | decide | simp [WShape.has, WShape.arms, WShape.armsAll])
    (show (WTm.eq .res (.lit (.bool true))).value [] { args := args, res := some (.bool true), after := args } = some (.bool (true == true)) from w_eq_bool (w_res rfl) w_lit) rfl
theorem attach_call {l : OpenLaw} {n : Nat} {q : Program} {loose : List Str} {XP : (Str → Option Value) → Heap → Prop} {YP : World → Heap → Prop} {d : DefRec}
    (hn : l.most = some n) (hdf : d.params.defaults = [])
    (call : ∀ (w : World) (s₀ s₁ : Shared) (mg mb : Str → Option Value) (fa : Addr) (o : Obj) (pm cd doc : Value) (a : Addr) (vs : List Value) (ns : List Int),
      Ground q loose [] XP w s₀ mg mb s₁.heap → YP w s₁.heap →
      s₁.heap.get? fa = some o → o.data = .func (docDef d.name d.params d.body d.scope pm cd doc) → s₁.heap.CodeRec cd d.name → mg d.name = some (.ref fa) →
      s₁.heap.get? a = some { cls := .type "list", data := .seq vs.toArray } → IntsAre vs ns → ns.length ≤ n → s₁.gens = #[] →
      codeAny (model l.prog w) callerA (.call (.ref fa) ⟨[.ref a], []⟩) (fun r s' => r = .ok (.ret (.bool true)) ∧ OldK s₁.heap s'.heap ∧ s'.os = s₁.os ∧ AllBare s'.gens) s₁) :
    WalkO q loose XP YP l.row.toRowW d [] (fun f vs => PySem.call f vs) := by
  intro w s₀ s₁ mg mb G Y fa o pm cd doc dV kV ho hd hcd hD hmg hg args vals as hpre hlay hrd hwl hlo
  obtain rfl : dV = .none := Dflts.none hD hdf
  obtain rfl : kV = .none := Dflts.noKw hD
  obtain ⟨a, vs, ns, rfl, rfl, hobj, hints, hlen⟩ := script_of hn hpre hwl
  refine enter_call (codeAny_mono (call w s₀ s₁ mg mb fa o pm cd doc a vs ns G Y ho (fd_plain hd) hcd hmg hobj hints hlen hg) fun r s' hq => ?_)
  obtain ⟨rfl, h2, h3, h4⟩ := hq
  exact ⟨.inl ⟨.bool true, .bool true, [], rfl, fun _ => rfl, .bool true, post_true l _, fun _ => ⟨List.Pairwise.nil, fun _ hm => (nomatch hm)⟩⟩, h2, h3, h4⟩
end Att
namespace L2
open PySem PySem.Spec PyProof.Rows
theorem vals_ints : ∀ {vs : List Value} {ns : List Int}, IntsAre vs ns → Vals (ns.map V.int) vs
  | _, _, .nil => .nil
  | _, _, .cons n t h => .cons ⟨t, rfl⟩ (vals_ints h)
noncomputable def Only (H : Hp) : Prop := ∀ b, H b = none ∨ ∃ o xs, H b = some (.frz o (.lst xs))
theorem law_call {P : Program} {w : World} {K : PySem.W.Frag} {mg mb : Str → Option Value} {CX : CXT} {k : Nat} {fa a : Addr} {fd : FuncData} {x : Str} {sp : Sp} {s₁ : Shared} {vs : List Value} {ns : List Int}
    (KX : K.In s₁.heap) (hns : s₁.heap.Ns mainGlobals mg) (hb : s₁.heap.Ns builtinsNs mb) (hbb : ∀ x : Str, x ≠ "__name__" → mb x = bootBuiltins x) (hlim : s₁.heap.NoLimit) (hg : s₁.gens = #[])
    (ha : s₁.heap.get? a = some { cls := .type "list", data := .seq vs.toArray }) (hi : IntsAre vs ns) (hl : ns.length ≤ sizeLine) (hr : Room k callerA)
    (F : ∀ base : Heap, K.In base → base.Ns mainGlobals mg → FnOk P w K mg base CX k fa fd [x] sp) (hbind : ∀ (s : Shared) (u : Value), BindsTo s fd ⟨[u], []⟩ [(x, u)])
    (hsp : ∀ H : Hp, Only H → SqL K H a (ns.map V.int) → sp [.ref a] H (fun v _ => v = .bl true) fun _ _ _ => False)
    (hCX : ∀ H e s', CX [] H s₁ (fun _ _ _ => False) e s' → False) :
    codeAny (model P w) callerA (.call (.ref fa) ⟨[.ref a], []⟩) (fun r s' => r = .ok (.ret (.bool true)) ∧ OldK s₁.heap s'.heap ∧ s'.os = s₁.os ∧ AllBare s'.gens) s₁ := by
  have rv := vals_ints hi
  have lenV := hi.length
  -- from an abstract heap in which nothing but the script may be tracked
  have core : ∀ H : Hp, Only H → SqL K H a (ns.map V.int) → HOk P w H s₁.heap → (∀ b, H b ≠ none → b = a) → (H a ≠ none → K.lookup a = none) →
      codeAny (model P w) callerA (.call (.ref fa) ⟨[.ref a], []⟩) (fun r s' => r = .ok (.ret (.bool true)) ∧ OldK s₁.heap s'.heap ∧ s'.os = s₁.os ∧ AllBare s'.gens) s₁ := by
    intro H hO hS hok hA hK
    have base_of : ∀ {b : Addr} {o : Obj}, s₁.heap.get? b = some o → H b = none → (hidT s₁.heap H).get? b = some o := fun e n => hidT_get e n
    have noA : ∀ {b : Addr} {o : Obj} {es : Array DictEntry} {ep : Nat}, s₁.heap.get? b = some o → o.data = .dict es ep → H b = none := fun {b o es ep} e d => by
      cases q : H b with
      | none => rfl
      | some u =>
        have e' : b = a := hA b (by rw [q]; simp)
        subst e'
        rw [ha] at e; cases e
        have d' : Data.seq vs.toArray _ = Data.dict es ep := d
        cases d'
    have nsK : ∀ {b : Addr} {m : Str → Option Value}, s₁.heap.Ns b m → (hidT s₁.heap H).Ns b m := fun {b m} ⟨o, es, ep, e, d, r⟩ => ⟨o, es, ep, base_of e (noA e d), d, r⟩
    have hKb : K.In (hidT s₁.heap H) := fun b o e => base_of (KX b o e) (by
      cases q : H b with
      | none => rfl
      | some u =>
        have e' : b = a := hA b (by rw [q]; simp)
        subst e'
        rw [hK (by rw [q]; simp)] at e; cases e)
    have hM : Mod K mg (hidT s₁.heap H) := ⟨hKb, nsK hns, ⟨mb, nsK hb, hbb⟩, let ⟨mc, h1, h2⟩ := hlim; ⟨mc, nsK h1, h2⟩⟩
    have e0 : Env0 P w K mg (hidT s₁.heap H) callerA [] s₁ H := ⟨rfl, hM, fun b o e => of_hidT e, Nat.le_of_eq (hidT_size _ _), trivial, fun b hb => absurd (show b ∈ ([] : List Addr) from hb) (by simp), hok, .of_eq hg⟩
    refine codeAny_mono ((F _ hKb (nsK hns)).run callerA [] s₁ H ⟨[.ref a], []⟩ [.ref a] [.ref a] _ _ hr e0 (hbind s₁ (.ref a)) (.cons rfl .nil) (hsp H hO hS)) fun r s' h => ?_
    cases r with
    | error e => exact (hCX H e s' h).elim
    | ok fl =>
      cases fl with
      | next => exact False.elim h
      | brk => exact False.elim h
      | cont => exact False.elim h
      | ret u =>
        obtain ⟨v, H', os, bare, un, hok', r', q⟩ := h
        have q' : v = .bl true := q
        subst q'
        obtain rfl : u = Value.bool true := r'
        refine ⟨rfl, OldK.of_keep fun b o e => ?_, os, bare⟩
        cases q : H b with
        | none => exact un.keep b o e q (by intro z; exact absurd (show b ∈ ([] : List Addr) from z) (by simp)) (by simp)
        | some u =>
          rcases hO b with z | ⟨ob, xs, z⟩
          · rw [q] at z; cases z
          · have z2 := un.frzs b ob _ z
            obtain ⟨e1, _⟩ := hok b _ z
            obtain ⟨e2, _⟩ := hok' b _ z2
            rw [e] at e1; cases e1
            exact e2
  cases hk : K.lookup a with
  | some o =>
    -- the script is one of the module's own objects
    have e := KX a o hk
    rw [ha] at e
    cases e
    refine core (fun _ => none) (fun _ => .inl rfl) (.inr ⟨_, vs.toArray, _, hk, rfl, rfl, rfl, by rw [List.size_toArray, lenV]; exact hl, by simpa using rv⟩) (fun b u z => by have z' : (none : Option HO) = some u := z; cases z') (fun b z => absurd rfl z) fun z => absurd rfl z
  | none =>
    refine core (fun b => if b = a then some (.frz { cls := .type "list", data := .seq vs.toArray } (.lst (ns.map V.int))) else none) (fun b => ?_) (.inl (.inr ⟨{ cls := .type "list", data := .seq vs.toArray }, if_pos rfl⟩)) (fun b u z => ?_) (fun b z => ?_) fun _ => hk
    · by_cases hb : b = a
      · exact .inr ⟨_, _, if_pos hb⟩
      · exact .inl (if_neg hb)
    · by_cases hb : b = a
      · have z' := (if_pos hb).symm.trans z
        cases z'
        subst hb
        exact ⟨ha, by rw [List.length_map]; exact hl, vs, _, rv, ha⟩
      · have z' := (if_neg hb).symm.trans z
        cases z'
    · by_cases hb : b = a
      · exact hb
      · exact absurd (if_neg hb) z
end L2
namespace L2
open PySem PySem.Spec PyProof.Rows
theorem walk_of {l : PySem.W.OpenLaw} {n k : Nat} {q : Program} {loose : List Str} {XP : (Str → Option Value) → Heap → Prop} {YP : World → Heap → Prop} {d : DefRec} {K : Params → PySem.W.Frag} {CX : World → CXT} {sp : World → Sp} {x : Str}
    (hn : l.most = some n) (hn2 : n ≤ sizeLine) (hdf : d.params.defaults = []) (hr : Room k callerA)
    (hY : ∀ (w : World) (h : Heap), YP w h → (K w.params).In h)
    (F : ∀ (w : World) (mg : Str → Option Value) (fa : Addr) (h : Heap), (K w.params).In h → h.Ns mainGlobals mg → mg d.name = some (.ref fa) →
      ∃ fd : FuncData, (∀ (s : Shared) (u : Value), BindsTo s fd ⟨[u], []⟩ [(x, u)]) ∧
        ∀ base : Heap, (K w.params).In base → base.Ns mainGlobals mg → FnOk l.prog w (K w.params) mg base (CX w) k fa fd [x] (sp w))
    (hsp : ∀ (w : World) (H : Hp) (a : Addr) (ns : List Int), ns.length ≤ n → Only H → SqL (K w.params) H a (ns.map V.int) → sp w [.ref a] H (fun v _ => v = .bl true) fun _ _ _ => False)
    (hCX : ∀ (w : World) (H : Hp) (s : Shared) (e : Value) (s' : Shared), CX w [] H s (fun _ _ _ => False) e s' → False) :
    PySem.W.WalkO q loose XP YP l.row.toRowW d [] (fun f vs => PySem.call f vs) := by
  refine Att.attach_call hn hdf fun w s₀ s₁ mg mb fa o pm cd doc a vs ns G Y ho hd hcd hmg hobj hints hlen hg => ?_
  have KX := hY w _ Y
  obtain ⟨fd, hb, hF⟩ := F w mg fa _ KX G.T.g hmg
  exact law_call KX G.T.g G.T.b G.T.builtins G.T.nolimit hg hobj hints (Nat.le_trans hlen hn2) hr hF hb (fun H hO hS => hsp w H a ns hlen hO hS) fun H e s' => hCX w H s₁ e s'
end L2
namespace L2
open PySem PySem.Spec PyProof.Rows
noncomputable def inClass (s : Stmt) (j : Nat) : Stmt := match s with
  | .ClassDef _ _ _ body _ _ _ _ _ _ _ => body.getD j (.Pass ⟨0, 0, 0, 0⟩)
  | _ => .Pass ⟨0, 0, 0, 0⟩
noncomputable def defArgs (s : Stmt) : Arguments := match s with
  | .FunctionDef _ a _ _ _ _ _ _ _ _ => a
  | _ => { posonlyargs := [], args := [], vararg := none, kwonlyargs := [], kw_defaults := [], kwarg := none, defaults := [] }
noncomputable def defBody (s : Stmt) : List Stmt := match s with
  | .FunctionDef _ _ b _ _ _ _ _ _ _ => b
  | _ => []
noncomputable def defScope (s : Stmt) : Scope := match s with
  | .FunctionDef _ _ _ _ _ _ sc _ _ _ => sc
  | _ => { kind := .function, names := [], isGenerator := false, isCoroutine := false }
noncomputable abbrev CX0 : CXT := fun _ _ _ _ _ _ => False
noncomputable abbrev E0 : XK := fun _ _ _ => False
theorem pass0 {X : Cx} : Passes CX0 X E0 := fun _ _ _ _ _ _ _ h => h.elim
structure Fun (K : PySem.W.Frag) (x qual : Str) (st : Stmt) (f : Addr) (fd : FuncData) : Prop where
  ex : ∃ (oc : Value) (od : Option Addr) (kV doc pm : Value) (an : Option Addr) (cdv ct : Value) (osl : Array (Option Value)),
    fd = PySem.W.fnOf x qual (defArgs st) (defBody st) (defScope st) .none kV doc pm an cdv ct ∧ K.lookup f = some ⟨oc, od, .func fd, osl⟩ ∧ PySem.W.codeIn K cdv qual = true
  kp : PySem.W.keepIn K (.ref f) = true
section
variable {P : Program} {w : World} {K : PySem.W.Frag} {mg : Str → Option Value} {base : Heap}
theorem Fun.ok {x qual : Str} {st : Stmt} {f : Addr} {fd : FuncData} {N ps : List Str} {k : Nat} {sp : Sp} (F : Fun K x qual st f fd) (S : FnScope N ps (defScope st)) (len : ∀ vs H Q E, sp vs H Q E → vs.length = ps.length)
    (hbody : ∀ (cdv : Value) (A : Around) (outer : List Env) (s : Shared) (H : Hp) (vs : List V) (Q : VK) (E : XK), Room k (A.deeper (envOfC qual (defScope st) s.heap.objs.size f cdv)) → sp vs H Q E →
      ∃ t, PSs (cxOf CX0 P w K mg base N qual (defScope st) f cdv A outer s H E).nox (defBody st) t ∧ t { nx := fun _ H' => Q .non H', rt := Q } (start N vs) H) : FnOk P w K mg base CX0 (k + 1) f fd ps sp := by
  obtain ⟨oc, od, kV, doc, pm, an, cdv, ct, osl, rfl, lk, hcd⟩ := F.ex
  refine fn_of lk hcd S len fun A outer s H vs Q E hr hsp => ?_
  obtain ⟨t, h, q⟩ := hbody cdv A outer s H vs Q E hr hsp
  exact ⟨t, h.nox, q⟩
theorem Fun.binds {x qual : Str} {st : Stmt} {f : Addr} {fd : FuncData} {ps : List Str} (F : Fun K x qual st f fd)
    (h : ∀ (kV doc pm : Value) (an : Option Addr) (cdv ct : Value) (us : List Value), us.length = ps.length → bindArgs (PySem.W.fnOf x qual (defArgs st) (defBody st) (defScope st) .none kV doc pm an cdv ct) ⟨us, []⟩ = pure (ps.zip us)) : Binds K fd ps [] := by
  obtain ⟨oc, od, kV, doc, pm, an, cdv, ct, osl, rfl, lk, hcd⟩ := F.ex
  exact .all (h kV doc pm an cdv ct)
theorem fun_mk {x qual : Str} {st : Stmt} {f : Addr} {oc : Value} {od an : Option Addr} {osl : Array (Option Value)} {kV doc pm cdv ct : Value} (l : K.lookup f = some ⟨oc, od, .func (PySem.W.fnOf x qual (defArgs st) (defBody st) (defScope st) .none kV doc pm an cdv ct), osl⟩)
    (c : PySem.W.codeIn K cdv qual = true) (k : PySem.W.keepIn K (.ref f) = true) : Fun K x qual st f (PySem.W.fnOf x qual (defArgs st) (defBody st) (defScope st) .none kV doc pm an cdv ct) := ⟨⟨oc, od, kV, doc, pm, an, cdv, ct, osl, rfl, l, c⟩, k⟩
end
theorem hu_of {A : Around} {k : Nat} (hr : Room k A) : A.units + 1 < cLine := Nat.lt_of_le_of_lt (Nat.add_le_add_left (by decide : 1 ≤ 64) _) hr.units
section
variable {X : Cx}
theorem pv (i : Nat) {x : Str} {pos : Pos} (hN : X.N[i]? = some x := by rfl) (hv : Vis X.env.scope x := by first | exact Or.inl rfl | exact Or.inr (Or.inl rfl) | exact Or.inr (Or.inr rfl)) (hd : (x == ("__debug__" : Str)) = false := by decide)
    (hcd : (x == ("__classdict__" : Str)) = false := by decide) : PE X (.Name x pos) (tVar i) := pe_var hN hv hd hcd
theorem call_lenD : CallR X (.builtin "len") (fun xs H Q => ∃ a kvs, xs = [V.ref a] ∧ H a = some (.dK kvs) ∧ Q (.int kvs.length) H) := by
  intro pins s σ H xs us Q I r h
  obtain ⟨a, kvs, rfl, ha, q⟩ := h
  obtain ⟨u, rfl, ru⟩ := vals1 r
  cases ru
  exact d_len I (.inl ha) fun t s' I' => ⟨.int kvs.length, H, I', ⟨t, rfl⟩, q⟩
end
theorem iteF {A B : Prop} (h : B) : if false = true then A else B := by
  rw [if_neg Bool.false_ne_true]
  exact h
theorem iteT {A B : Prop} (h : A) : if true = true then A else B := by
  rw [if_pos rfl]
  exact h
theorem ite2 {c A B : Prop} [Decidable c] (h1 : c → A) (h2 : ¬ c → B) : if c then A else B := by
  by_cases h : c
  · rw [if_pos h]
    exact h1 h
  · rw [if_neg h]
    exact h2 h
theorem iteNS {c A B : Prop} [Decidable c] (hc : c) (h : B) : if (!decide c) = true then A else B := by
  rw [decide_eq_true hc]
  exact iteF h
noncomputable def Same (H H' : Hp) : Prop := ∀ b o, H b = some o → H' b = some o
theorem Same.refl (H : Hp) : Same H H := fun _ _ h => h
theorem Same.trans {H H1 H2 : Hp} (a : Same H H1) (b : Same H1 H2) : Same H H2 := fun c o h => b c o (a c o h)
theorem Same.free {H H' : Hp} (e : Same H H') {l : Addr} (h : H' l = Option.none) : H l = Option.none := by
  cases q : H l with
  | none => rfl
  | some o =>
    rw [e l o q] at h
    cases h
theorem Same.seq {K : PySem.W.Frag} {H H' : Hp} {a : Addr} {xs : List V} (e : Same H H') (h : SqL K H a xs) : SqL K H' a xs := by
  rcases h with (h | ⟨o, h⟩) | h
  · exact .inl (.inl (e _ _ h))
  · exact .inl (.inr ⟨o, e _ _ h⟩)
  · exact .inr h
section
variable {κ : Type} [DecidableEq κ]
theorem valV_in {kvs : List (κ × V)} {k : κ} {v : V} (h : valV kvs k = some v) : k ∈ kvs.map (·.1) := by
  have q : (kvs.any fun kv => decide (kv.1 = k)) = true := by
    rw [valV_any, h]
    all_goals rfl
  obtain ⟨p, hp, e⟩ := List.any_eq_true.mp q
  exact List.mem_map.mpr ⟨p, hp, of_decide_eq_true e⟩
end
end L2
namespace L2
open PySem PySem.Spec PyProof.Rows
noncomputable def clos (cells : List (Str × Addr)) : List (Str × NameKind) → List (Str × Addr) → List (Str × Addr)
  | [], cs => cs
  | (n, k) :: r, cs => clos cells r (if k == NameKind.free then (n, (cells.lookup n).getD 0) :: cs else cs)
theorem clos_go {env : Env} : ∀ (ns : List (Str × NameKind)) (cs : List (Str × Addr)), (∀ y ∈ ns, y.2 = NameKind.free → (env.cells.lookup y.1).isSome = true) →
    (forIn ns cs fun (p : Str × NameKind) (r : List (Str × Addr)) =>
      if (p.2 == NameKind.free) = true then (do let a ← cellOf env p.1; pure (ForInStep.yield ((p.1, a) :: r)) : Sem _) else pure (ForInStep.yield r)) = (pure (clos env.cells ns cs) : Sem _)
  | [], cs, _ => by simp [clos]
  | (n, k) :: r, cs, h => by
    have ih := fun cs' => clos_go r cs' fun y hy => h y (List.mem_cons_of_mem _ hy)
    rw [List.forIn_cons]
    by_cases hk : k = NameKind.free
    · subst hk
      have hs := h (n, NameKind.free) List.mem_cons_self rfl
      cases e : env.cells.lookup n with
      | none => rw [e] at hs; cases hs
      | some c =>
        have e1 : cellOf env n = pure c := by unfold cellOf; rw [e]
        have e2 : clos env.cells ((n, NameKind.free) :: r) cs = clos env.cells r ((n, c) :: cs) := by simp [clos, e]
        rw [e2, ← ih ((n, c) :: cs)]
        (simp only [beq_self_eq_true, if_true])
        rw [e1]
        rfl
    · have hb : (k == NameKind.free) = false := by simpa using hk
      have e2 : clos env.cells ((n, k) :: r) cs = clos env.cells r cs := by simp [clos, hb]
      rw [e2, ← ih cs]
      (simp only [hb, Bool.false_eq_true, if_false])
      rfl
theorem closureFor_is {scope : Scope} {env : Env} (h : ∀ y ∈ scope.names, y.2 = NameKind.free → (env.cells.lookup y.1).isSome = true) : closureFor scope env = pure (clos env.cells scope.names []) := by
  have e := clos_go (env := env) scope.names [] h
  unfold closureFor
  simp only [bind_pure]
  exact e
theorem clos_sub {cells : List (Str × Addr)} {x : Str} {c : Addr} : ∀ {ns : List (Str × NameKind)} {cs : List (Str × Addr)}, (∀ y ∈ ns, y.2 = NameKind.free → (cells.lookup y.1).isSome = true) → (cs.lookup x = some c → cells.lookup x = some c) →
    (clos cells ns cs).lookup x = some c → cells.lookup x = some c
  | [], _, _, h, e => h e
  | (n, k) :: r, cs, hn, h, e => by
    refine clos_sub (ns := r) (fun y hy => hn y (List.mem_cons_of_mem _ hy)) ?_ e
    by_cases hk : k = NameKind.free
    · subst hk
      (simp only [beq_self_eq_true, if_true])
      intro q
      rw [List.lookup_cons] at q
      by_cases hx : x = n
      · subst hx
        have hs := hn (x, NameKind.free) List.mem_cons_self rfl
        simp only [beq_self_eq_true] at q
        cases e1 : cells.lookup x with
        | none => rw [e1] at hs; cases hs
        | some d => rw [e1] at q; exact q
      · have hb : (x == n) = false := by simpa using hx
        rw [hb] at q
        exact h q
    · have hb : (k == NameKind.free) = false := by simpa using hk
      (simp only [hb, Bool.false_eq_true, if_false])
      exact h
theorem clos_keep {cells : List (Str × Addr)} {x : Str} : ∀ {ns : List (Str × NameKind)} {cs : List (Str × Addr)}, (cs.lookup x).isSome = true → ((clos cells ns cs).lookup x).isSome = true
  | [], _, h => h
  | (n, k) :: r, cs, h => by
    refine clos_keep (ns := r) ?_
    split
    · rw [List.lookup_cons]
      split
      · rfl
      · exact h
    · exact h
theorem clos_has {cells : List (Str × Addr)} {x : Str} : ∀ {ns : List (Str × NameKind)} {cs : List (Str × Addr)}, (x, NameKind.free) ∈ ns → ((clos cells ns cs).lookup x).isSome = true
  | [], _, h => nomatch h
  | (n, k) :: r, cs, h => by
    rcases List.mem_cons.mp h with e | e
    · cases e
      refine clos_keep (ns := r) ?_
      simp
    · exact clos_has (ns := r) e
theorem relab_free {env : Env} {x : Str} {k : NameKind} : ∀ {ns : List (Str × NameKind)}, (∀ y ∈ ns, y.2 ≠ NameKind.cell) → k = NameKind.cell ∨ k = NameKind.free →
    (ns.map fun (p : Str × NameKind) => if (p.2 == NameKind.free && env.scope.kind == .function && env.kindOf p.1 == some .cell) then (p.1, NameKind.cell) else (p.1, p.2)).lookup x = some k → (x, NameKind.free) ∈ ns
  | [], _, _, e => by simp at e
  | (n, j) :: r, hn, hk, e => by
    rw [List.map_cons] at e
    by_cases hx : x = n
    · subst hx
      have hj : j = NameKind.free := by
        by_cases hc : (j == NameKind.free && env.scope.kind == .function && env.kindOf x == some .cell) = true
        · simp only [Bool.and_eq_true, beq_iff_eq] at hc
          exact hc.1.1
        · simp only [hc] at e
          simp at e
          subst e
          rcases hk with q | q
          · exact absurd q (hn (x, j) List.mem_cons_self)
          · exact q
      subst hj
      exact List.mem_cons_self
    · refine List.mem_cons_of_mem _ (relab_free (env := env) (fun y hy => hn y (List.mem_cons_of_mem _ hy)) hk ?_)
      by_cases hc : (j == NameKind.free && env.scope.kind == .function && env.kindOf n == some .cell) = true
      · simp only [hc, if_true] at e
        rw [List.lookup_cons] at e
        have hb : (x == n) = false := by simpa using hx
        rw [hb] at e
        exact e
      · simp only [hc] at e
        simp at e
        rw [List.lookup_cons] at e
        have hb : (x == n) = false := by simpa using hx
        rw [hb] at e
        simpa using e
noncomputable def lcCx (X : Cx) (N : List Str) (scope : Scope) (C : Addr) (s : Shared) (H : Hp) (fp : List Addr) : Cx where
  prog := X.prog
  w := X.w
  K := X.K
  mg := X.mg
  base := X.base
  A := X.A
  N := N
  s₀ := s
  H₀ := H
  env := compEnvC scope (clos X.env.cells scope.names []) C X.env
  outer := X.stack
  stack := X.stack
  ex := fp
  fn := fun _ => false
  calm := X.calm
  pn := []
  xe := fun _ _ => False
noncomputable def caps (n : Nat) (js : List Nat) (σ : St) : St := List.replicate n none ++ js.map fun j => (σ[j]?).getD none
structure LcOk (X : Cx) (N : List Str) (sc scope : Scope) (own : List Str) (fr : List Str) (js : List Nat) : Prop where
  around : X.env.scope = sc
  names : N = own ++ fr
  kind : scope.kind = .function
  okind : sc.kind = .function
  nocell : ∀ y ∈ scope.names, y.2 ≠ NameKind.cell
  free : ∀ y ∈ scope.names, y.2 = NameKind.free → sc.names.lookup y.1 = some NameKind.cell
  loc : ∀ y ∈ scope.names, y.2 = NameKind.local → scope.names.lookup y.1 = some NameKind.local
  at' : js.map (fun j => X.N[j]?) = fr.map some
  cap : ∀ x ∈ fr, sc.names.lookup x = some NameKind.cell ∧ scope.names.lookup x = some NameKind.free
theorem relab_cell {env : Env} {x : Str} (hk : env.scope.kind = .function) (hx : env.kindOf x = some NameKind.cell) : ∀ {ns : List (Str × NameKind)}, ns.lookup x = some NameKind.free →
    (ns.map fun (p : Str × NameKind) => if (p.2 == NameKind.free && env.scope.kind == .function && env.kindOf p.1 == some .cell) then (p.1, NameKind.cell) else (p.1, p.2)).lookup x = some NameKind.cell
  | [], e => by simp at e
  | (n, j) :: r, e => by
    rw [List.map_cons]
    rw [List.lookup_cons] at e
    by_cases hn : x = n
    · subst hn
      simp only [beq_self_eq_true] at e
      cases e
      have hc : (NameKind.free == NameKind.free && env.scope.kind == .function && env.kindOf x == some .cell) = true := by rw [hk, hx]; rfl
      simp only [hc, if_true]
      rw [List.lookup_cons]
      simp
    · have hb : (x == n) = false := by simpa using hn
      rw [hb] at e
      have ih := relab_cell hk hx (ns := r) e
      by_cases hc : (j == NameKind.free && env.scope.kind == .function && env.kindOf n == some .cell) = true
      · simp only [hc, if_true]
        rw [List.lookup_cons, hb]
        exact ih
      · rw [if_neg hc, List.lookup_cons, hb]
        exact ih
theorem LcOk.cellAt {X : Cx} {N : List Str} {sc scope : Scope} {own fr : List Str} {js : List Nat} (L : LcOk X N sc scope own fr js) (ok : X.Ok) : ∀ y ∈ scope.names, y.2 = NameKind.free → (X.env.cells.lookup y.1).isSome = true := fun y hy hf => by
  obtain ⟨c, e⟩ := ok.has y.1 (.inl (show X.env.scope.names.lookup y.1 = _ by rw [L.around]; exact L.free y hy hf))
  rw [e]
  rfl
theorem LcOk.sub {X : Cx} {N : List Str} {sc scope : Scope} {own fr : List Str} {js : List Nat} (L : LcOk X N sc scope own fr js) (ok : X.Ok) {x : Str} {c : Addr} (e : (clos X.env.cells scope.names []).lookup x = some c) : X.env.cells.lookup x = some c :=
  clos_sub (L.cellAt ok) (fun z => by simp at z) e
theorem LcOk.len {X : Cx} {N : List Str} {sc scope : Scope} {own fr : List Str} {js : List Nat} (L : LcOk X N sc scope own fr js) : js.length = fr.length := by
  have := congrArg List.length L.at'
  simpa using this
theorem lc_ctx {X : Cx} {N : List Str} {sc scope : Scope} {own fr : List Str} {js : List Nat} {pins : List (Addr × Obj)} {σ : St} {H : Hp} {s : Shared} {fp : List Addr} (L : LcOk X N sc scope own fr js) (I : Inv X pins σ H s) (hf : ∀ b ∈ fp, FpOk X pins H b)
    (ho : ∀ b ∈ fp, b < s.heap.objs.size) {C : Addr} (hC : s.heap.objs.size ≤ C) : (lcCx X N scope C s H fp).Ok where
  mod := I.mod
  kind := L.kind
  glob := I.ok.glob
  blt := I.ok.blt
  above := hC
  inj := fun x y c e1 e2 => I.ok.inj x y c (L.sub I.ok e1) (L.sub I.ok e2)
  has := fun x hx => by
    have hm : (x, NameKind.free) ∈ scope.names := by
      rcases hx with q | q
      · exact relab_free L.nocell (.inl rfl) q
      · exact relab_free L.nocell (.inr rfl) q
    have := clos_has (cells := X.env.cells) (cs := []) hm
    cases e : (clos X.env.cells scope.names []).lookup x with
    | none => rw [e] at this; cases this
    | some c => exact ⟨c, e⟩
  cab := fun _ _ z _ => nomatch z
  hd := I.ok.hd
  frames := I.ok.frames
  stk := .inl rfl
  exf := fun b hb => ⟨Nat.ne_of_lt (Nat.lt_of_lt_of_le (ho b hb) hC), fun x c e => (hf b hb).2.2.2.2.1 x c (L.sub I.ok e)⟩
  bs := I.bs
  bsz := Nat.le_trans I.ok.bsz I.sz
  noex := fun b o e hb => by
    rcases (hf b hb).2.2.2.1 with q | q
    · exact I.ok.noex b o e q
    · exact absurd (Nat.lt_of_lt_of_le (Heap.lt_size (I.ok.bs b o e).1) q) (Nat.lt_irrefl _)
  exfs := fun b hb hs => by
    rcases List.mem_cons.mp (I.stkSub b hs) with q | q
    · exact (hf b hb).2.1 q
    · exact (hf b hb).2.2.1 q
  funs := I.stack
  frf := I.stkFree
theorem getD_none {o : Option (Option V)} {v : V} (h : o.getD none = some v) : o = some (some v) := by
  cases o with
  | none => cases h
  | some u => cases u with
    | none => cases h
    | some w => cases h; rfl
theorem caps_get {n : Nat} {js : List Nat} {σ : St} {i : Nat} {v : V} (e : (caps n js σ)[i]? = some (some v)) : ∃ k j, i = n + k ∧ js[k]? = some j ∧ σ[j]? = some (some v) := by
  unfold caps at e
  by_cases hi : i < n
  · rw [List.getElem?_append_left (by simpa using hi)] at e
    rw [List.getElem?_replicate] at e
    split at e <;> cases e
  · rw [List.getElem?_append_right (by simpa using hi)] at e
    simp only [List.length_replicate, List.getElem?_map] at e
    cases q : js[i - n]? with
    | none => rw [q] at e; cases e
    | some j =>
      rw [q] at e
      exact ⟨i - n, j, by lia, q, getD_none (Option.some.inj e)⟩
theorem lc_start {X : Cx} {N : List Str} {sc scope : Scope} {own fr : List Str} {js : List Nat} {pins : List (Addr × Obj)} {σ : St} {H : Hp} {s : Shared} {fp : List Addr} (L : LcOk X N sc scope own fr js) (I : Inv X pins σ H s) (hf : ∀ b ∈ fp, FpOk X pins H b)
    (ho : ∀ b ∈ fp, b < s.heap.objs.size) {h' : Heap} {m : Str → Option Value} {tk : Nat} (hn : h'.Ns (s.heap.objs.size + 1) m) (hk : ∀ b o, s.heap.get? b = some o → h'.get? b = some o)
    (hl : h'.get? s.heap.objs.size = some { cls := .type "list", data := .seq ([] : List Value).toArray }) :
    Inv (lcCx X N scope (s.heap.objs.size + 1) s H fp) [] (caps own.length js σ) (upd H s.heap.objs.size (.lst [])) { s with heap := h', toks := tk } := by
  have fresh : ∀ a, s.heap.objs.size ≤ a → H a = none := fun a ha => I.hok.fresh ha
  have cellAt : ∀ x c, (clos X.env.cells scope.names []).lookup x = some c → ∃ v, s.heap.IsCell c v := fun x c e => I.cell x c (L.sub I.ok e)
  refine ⟨lc_ctx L I hf ho (Nat.le_succ _), rfl, I.bare, Un.laid hk (Nat.le_refl _) (fresh _ (Nat.le_refl _)), ⟨m, hn, fun i x v e1 e2 e3 => ?_⟩, fun x c e => ?_, ?_, fun x c e => ?_, fun p hp => ?_, I.hok.laid hk (Nat.le_refl _) ?_, ?_⟩
  · obtain ⟨k, j, rfl, hj, hv⟩ := caps_get e2
    have hN : (own ++ fr)[own.length + k]? = some x := by
      have e1' : N[own.length + k]? = some x := e1
      rw [L.names] at e1'
      exact e1'
    rw [List.getElem?_append_right (by lia), Nat.add_sub_cancel_left] at hN
    have hx : x ∈ fr := List.mem_of_getElem? hN
    have hjx : X.N[j]? = some x := by
      have := congrArg (fun l => l[k]?) L.at'
      simp only [List.getElem?_map, hj, hN, Option.map_some] at this
      exact Option.some.inj this
    obtain ⟨kc', kr'⟩ := L.cap x hx
    have kc : X.env.kindOf x = some NameKind.cell := by show X.env.scope.names.lookup x = _; rw [L.around]; exact kc'
    have kr : (relabel scope X.env).names.lookup x = some NameKind.cell := relab_cell (by rw [L.around]; exact L.okind) kc kr'
    obtain ⟨m0, _, hl0⟩ := I.loc
    obtain ⟨u, r, l⟩ := hl0 j x v hjx hv (.inr (.inl kc))
    refine ⟨u, r, .inr ⟨.inl kr, ?_⟩⟩
    rcases l with ⟨kk, _⟩ | ⟨_, c, hc, z⟩
    · rw [kc] at kk; cases kk
    · have hs : ((clos X.env.cells scope.names []).lookup x).isSome = true := clos_has (relab_free L.nocell (.inl rfl) kr)
      cases e : (clos X.env.cells scope.names []).lookup x with
      | none => rw [e] at hs; cases hs
      | some d =>
        have ed := L.sub I.ok e
        rw [hc] at ed
        cases ed
        obtain ⟨o, ho', hd⟩ := z
        exact ⟨c, e, o, hk c o ho', hd⟩
  · obtain ⟨v, o, ho', hd⟩ := cellAt x c e
    exact ⟨v, o, hk c o ho', hd⟩
  · show upd H s.heap.objs.size _ (s.heap.objs.size + 1) = none
    rw [upd_ne (Nat.succ_ne_self _)]
    exact fresh _ (Nat.le_succ _)
  · obtain ⟨v, o, ho', hd⟩ := cellAt x c e
    rw [upd_ne (Nat.ne_of_lt (Heap.lt_size ho'))]
    exact I.freeC x c (L.sub I.ok e)
  · exact nomatch hp
  · exact ⟨Nat.zero_le _, [], 0, .nil, hl⟩
  · show (caps own.length js σ).length = N.length
    rw [L.names]
    simp [caps, L.len]
noncomputable def PIf (X : Cx) (ifs : List Expr) (t : TT) : Prop :=
  ∀ (pins : List (Addr × Obj)) (s : Shared) (σ : St) (H : Hp) (Q : Bool → Hp → Prop), Inv X pins σ H s → t σ H Q →
    wpAny (model X.prog X.w) X.A (forIn ifs true fun c r => if r = true then do let ok ← isTrue c X.env (eval c X.env); pure (ForInStep.yield ok) else pure (ForInStep.yield r)) (TP X pins σ Q) X.xe s
noncomputable def tYes : TT := fun _ H Q => Q true H
theorem pif_nil {X : Cx} : PIf X [] tYes := fun _ _ _ H _ I h => wpAny_tests_nil ⟨H, I, h⟩
theorem pif_one {X : Cx} {c : Expr} {t : TT} (h : PT X c t) : PIf X [c] t := fun pins s σ H Q I q => wpAny_tests_one (h pins s σ H Q I q)
theorem lc_loop {prog : Program} {w : World} {A : Around} {R : Result → Shared → Prop} {s : Shared} {elt tg iter : Expr} {ifs : List Expr} {scope : Scope} {pos : Pos} {it acc : Value} {env : Env} (J : Nat → Shared → Prop)
    (turn : ∀ n s, J n s → wpAny (model prog w) A (pyNext it) (fun r s1 => match r with
      | none => R (.ok .next) s1
      | some v => wpAny (model prog w) A (letOwnedTupleGo tg it v) (fun _ s2 => wpAny (model prog w) A (assign tg env v) (fun _ s3 =>
          wpAny (model prog w) A (forIn ifs true fun c r => if r = true then do let ok ← isTrue c env (eval c env); pure (ForInStep.yield ok) else pure (ForInStep.yield r)) (fun ok s4 =>
            if ok = true then wpAny (model prog w) A (eval elt env) (fun x s5 => wpAny (model prog w) A (call (.builtin "list.append") [acc, x]) (fun _ s6 => ∃ m, m < n ∧ J m s6) (fun _ _ => False) s5) (fun _ _ => False) s4
            else ∃ m, m < n ∧ J m s4) (fun _ _ => False) s3) (fun _ _ => False) s2) (fun _ _ => False) s1) (fun _ _ => False) s)
    (n : Nat) (h : J n s) : codeAny (model prog w) A (.compLoop (.ListComp elt [⟨tg, iter, ifs, 0⟩] scope pos) 0 it acc env) R s := by
  refine codeAny_loop rfl J (fun n s hJ => ?_) n h
  show wpAny _ A ((compTurn (.ListComp elt [⟨tg, iter, ifs, 0⟩] scope pos) 0 it acc env).onRaise (fun x => do noteFrame x env; theTreesLotGoes x)) _ _ s
  refine wpAny_noted ?_
  rw [compTurn_list]
  refine wpAny_bind (wpAny_standAt (wpAny_bind (wpAny_mono (turn n s hJ) (fun r s1 h1 => ?_) fun _ _ f => f.elim)))
  cases r with
  | none => exact wpAny_pure h1
  | some v =>
    refine wpAny_bind (wpAny_mono h1 (fun _ s2 h2 => wpAny_bind (wpAny_mono h2 (fun _ s3 h3 => wpAny_bind (wpAny_mono h3 (fun ok s4 h4 => ?_) fun _ _ f => f.elim)) fun _ _ f => f.elim)) fun _ _ f => f.elim)
    cases ok with
    | false => exact wpAny_pure ⟨rfl, h4⟩
    | true =>
      exact wpAny_bind (wpAny_bind (wpAny_mono h4 (fun x s5 h5 => wpAny_bind (wpAny_mono h5 (fun _ s6 h6 => wpAny_pure (wpAny_pure ⟨rfl, h6⟩)) fun _ _ f => f.elim)) fun _ _ f => f.elim))
noncomputable def tLcB (J : It) (D : Addr) (σ0 : St) (g : TG) (tc : TT) (te : TE) (fin : Hp → Prop) (W : Nat → Nat → List V → Hp → Prop) : Prop :=
  ∀ i m ys H, W i m ys H → (J.stop i H ∧ fin H) ∨ (J.go i H ∧ ∃ N : List V → Hp → Prop, (∀ ys' H', N ys' H' → ∃ m', m' < m ∧ W (i + 1) m' ys' H') ∧
    ∀ x H1, J.yld i H x H1 → g x σ0 H1 fun σ2 H2 => (σ2.length = σ0.length ∧ ∀ (i : Nat) v, σ0[i]? = some (some v) → σ2[i]? = some (some v)) ∧
      tc σ2 H2 fun b H3 => if b = true then te σ2 H3 fun y H4 => ∃ zs, H4 D = some (.lst zs) ∧ zs.length < sizeLine ∧ N (zs ++ [y]) (upd H4 D (.lst (zs ++ [y]))) else N ys H3)
theorem lc_block {X : Cx} {N : List Str} {sc scope : Scope} {own fr : List Str} {js : List Nat} {pins : List (Addr × Obj)} {σ : St} {H : Hp} {s : Shared} {fp : List Addr} {tg iter elt : Expr} {ifs : List Expr} {pos : Pos} {J : It} {it : Addr} {tn : Nat → Heap → Prop}
    {g : TG} {tc : TT} {te : TE} {RR : Value → Addr → Result → Shared → Prop} {E : Value → Shared → Prop} {fin : Addr → Hp → Prop}
    (L : LcOk X N sc scope own fr js) (hc : X.calm = true) (I : Inv X pins σ H s) (T : Turn X.prog X.w X.K tg J fp it tn) (st : tn 0 s.heap) (hf : ∀ b ∈ fp, FpOk X pins H b)
    (hg : ∀ C s H fp, PG (lcCx X N scope C s H fp) tg g) (hi : ∀ C s H fp, PIf (lcCx X N scope C s H fp) ifs tc) (he : ∀ C s H fp, PE (lcCx X N scope C s H fp) elt te)
    (h : ∀ D, H D = none → ∃ W : Nat → Nat → List V → Hp → Prop, (∃ m, W 0 m [] (upd H D (.lst []))) ∧ tLcB J D (caps own.length js σ) g tc te (fin D) W)
    (hRR : ∀ D C s' H', (∃ m, s'.heap.Ns C m) → Inv X pins σ H' s' → FpOk X pins H' C → fin D H' → RR (.ref D) C (.ok .next) s') :
    wpAny (model X.prog X.w) X.A (newList []) (fun acc s3 => wpAny (model X.prog X.w) X.A (newFunctionEnv scope X.env.globals (clos X.env.cells scope.names []) [] X.env.qual none .none (some X.env)) (fun cenv s4 =>
      codeAny (model X.prog X.w) X.A (.compStart (.ListComp elt [⟨tg, iter, ifs, 0⟩] scope pos) 0 (.ref it) acc { cenv with scope := relabel scope X.env }) (RR acc cenv.locals) s4) E s3) E s := by
  have hlt : ∀ b ∈ fp, b < s.heap.objs.size := fun b hb => by
    obtain ⟨o, e, _⟩ := T.obj 0 _ st b hb
    exact Heap.lt_size e
  refine wpAny_newObj_type (wpAny_newFunctionEnv L.nocell (fun _ z => nomatch z) (fun h1 n1 b1 => ?_) L.kind)
  dsimp only at n1 b1 ⊢
  have hsz : (s.heap.push { cls := .type "list", dict := none, data := .seq ([] : List Value).toArray }).objs.size = s.heap.objs.size + 1 := Heap.size_push ..
  rw [hsz] at n1 b1
  rw [hsz]
  have kept : ∀ b o, s.heap.get? b = some o → h1.get? b = some o := fun b o e => b1.extBut b o (Nat.ne_of_lt (Nat.lt_succ_of_lt (Heap.lt_size e))) (Heap.get?_push_of_some _ (Heap.get?_push_of_some _ e))
  have isl : h1.get? s.heap.objs.size = some { cls := .type "list", data := .seq ([] : List Value).toArray } := b1.extBut _ _ (Nat.ne_of_lt (Nat.lt_succ_self _)) (Heap.get?_push_of_some _ (Heap.get?_push_size _ rfl))
  have IY := lc_start (tk := s.toks + ([] : List (Str × Value)).length) L I hf hlt n1 kept isl
  have fresh : H s.heap.objs.size = none := I.hok.fresh (Nat.le_refl _)
  obtain ⟨W, ⟨m0, w0⟩, turn⟩ := h s.heap.objs.size fresh
  -- the iterator's records through the loop
  have stat : ∀ {H' : Hp}, (∀ b ∈ fp, H' b = none) → ∀ b ∈ fp, FpOk (lcCx X N scope (s.heap.objs.size + 1) s H fp) [] H' b := fun hn b hb =>
    ⟨hn b hb, Nat.ne_of_lt (Nat.lt_succ_of_lt (hlt b hb)), fun z => by
      rcases List.mem_cons.mp (I.stkSub b z) with q | q
      · exact (hf b hb).2.1 q
      · exact (hf b hb).2.2.1 q, .inl hb, fun x c e => (hf b hb).2.2.2.2.1 x c (L.sub I.ok e), fun _ z => nomatch z⟩
  have st1 : tn 0 h1 := T.keep 0 _ _ st fun b _ o e => kept b o e
  have loop : ∀ s2 : Shared, s2 = { s with heap := h1, toks := s.toks + ([] : List (Str × Value)).length } →
      codeAny (model X.prog X.w) X.A (.compLoop (.ListComp elt [⟨tg, iter, ifs, 0⟩] scope pos) 0 (.ref it) (.ref s.heap.objs.size) (lcCx X N scope (s.heap.objs.size + 1) s H fp).env) (RR (.ref s.heap.objs.size) (s.heap.objs.size + 1)) s2 := by
    rintro s2 rfl
    refine lc_loop (fun n s' => ∃ i ys H', Inv (lcCx X N scope (s.heap.objs.size + 1) s H fp) [] (caps own.length js σ) H' s' ∧ tn i s'.heap ∧ (∀ b ∈ fp, H' b = none) ∧ W i n ys H') ?_ m0
      ⟨0, [], _, IY, st1, fun b hb => by rw [upd_ne (Nat.ne_of_lt (hlt b hb))]; exact (hf b hb).1, w0⟩
    rintro n s3 ⟨i, ys, H3, I3, st3, fr3, w3⟩
    rcases turn i n ys H3 w3 with ⟨stop, qn⟩ | ⟨go, Nx, hN, step⟩
    · refine thn (T.done (lcCx X N scope (s.heap.objs.size + 1) s H fp) rfl rfl rfl hc i [] s3 _ H3 _ I3 (stat fr3) st3 stop) fun r s4 hp0 => ?_
      obtain ⟨hr, I4⟩ := hp0
      subst hr
      have IX : Inv X pins σ H3 s4 := I.call' (ch := fp) I4.os I4.base I4.hok I4.bare fun b hb => ⟨(hf b hb).2.2.2.1, (hf b hb).2.1, (hf b hb).2.2.2.2.1, (hf b hb).2.2.2.2.2⟩
      obtain ⟨m, hm, _⟩ := I4.loc
      exact hRR _ _ s4 H3 ⟨m, hm⟩ IX (I.fpOk (Nat.le_succ _) I4.free) qn
    · refine thn (T.item (lcCx X N scope (s.heap.objs.size + 1) s H fp) rfl rfl rfl hc i [] s3 _ H3 _ I3 (stat fr3) st3 go) fun r s4 hp0 => ?_
      obtain ⟨u, hr, h4⟩ := hp0
      subst hr
      refine thn h4 fun _ s5 hp0 => ?_
      obtain ⟨x, H5, I5, r5, y5, st5, fr5⟩ := hp0
      have I5' := I5.pinned (stat fr5) (T.obj _ _ st5)
      refine thn (hg _ _ _ _ _ s5 _ H5 x u _ I5' r5 (step x H5 y5)) fun _ s6 hp0 => ?_
      obtain ⟨σ6, H6, I6, ⟨hl6, hs6⟩, q6⟩ := hp0
      have next : ∀ {s7 : Shared} {H7 : Hp} {zs : List V}, Inv (lcCx X N scope (s.heap.objs.size + 1) s H fp) ([] ++ pinsAt fp s5.heap) σ6 H7 s7 → Nx zs H7 →
          ∃ m, m < n ∧ ∃ i ys H', Inv (lcCx X N scope (s.heap.objs.size + 1) s H fp) [] (caps own.length js σ) H' s7 ∧ tn i s7.heap ∧ (∀ b ∈ fp, H' b = none) ∧ W i m ys H' := fun {s7 H7 zs} I7 n7 => by
        obtain ⟨m', hm, w7⟩ := hN zs H7 n7
        refine ⟨m', hm, i + 1, zs, H7, I7.unpinned.weak hl6.symm hs6, T.keep _ _ _ st5 fun b hb o e => (I7.pin (b, o) (List.mem_append_right _ (List.mem_append_right _ (mem_pinsAt hb e)))).1, fun b hb => ?_, w7⟩
        obtain ⟨o, e, d⟩ := T.obj _ _ st5 b hb
        exact (I7.pin (b, o) (List.mem_append_right _ (List.mem_append_right _ (mem_pinsAt hb e)))).2.1
      refine thn (hi _ _ _ _ _ s6 σ6 H6 _ I6 q6) fun ok s7 hp0 => ?_
      obtain ⟨H7, I7, q7⟩ := hp0
      cases ok with
      | false =>
        rw [if_neg Bool.false_ne_true] at q7
        exact next I7 q7
      | true =>
        rw [if_pos rfl] at q7
        rw [if_pos rfl]
        refine thn (he _ _ _ _ _ s7 σ6 H7 _ I7 q7) fun y s8 hp0 => ?_
        obtain ⟨v8, H8, I8, r8, zs, hz, hzl, q8⟩ := hp0
        refine thn (mt_append _ s8 σ6 H8 (.ref s.heap.objs.size) [v8] _ [y] (fun _ H9 => Nx (zs ++ [v8]) H9) I8 rfl (.cons r8 .nil) ⟨_, zs, v8, rfl, rfl, hz, hzl, q8⟩) fun _ s9 hp0 => ?_
        obtain ⟨_, H9, I9, _, q9⟩ := hp0
        exact next I9 q9
  exact codeAny_compStart_list (loop _ rfl) (T.self X.A 0 _ _ _ st1 (loop _ rfl))
noncomputable def tLc (wi : TI) (n : Nat) (js : List Nat) (g : TG) (tc : TT) (te : TE) : TE := fun σ H Q => wi σ H fun J H1 => ∀ D, H1 D = none →
  ∃ W : Nat → Nat → List V → Hp → Prop, (∃ m, W 0 m [] (upd H1 D (.lst []))) ∧ tLcB J D (caps n js σ) g tc te (fun H2 => Q (.ref D) H2) W
theorem pe_lc {X : Cx} {N : List Str} {sc scope : Scope} {own fr : List Str} {js : List Nat} {tg iter elt : Expr} {ifs : List Expr} {pos : Pos} {wi : TI} {g : TG} {tc : TT} {te : TE}
    (L : LcOk X N sc scope own fr js) (hc : X.calm = true) (hI : PI X tg iter wi)
    (hg : ∀ C s H fp, PG (lcCx X N scope C s H fp) tg g) (hi : ∀ C s H fp, PIf (lcCx X N scope C s H fp) ifs tc) (he : ∀ C s H fp, PE (lcCx X N scope C s H fp) elt te)
    (hs : ∀ x, foldedSetIterable iter X.env x = pure x := by intro _; rfl) : PE X (.ListComp elt [⟨tg, iter, ifs, 0⟩] scope pos) (tLc wi own.length js g tc te) := by
  intro pins s σ H Q I h
  rw [eval_ListComp]
  refine wpAny_comprehension_free (use := none) rfl hs (closureFor_is (L.cellAt I.ok)) L.kind L.loc ?_
  refine thn (hI pins s σ H _ I h) fun v s1 h1 => thn h1 fun itv s2 h2 => ?_
  obtain ⟨it, fp, tn, J, H2, e, I2, T, st, f2, q⟩ := h2
  subst e
  refine lc_block (RR := fun acc C => compPost (model X.prog X.w) X.A X.xe none (EP X pins σ Q) acc C) (fin := fun D H' => Q (.ref D) H') L hc I2 T st f2 hg hi he q ?_
  intro D C s' H' hm IX fC q'
  obtain ⟨m, hm⟩ := hm
  obtain ⟨f0, f1, _, f3, f4, f5⟩ := fC
  exact ⟨m, hm, fun h' sb => ⟨.ref D, H', IX.turned (t' := s'.toks) (fun b o hb e => (sb.2 b hb).trans e) f0 f1 f3 f4 f5, rfl, q'⟩⟩
noncomputable def tLcS (i : Nat) (wi : TI) (n : Nat) (js : List Nat) (g : TG) (tc : TT) (te : TE) : TS := fun E σ H => wi σ H fun J H1 => ∀ D, H1 D = none →
  ∃ W : Nat → Nat → List V → Hp → Prop, (∃ m, W 0 m [] (upd H1 D (.lst []))) ∧ tLcB J D (caps n js σ) g tc te (fun H2 => E.nx (σ.set i (some (.ref D))) H2) W
theorem ps_lc {X : Cx} {N : List Str} {sc scope : Scope} {own fr : List Str} {js : List Nat} {tg iter elt : Expr} {ifs : List Expr} {pos spos py : Pos} {wi : TI} {g : TG} {tc : TT} {te : TE} {i : Nat} {y : Str}
    (hN : X.N.Nodup) (hy : X.N[i]? = some y) (hl : X.env.scope.names.lookup y = some .local)
    (L : LcOk X N sc scope own fr js) (hc : X.calm = true) (hI : PI X tg iter wi)
    (hg : ∀ C s H fp, PG (lcCx X N scope C s H fp) tg g) (hi : ∀ C s H fp, PIf (lcCx X N scope C s H fp) ifs tc) (he : ∀ C s H fp, PE (lcCx X N scope C s H fp) elt te)
    (hw : swapsWith (.ListComp elt [⟨tg, iter, ifs, 0⟩] scope pos) (some (.Name y py)) spos.line X.env = pure true := by rfl)
    (hs : ∀ x, foldedSetIterable iter X.env x = pure x := by intro _; rfl) : PS X (.Assign [.Name y py] (.ListComp elt [⟨tg, iter, ifs, 0⟩] scope pos) spos) (tLcS i wi own.length js g tc te) := by
  intro pins s σ H E I h
  rw [exec_Assign_Name_used _ _ _ _ hw]
  (refine wpAny_bind (wpAny_standAt (wpAny_bind ?_)))
  show wpAny _ X.A (do let _ ← comprehension (.ListComp elt [⟨tg, iter, ifs, 0⟩] scope pos) scope X.env _ (newList []) false (eval iter X.env) (some (assign (.Name y py) X.env))) _ _ s
  refine wpAny_bind (wpAny_mono (wpAny_comprehension_free (use := some (assign (.Name y py) X.env)) (Q := fun _ s' => SP X pins E .next s') rfl hs (closureFor_is (L.cellAt I.ok)) L.kind L.loc ?_) (fun _ s' q => wpAny_pure (wpAny_pure q)) fun _ _ e => e)
  refine thn (hI pins s σ H _ I h) fun v s1 h1 => thn h1 fun itv s2 h2 => ?_
  obtain ⟨it, fp, tn, J, H2, e, I2, T, st, f2, q⟩ := h2
  subst e
  refine lc_block (RR := fun acc C => compPost (model X.prog X.w) X.A X.xe (some (assign (.Name y py) X.env)) (fun _ s' => SP X pins E .next s') acc C) (fin := fun D H' => E.nx (σ.set i (some (.ref D))) H') L hc I2 T st f2 hg hi he q ?_
  intro D C s' H' hm IX fC q'
  obtain ⟨m, hm⟩ := hm
  obtain ⟨f0, f1, _, f3, f4, f5⟩ := fC
  show wpAny _ X.A (assign (.Name y py) X.env (.ref D)) _ _ s'
  refine wpAny_assign_Name (store_ok2 IX hN hy (.inl hl) (v := .ref D) rfl (fun s3 I3 ha => ?_) (.inr hl))
  obtain ⟨a, sb, ha⟩ := ha
  have hCa : C ≠ a := by
    rcases ha with z | z
    · rw [z]; exact f1
    · exact fun q => f4 y a z q.symm
  refine ⟨m, hm.sameBut sb hCa, fun h' sb' => ⟨_, H', I3.turned (t' := s3.toks) (fun b o hb e => (sb'.2 b hb).trans e) f0 f1 f3 f4 f5, q'⟩⟩
end L2
namespace L2
open PySem PySem.Spec PyProof.Rows
section
variable {X : Cx}
noncomputable def rInsert : V → List V → Hp → VK → Prop := fun x vs H Q => ∃ l xs i y, x = .ref l ∧ vs = [.int i, y] ∧ 0 ≤ i ∧ i ≤ (xs.length : Int) ∧ H l = some (.lst xs) ∧ xs.length < sizeLine ∧ Q .non (upd H l (.lst (xs.take i.toNat ++ y :: xs.drop i.toNat)))
theorem insert_fn (its : List Value) (i : Int) (u : Value) (h0 : 0 ≤ i) (h1 : i ≤ (its.length : Int)) :
    (fun xs : Array Value => have k := if i < 0 then (i + ((xs.size : Nat) : Int)).toNat else min i.toNat xs.size; (xs.extract 0 k).push u ++ xs.extract k) its.toArray = (its.take i.toNat ++ u :: its.drop i.toNat).toArray := by
  have e : (if i < 0 then (i + ((its.toArray.size : Nat) : Int)).toNat else min i.toNat its.toArray.size) = i.toNat := by
    rw [if_neg (by lia), List.size_toArray]
    lia
  show (its.toArray.extract 0 (if i < 0 then (i + ((its.toArray.size : Nat) : Int)).toNat else min i.toNat its.toArray.size)).push u ++ its.toArray.extract (if i < 0 then (i + ((its.toArray.size : Nat) : Int)).toNat else min i.toNat its.toArray.size) = _
  rw [e]
  apply Array.toList_inj.mp
  simp
  (exact List.take_of_length_le (by simp))
theorem mt_insert : MtM X "list.insert" rInsert := by
  intro pins s σ H x vs v us Q I rx rv h
  obtain ⟨l, xs, i, y, rfl, rfl, h0, h1, hH, hz, q⟩ := h
  cases rx
  obtain ⟨u1, u, rfl, ⟨t, rfl⟩, ru⟩ := vals2 rv
  obtain ⟨z, its, n, r, hl, e⟩ := I.lstM hH
  have h63 := line63
  refine call_meets F.slot_list_insert ⟨_, e, rfl⟩ F.entry_list_insert (F.args_list_insert_3 _ _ _) (PySem.AutoListH.list_insert_list_int_val_1 l its.toArray n i t u (by rw [fitsIndex_both (by lia) (by lia)]; decide) (by rw [List.size_toArray]; lia)) ⟨e, ?_⟩
  refine ⟨.non, _, I.lset (its' := its.take i.toNat ++ u :: its.drop i.toNat) hH e (insert_fn its i u h0 (by lia)) ((r.take i.toNat).append (.cons ru (r.drop i.toNat))) ?_, rfl, q⟩
  (rw [List.length_append, List.length_cons, List.length_take, List.length_drop])
  lia
theorem op_mulS : OpR X (binaryOp .Mult) (fun x y H Q => ∃ z i, x = .str z ∧ y = .int i ∧ 1 ≤ i ∧ i ≤ 1000 ∧ z.length ≤ 1000 ∧ Q (.str (Txt.mul z i)) H) := by
  intro pins s σ H x y v u Q I rx ry h
  obtain ⟨z, i, rfl, rfl, h1, h2, h3, q⟩ := h
  obtain ⟨t, rfl⟩ := rx
  obtain ⟨t', rfl⟩ := ry
  have hs : sizeLine = 16777216 := sizeLine_eq
  have hp : z.length * i.toNat ≤ 1000 * 1000 := Nat.mul_le_mul h3 (by lia)
  refine SB.mul ⟨?_, fun _ _ => ?_, fun _ _ => ?_⟩ fun t' k => ⟨.str (Txt.mul z i), H, I.tok _, ⟨_, rfl⟩, q⟩
  · have e1 : decide (i < -(2 ^ 63 : Int)) = false := decide_eq_false (by lia)
    have e2 : decide (i ≥ 2 ^ 63) = false := decide_eq_false (by lia)
    rw [e1, e2, Bool.or_false]
  · have e3 : (z.length : Int) * i = ((z.length * i.toNat : Nat) : Int) := by rw [Int.natCast_mul, Int.toNat_of_nonneg (by lia)]
    have e4 : (z.length : Int) ≤ (2 ^ 63 - 1) / i := Int.le_ediv_of_mul_le (by lia) (by rw [e3]; lia)
    lia
  · show decide (z.length * i.toNat > sizeLine) = false
    exact decide_eq_false (by lia)
theorem mt_starts : MtR X "str.startswith" (fun x xs H Q => ∃ a b, x = .str a ∧ xs = [.str b] ∧ Q (.bl (Txt.startswith a b)) H) := by
  intro pins s σ H x xs v us Q I rx rv h
  obtain ⟨a, b, rfl, rfl, q⟩ := h
  obtain ⟨t, rfl⟩ := rx
  obtain ⟨u, rfl, t', rfl⟩ := vals1 rv
  exact SC.startswith ⟨.bl _, H, I, rfl, q⟩
theorem vals_strsFrom : ∀ (tk : Nat) (xs : List Str), Vals (xs.map V.str) (strsFrom tk xs)
  | _, [] => .nil
  | tk, _ :: r => .cons ⟨tk, rfl⟩ (vals_strsFrom (tk + 1) r)
theorem mt_split : MtR X "str.split" (fun x xs H Q => ∃ a b, x = .str a ∧ xs = [.str b] ∧ (b.length == 0) = false ∧ a.length + 2 ≤ sizeLine ∧ ∀ p, H p = none → Q (.ref p) (upd H p (.lst ((Txt.split a b).map V.str)))) := by
  intro pins s σ H x xs v us Q I rx rv h
  obtain ⟨a, b, rfl, rfl, hb, hz, q⟩ := h
  obtain ⟨t, rfl⟩ := rx
  obtain ⟨u, rfl, t', rfl⟩ := vals1 rv
  have one : ∀ {ys : List Str}, ys = [a] → Txt.split a b = ys → EP X pins σ Q (.ref s.heap.objs.size) { s with heap := s.heap.push { cls := .type "list", data := .seq [Value.str a t].toArray } } := fun {ys} e1 e2 => by
    have q' := q _ (I.hok.fresh (Nat.le_refl _))
    rw [e2, e1] at q'
    exact ⟨.ref _, _, I.lnew (ys := [V.str a]) (t' := s.toks) (.cons ⟨t, rfl⟩ .nil) (by show 1 ≤ sizeLine; decide), rfl, q'⟩
  have hn := split_le a b
  cases h1 : (decide (a.length < b.length) || decide (Builtin.Str.strKind a < Builtin.Str.strKind b)) with
  | true =>
    refine call_meets F.slot_str_split (typeIs_str _ _ _) F.entry_str_split (F.args_str_split_2 _ _) (meets_str_split_cannot_occur a b t t' h1) ?_
    exact one rfl (if_pos h1)
  | false =>
    cases hf : (Builtin.Str.occurrences a b 0 a.length (a.length + 1)).isEmpty with
    | true =>
      refine call_meets F.slot_str_split (typeIs_str _ _ _) F.entry_str_split (F.args_str_split_2 _ _) (meets_str_split_not_found a b t t' h1 hb hf) ?_
      exact one rfl ((if_neg (by rw [h1]; decide)).trans (if_pos hf))
    | false =>
      have e : Txt.split a b = Builtin.Str.partsBetween a (Builtin.Str.occurrences a b 0 a.length (a.length + 1)) b.length := (if_neg (by rw [h1]; decide)).trans (if_neg (by rw [hf]; decide))
      refine call_meets F.slot_str_split (typeIs_str _ _ _) F.entry_str_split (F.args_str_split_2 _ _) (meets_str_split_sep a b t t' h1 hb hf (by lia) (by rw [← e]; lia)) ?_
      have q' := q _ (I.hok.fresh (Nat.le_refl _))
      refine ⟨.ref _, _, I.lnew (vals_strsFrom s.toks _) ?_, rfl, ?_⟩
      · rw [List.length_map, ← e]
        lia
      · rw [← e]
        exact q'
noncomputable def rCatA (K : PySem.W.Frag) : R2 := fun x y H Q => ∃ a b xs ys, x = .ref a ∧ y = .ref b ∧ SqT K H a xs ∧ SqT K H b ys ∧ xs.length + ys.length ≤ sizeLine ∧
  (xs = [] → Q (.ref b) H) ∧ (xs ≠ [] → ys = [] → Q (.ref a) H) ∧ (xs ≠ [] → ys ≠ [] → ∀ p, H p = none → Q (.ref p) (upd H p (.tup (xs ++ ys))))
theorem op_catA : OpR X (binaryOp .Add) (rCatA X.K) := by
  intro pins s σ H x y v u Q I rx ry h
  obtain ⟨a, b, xs, ys, rfl, rfl, ha, hb, hz, q0, q1, q2⟩ := h
  by_cases hx : xs = []
  · subst hx
    cases rx
    cases ry
    obtain ⟨its, r1, p1, _⟩ := I.tuple ha
    obtain ⟨its2, r2, p2, _⟩ := I.tuple hb
    cases r1
    obtain ⟨⟨cls, dd, data, sl⟩, ho, hc, n, hd⟩ := id p1
    obtain ⟨⟨cls2, dd2, data2, sl2⟩, ho2, hc2, n2, hd2⟩ := id p2
    simp only at hc hd hc2 hd2
    subst hc hd hc2 hd2
    exact concat_meets ⟨_, ho, rfl⟩ ⟨_, ho2, rfl⟩ noFill_tuple_add seq_tuple_add PySem.F.slot_tuple_add PySem.F.entry_tuple_add (PySem.F.args_tuple_add_2 _ _)
      (tuple_addW0 a b _ _ n n2 dd dd2 sl sl2 rfl) ⟨ho, ho2, ⟨.ref b, H, I, rfl, q0 rfl⟩⟩
  · exact op_catT pins s σ H _ _ v u Q I rx ry ⟨a, b, xs, ys, rfl, rfl, ha, hb, hx, hz, q1 hx, q2 hx⟩
end
mutual
inductive RdV (H : Hp) : V → PyData → Prop
  | non : RdV H .non .none
  | int (i : Int) : RdV H (.int i) (.int i)
  | str (x : Str) : RdV H (.str x) (.str x)
  | tup {a : Addr} {xs : List V} {ds : List PyData} : H a = some (.tup xs) → RdVs H xs ds → RdV H (.ref a) (.tuple ds)
inductive RdVs (H : Hp) : List V → List PyData → Prop
  | nil : RdVs H [] []
  | cons {x : V} {d : PyData} {xs : List V} {ds : List PyData} : RdV H x d → RdVs H xs ds → RdVs H (x :: xs) (d :: ds)
end
mutual
theorem RdV.reads {P : Program} {w : World} {H : Hp} {h : Heap} (ok : HOk P w H h) : ∀ {x : V} {d : PyData} {u : Value}, RdV H x d → RelV x u → ∃ as, Reads h u d as
  | _, _, _, .non, r => by cases r; exact ⟨_, .none⟩
  | _, _, _, .int i, r => by obtain ⟨t, rfl⟩ := r; exact ⟨_, .int i t⟩
  | _, _, _, .str x, r => by obtain ⟨t, rfl⟩ := r; exact ⟨_, .str x t⟩
  | _, _, _, .tup (a := a) e rs, r => by
    cases r
    obtain ⟨z, its, rv, o, ho, hc, n, hd⟩ := ok a _ e
    obtain ⟨as, ra⟩ := RdVs.reads ok rs rv
    exact ⟨as, .tuple ho hc hd (by simpa using ra)⟩
theorem RdVs.reads {P : Program} {w : World} {H : Hp} {h : Heap} (ok : HOk P w H h) : ∀ {xs : List V} {ds : List PyData} {us : List Value}, RdVs H xs ds → Vals xs us → ∃ as, ReadsAll h us ds as
  | _, _, _, .nil, r => by cases r; exact ⟨_, .nil⟩
  | _, _, _, .cons a b, r => by
    cases r with
    | cons r1 r2 =>
      obtain ⟨as, h1⟩ := RdV.reads ok a r1
      obtain ⟨bs, h2⟩ := RdVs.reads ok b r2
      exact ⟨_, .cons h1 h2⟩
end
mutual
theorem RdV.same {H H' : Hp} (k : ∀ b xs, H b = some (.tup xs) → H' b = some (.tup xs)) : ∀ {x : V} {d : PyData}, RdV H x d → RdV H' x d
  | _, _, .non => .non
  | _, _, .int i => .int i
  | _, _, .str x => .str x
  | _, _, .tup e rs => .tup (k _ _ e) (RdVs.same k rs)
theorem RdVs.same {H H' : Hp} (k : ∀ b xs, H b = some (.tup xs) → H' b = some (.tup xs)) : ∀ {xs : List V} {ds : List PyData}, RdVs H xs ds → RdVs H' xs ds
  | _, _, .nil => .nil
  | _, _, .cons a b => .cons (RdV.same k a) (RdVs.same k b)
end
theorem RdVs.get {H : Hp} : ∀ {xs : List V} {ds : List PyData} {i : Nat} {x : V}, RdVs H xs ds → xs[i]? = some x → ∃ d, ds[i]? = some d ∧ RdV H x d
  | _, _, _, _, .nil, e => by simp at e
  | _, _, 0, _, .cons a _, e => by simp at e; subst e; exact ⟨_, rfl, a⟩
  | _, _, i + 1, _, .cons _ b, e => by
    obtain ⟨d, h1, h2⟩ := RdVs.get (i := i) b (by simpa using e)
    exact ⟨d, by simpa using h1, h2⟩
theorem RdVs.length {H : Hp} : ∀ {xs : List V} {ds : List PyData}, RdVs H xs ds → xs.length = ds.length
  | _, _, .nil => rfl
  | _, _, .cons _ b => by simp [RdVs.length b]
theorem RdVs.append {H : Hp} : ∀ {xs ys : List V} {ds es : List PyData}, RdVs H xs ds → RdVs H ys es → RdVs H (xs ++ ys) (ds ++ es)
  | _, _, _, _, .nil, r => r
  | _, _, _, _, .cons a b, r => .cons a (RdVs.append b r)
theorem RdVs.strs {H : Hp} : ∀ (xs : List Str), RdVs H (xs.map V.str) (xs.map PyData.str)
  | [] => .nil
  | x :: r => .cons (.str x) (RdVs.strs r)
section
variable {X : Cx}
noncomputable def rEqD (neg : Bool) : R2 := fun x y H Q => ∃ d e, RdV H x d ∧ RdV H y e ∧ PySem.SeqAt.shaped d = true ∧ PySem.SeqAt.shaped e = true ∧ Q (.bl (neg ^^ PyData.eqv d e)) H
theorem op_neD (hu : X.A.units + 64 < cLine) : OpR X (compareOp .NotEq) (rEqD true) := by
  intro pins s σ H x y v u Q I rx ry h
  obtain ⟨d, e, r1, r2, h1, h2, q⟩ := h
  obtain ⟨as, a⟩ := r1.reads I.hok rx
  obtain ⟨bs, b⟩ := r2.reads I.hok ry
  rw [Bool.true_xor] at q
  exact PySem.SeqAt.compareNe_shaped a b h1 h2 hu ⟨.bl _, H, I, rfl, q⟩
end
end L2
namespace ZT
open PySem PyProof.Rows
end ZT
namespace L2
open PySem PySem.Spec PyProof.Rows
end L2
namespace L2
open PySem PySem.Spec PyProof.Rows
theorem Same.new {H : Hp} {l : Addr} {o : HO} (h : H l = none) : Same H (upd H l o) := fun b u e => by
  rw [upd_ne (ne_of_none e h)]
  exact e
theorem Same.put {H H' : Hp} {l : Addr} {o : HO} (s : Same H H') (h : H l = none) : Same H (upd H' l o) := fun b u e => by
  rw [upd_ne (ne_of_none e h)]
  exact s b u e
theorem Same.rd {H H' : Hp} (s : Same H H') {v : V} {d : PyData} (h : RdV H v d) : RdV H' v d := h.same fun b xs e => s b _ e
theorem Same.rds {H H' : Hp} (s : Same H H') {vs : List V} {ds : List PyData} (h : RdVs H vs ds) : RdVs H' vs ds := h.same fun b xs e => s b _ e
structure Df (K : PySem.W.Frag) (mg : Str → Option Value) (x : Str) (st : Stmt) (ps : List Str) (f : Addr) (fd : FuncData) : Prop where
  F : Fun K x x st f fd
  m : mg x = some (.ref f)
  b : Binds K fd ps []
noncomputable def isStrC : Expr → Bool
  | .Constant (.str _) _ _ => true
  | _ => false
noncomputable def strC : Expr → V
  | .Constant (.str x) _ _ => .str x
  | _ => .non
theorem pa_strs {X : Cx} : ∀ {es : List Expr}, es.all isStrC = true → PA X es (fun _ H Q => Q (es.map strC) H)
  | [], _ => pa_nil
  | e :: es, h => by
    (rw [List.all_cons, Bool.and_eq_true] at h)
    have ih := pa_strs (X := X) h.2
    cases e with
    | Constant c j pos =>
      cases c with
      | str x => exact pa_cons pe_str ih
      | _ => exact absurd h.1 Bool.false_ne_true
    | _ => exact absurd h.1 Bool.false_ne_true
theorem lcJ {J : It} {n : Nat} {D : Addr} {ρ : St} {tc : TT} {te : TE} {fin : Hp → Prop} {H0 : Hp} (Pv : Nat → List V → Hp → Prop) (h0 : Pv 0 [] (upd H0 D (.lst [])))
    (go : ∀ i ys H, i < n → Pv i ys H → J.go i H) (stop : ∀ ys H, Pv n ys H → J.stop n H)
    (hs : ∀ i ys H x H1, i < n → Pv i ys H → J.yld i H x H1 → tc (some x :: ρ) H1 fun b H3 => if b = true then te (some x :: ρ) H3 fun y H4 => ∃ zs, H4 D = some (.lst zs) ∧ zs.length < sizeLine ∧ Pv (i + 1) (zs ++ [y]) (upd H4 D (.lst (zs ++ [y]))) else Pv (i + 1) ys H3)
    (hd : ∀ ys H, Pv n ys H → fin H) : ∃ W : Nat → Nat → List V → Hp → Prop, (∃ m, W 0 m [] (upd H0 D (.lst []))) ∧ tLcB J D (none :: ρ) (gName 0) tc te fin W := by
  refine ⟨fun i m ys H => m = n - i ∧ i ≤ n ∧ Pv i ys H, ⟨n, rfl, Nat.zero_le _, h0⟩, ?_⟩
  rintro i m ys H ⟨rfl, hi, p⟩
  by_cases hlt : i < n
  · refine .inr ⟨go i ys H hlt p, Pv (i + 1), fun ys' H' p' => ⟨n - (i + 1), by lia, rfl, hlt, p'⟩, fun x H1 y => ⟨⟨rfl, fun j v e => ?_⟩, hs i ys H x H1 hlt p y⟩⟩
    cases j with
    | zero => cases e
    | succ j => exact e
  · have e : i = n := by lia
    subst e
    exact .inl ⟨stop ys H p, hd ys H p⟩
theorem lc_yes {σ : St} {H : Hp} {A B : Hp → Prop} (h : A H) : tYes σ H fun b H3 => if b = true then A H3 else B H3 := by
  show if true = true then A H else B H
  rw [if_pos rfl]
  exact h
section
variable {X : Cx}
theorem ix_listK (K : PySem.W.Frag) (h : X.K = K) : IxR X (rIxL K) := by
  subst h
  exact ix_list
theorem ix_tupK (K : PySem.W.Frag) (h : X.K = K) : IxR X (rIxT K) := by
  subst h
  exact ix_tup
theorem call_lenK (K : PySem.W.Frag) (h : X.K = K) : CallR X (.builtin "len") (rLen K) := by
  subst h
  exact call_len
theorem call_tupK (K : PySem.W.Frag) (h : X.K = K) : CallR X (.type "tuple") (fun xs H Q => ∃ p ys, xs = [.ref p] ∧ ((SqL K H p ys ∧ ∀ l, H l = none → Q (.ref l) (upd H l (.tup ys))) ∨ (SqT K H p ys ∧ Q (.ref p) H))) := by
  subst h
  exact call_tuple_of
theorem bmK {e : Expr} {T : String} {r : V → List V → Hp → VK → Prop} {to : TE} {t : TA} (K : PySem.W.Frag) (h : X.K = K) (hp : PE X e (tBM X.K T r to t)) : PE X e (tBM K T r to t) := by
  subst h
  exact hp
end
theorem bt_tuple : bootBuiltins "tuple" = some (.type "tuple") := by decide +kernel
theorem bt_int : bootBuiltins "int" = some (.type "int") := by decide +kernel
theorem bt_isi : bootBuiltins "isinstance" = some (.builtin "isinstance") := by decide +kernel
end L2
namespace Tx
open PySem L2 PyProof.Rows
open PySem.PyData (strOk)
theorem len_app (x y : Str) : (x ++ y).length = x.length + y.length := by
  (show (x.cps ++ y.cps).size = x.cps.size + y.cps.size)
  rw [Array.size_append]
theorem ok_of {x : Str} (h : ∀ c ∈ x.cps.toList, c < 0x110000) : strOk x = true := by
  unfold strOk
  rw [Array.all_eq_true']
  intro c hc
  exact decide_eq_true (h c (by simpa using hc))
noncomputable def abc : Str := "abcdefghijklmnopqrstuvwxyz"
theorem abc_len : abc.length ≤ sizeLine := by
  rw [sizeLine_eq]
  decide +kernel
theorem foldl_app (a : Array Nat) : ∀ (k : Nat) (acc : Array Nat), (List.foldl (fun x y => x ++ y) acc (List.replicate k a)).toList = acc.toList ++ (List.replicate k a.toList).flatten
  | 0, acc => by simp
  | k + 1, acc => by
    rw [List.replicate_succ, List.foldl_cons, foldl_app a k, List.replicate_succ, List.flatten_cons, Array.toList_append, List.append_assoc]
noncomputable def thingB : Str := "thing "
noncomputable def blank : Str := " "
theorem blank_eq : blank = ⟨#[32]⟩ := by decide +kernel
end Tx
namespace Rk
open PySem
noncomputable def cs (x : Str) : List Nat := x.cps.toList
theorem cs_app (x y : Str) : cs (x ++ y) = cs x ++ cs y := by
  show (x.cps ++ y.cps).toList = _
  rw [Array.toList_append]
  rfl
theorem cs_inj {x y : Str} (h : cs x = cs y) : x = y := by
  cases x with | mk a =>
  cases y with | mk b =>
  have : a = b := Array.toList_inj.mp h
  rw [this]
theorem cs_len (x : Str) : (cs x).length = x.length := by
  show x.cps.toList.length = x.cps.size
  exact Array.length_toList
theorem cs_one (c : Nat) : cs ⟨#[c]⟩ = [c] := rfl
noncomputable def J : List (List Nat) → List Nat
  | [] => []
  | [a] => a
  | a :: b :: r => a ++ 32 :: J (b :: r)
theorem cut_eq : ∀ {a b u v : List Nat}, 32 ∉ a → 32 ∉ b → a ++ 32 :: u = b ++ 32 :: v → a = b ∧ u = v
  | [], [], u, v, _, _, h => ⟨rfl, by simpa using h⟩
  | [], y :: b, u, v, _, hb, h => by
    simp only [List.nil_append, List.cons_append, List.cons.injEq] at h
    exact absurd (List.mem_cons.mpr (.inl h.1)) hb
  | x :: a, [], u, v, ha, _, h => by
    simp only [List.nil_append, List.cons_append, List.cons.injEq] at h
    exact absurd (List.mem_cons.mpr (.inl h.1.symm)) ha
  | x :: a, y :: b, u, v, ha, hb, h => by
    simp only [List.cons_append, List.cons.injEq] at h
    obtain ⟨e1, e2⟩ := cut_eq (fun z => ha (List.mem_cons_of_mem _ z)) (fun z => hb (List.mem_cons_of_mem _ z)) h.2
    exact ⟨by rw [h.1, e1], e2⟩
theorem J_inj : ∀ {ps ws : List (List Nat)}, ps ≠ [] → ws ≠ [] → (∀ p ∈ ps, 32 ∉ p) → (∀ w ∈ ws, 32 ∉ w) → J ps = J ws → ps = ws
  | [], _, h, _, _, _, _ => absurd rfl h
  | _ :: _, [], _, h, _, _, _ => absurd rfl h
  | [a], [b], _, _, _, _, e => by rw [show a = b from e]
  | [a], b :: c :: r, _, _, ha, _, e => by
    have e' : a = b ++ 32 :: J (c :: r) := e
    exact absurd (by rw [e']; simp) (ha a (List.mem_cons_self ..))
  | a :: c :: r, [b], _, _, _, hb, e => by
    have e' : a ++ 32 :: J (c :: r) = b := e
    exact absurd (by rw [← e']; simp) (hb b (List.mem_cons_self ..))
  | a :: c :: r, b :: d :: t, _, _, ha, hb, e => by
    have e' : a ++ 32 :: J (c :: r) = b ++ 32 :: J (d :: t) := e
    obtain ⟨e1, e2⟩ := cut_eq (ha a (List.mem_cons_self ..)) (hb b (List.mem_cons_self ..)) e'
    rw [e1, J_inj (List.cons_ne_nil _ _) (List.cons_ne_nil _ _) (fun p hp => ha p (List.mem_cons_of_mem _ hp)) (fun p hp => hb p (List.mem_cons_of_mem _ hp)) e2]
theorem J_count : ∀ ps : List (List Nat), (J ps).count 32 + 1 = (ps.map (List.count 32)).sum + (if ps = [] then 1 else ps.length)
  | [] => rfl
  | [a] => by simp [J]
  | a :: b :: r => by
    have ih := J_count (b :: r)
    rw [if_neg (List.cons_ne_nil _ _)] at ih ⊢
    show (a ++ 32 :: J (b :: r)).count 32 + 1 = _
    rw [List.count_append, List.count_cons_self, List.map_cons, List.sum_cons]
    simp only [List.length_cons] at ih ⊢
    lia
theorem sum_zero : ∀ {l : List Nat}, l.sum = 0 → ∀ x ∈ l, x = 0
  | [], _, _, h => nomatch h
  | a :: r, h, x, hx => by
    rw [List.sum_cons] at h
    rcases List.mem_cons.mp hx with e | e
    · lia
    · exact sum_zero (by lia) x e
noncomputable def fixedS : List Str := ["and", "or", "not", "while", "in", "on", "top", "held", "open", "shut", "locked", "bare", "free", "hand"]
structure Nv (x : Str) : Prop where
  low : ∀ c ∈ cs x, 97 ≤ c ∧ c ≤ 122
  pos : 1 ≤ x.length
  len : x.length ≤ 8
  fix : x ∉ fixedS
theorem fixed_two : ∀ w ∈ fixedS, ∃ c ∈ cs w, ∃ d ∈ cs w, c ≠ d := by
  have h : fixedS.all (fun w => (cs w).any fun c => (cs w).any fun d => c != d) = true := by decide +kernel
  intro w hw
  have h1 := List.all_eq_true.mp h w hw
  obtain ⟨c, hc, h2⟩ := List.any_eq_true.mp h1
  obtain ⟨d, hd, h3⟩ := List.any_eq_true.mp h2
  exact ⟨c, hc, d, hd, by simpa using h3⟩
theorem fixed_z : ∀ w ∈ fixedS, ("z" : Str) ++ w ∉ fixedS ∧ (("z" : Str) ++ w).length ≤ 8 := by
  have h : fixedS.all (fun w => decide (("z" : Str) ++ w ∉ fixedS) && decide ((("z" : Str) ++ w).length ≤ 8)) = true := by decide +kernel
  intro w hw
  have h1 := List.all_eq_true.mp h w hw
  rw [Bool.and_eq_true] at h1
  exact ⟨of_decide_eq_true h1.1, of_decide_eq_true h1.2⟩
theorem nv_rep {x : Str} {c n : Nat} (e : cs x = List.replicate n c) (h1 : 97 ≤ c) (h2 : c ≤ 122) (n1 : 1 ≤ n) (n2 : n ≤ 8) : Nv x := by
  have el : x.length = n := by rw [← cs_len, e, List.length_replicate]
  refine ⟨fun d hd => ?_, by lia, by lia, fun hf => ?_⟩
  · rw [e] at hd
    rw [(List.mem_replicate.mp hd).2]
    exact ⟨h1, h2⟩
  · obtain ⟨a, ha, b, hb, ne⟩ := fixed_two x hf
    rw [e] at ha hb
    exact ne ((List.mem_replicate.mp ha).2.trans (List.mem_replicate.mp hb).2.symm)
noncomputable def zed (x : Str) : Str := if x ∈ fixedS then ("z" : Str) ++ x else x
theorem zed_nv {x : Str} (low : ∀ c ∈ cs x, 97 ≤ c ∧ c ≤ 122) (h1 : 1 ≤ x.length) (h2 : x.length ≤ 8) : Nv (zed x) := by
  unfold zed
  by_cases h : x ∈ fixedS
  · rw [if_pos h]
    have z := fixed_z x h
    refine ⟨fun c hc => ?_, ?_, z.2, z.1⟩
    · rw [cs_app] at hc
      rcases List.mem_append.mp hc with q | q
      · have : c = 122 := by
          have e : cs ("z" : Str) = [122] := by decide +kernel
          rw [e] at q
          simpa using q
        lia
      · exact low c q
    · rw [← cs_len, cs_app, List.length_append, cs_len, cs_len]
      lia
  · rw [if_neg h]
    exact ⟨low, h1, h2, h⟩
theorem zed_inj {x y : Str} (hl : x.length = y.length) (h : zed x = zed y) : x = y := by
  have lz : ∀ z : Str, (("z" : Str) ++ z).length = z.length + 1 := fun z => by
    have e : ("z" : Str).length = 1 := by decide +kernel
    rw [← cs_len, cs_app, List.length_append, cs_len, cs_len, e]
    lia
  unfold zed at h
  by_cases h1 : x ∈ fixedS
  · rw [if_pos h1] at h
    by_cases h2 : y ∈ fixedS
    · rw [if_pos h2] at h
      have e := congrArg cs h
      rw [cs_app, cs_app] at e
      exact cs_inj (List.append_cancel_left e)
    · rw [if_neg h2] at h
      have e := congrArg Str.length h
      rw [lz] at e
      lia
  · rw [if_neg h1] at h
    by_cases h2 : y ∈ fixedS
    · rw [if_pos h2] at h
      have e := congrArg Str.length h
      rw [lz] at e
      lia
    · rw [if_neg h2] at h
      exact h
theorem nodup_snoc {α : Type} {l : List α} {x : α} (h : l.Nodup) (hx : x ∉ l) : (l ++ [x]).Nodup := by
  rw [List.nodup_append]
  refine ⟨h, by simp, fun a ha b hb => ?_⟩
  rw [List.mem_singleton.mp hb]
  intro e
  rw [e] at ha
  exact hx ha
theorem five_inj {p : Int} {i j : Nat} (hi : i < 26) (hj : j < 26) (h : (p + 5 * (i : Int)) % 26 = (p + 5 * (j : Int)) % 26) : i = j := by lia
end Rk
namespace Rk
open PySem
inductive Ro where
  | pl (n : Str)
  | bx (n : Str)
  | lk (n k : Str)
  | th (n s : Str)
  deriving DecidableEq
noncomputable def Ro.name : Ro → Str
  | .pl n => n
  | .bx n => n
  | .lk n _ => n
  | .th n _ => n
noncomputable def Ro.isP : Ro → Bool
  | .th _ _ => false
  | _ => true
noncomputable def Ro.boxed : Ro → Bool
  | .bx _ => true
  | .lk _ _ => true
  | _ => false
noncomputable def Ro.words : Ro → List Str
  | .pl n => ["place", n]
  | .bx n => ["box", n]
  | .lk n k => ["box", n, k]
  | .th n s => ["thing", n, s]
noncomputable def Ro.txt : Ro → Str
  | .pl n => ("place " : Str) ++ n
  | .bx n => ("box " : Str) ++ n
  | .lk n k => ("box " : Str) ++ n ++ (" " : Str) ++ k
  | .th n s => ("thing " : Str) ++ n ++ (" " : Str) ++ s
noncomputable def Ro.nv : Ro → Prop
  | .pl n => Nv n
  | .bx n => Nv n
  | .lk n k => Nv n ∧ Nv k
  | .th n s => Nv n ∧ Nv s
theorem Ro.nv_name : ∀ {r : Ro}, r.nv → Nv r.name
  | .pl _, h => h
  | .bx _, h => h
  | .lk _ _, h => h.1
  | .th _ _, h => h.1
theorem Nv.noblank {x : Str} (h : Nv x) : 32 ∉ cs x := fun z => by
  have := h.low 32 z
  lia
theorem Ro.noblank : ∀ {r : Ro}, r.nv → ∀ w ∈ r.words, 32 ∉ cs w
  | .pl n, h, w, hw => by
    simp only [Ro.words, List.mem_cons, List.not_mem_nil, or_false] at hw
    rcases hw with e | e
    · rw [e]; decide +kernel
    · rw [e]; exact Nv.noblank h
  | .bx n, h, w, hw => by
    simp only [Ro.words, List.mem_cons, List.not_mem_nil, or_false] at hw
    rcases hw with e | e
    · rw [e]; decide +kernel
    · rw [e]; exact Nv.noblank h
  | .lk n k, h, w, hw => by
    simp only [Ro.words, List.mem_cons, List.not_mem_nil, or_false] at hw
    rcases hw with e | e | e
    · rw [e]; decide +kernel
    · rw [e]; exact Nv.noblank h.1
    · rw [e]; exact Nv.noblank h.2
  | .th n k, h, w, hw => by
    simp only [Ro.words, List.mem_cons, List.not_mem_nil, or_false] at hw
    rcases hw with e | e | e
    · rw [e]; decide +kernel
    · rw [e]; exact Nv.noblank h.1
    · rw [e]; exact Nv.noblank h.2
theorem cs_txt : ∀ r : Ro, cs r.txt = J (r.words.map cs)
  | .pl n => by
    show cs (("place " : Str) ++ n) = cs ("place" : Str) ++ 32 :: cs n
    rw [cs_app]
    have e : cs ("place " : Str) = cs ("place" : Str) ++ [32] := by decide +kernel
    rw [e]; simp
  | .bx n => by
    show cs (("box " : Str) ++ n) = cs ("box" : Str) ++ 32 :: cs n
    rw [cs_app]
    have e : cs ("box " : Str) = cs ("box" : Str) ++ [32] := by decide +kernel
    rw [e]; simp
  | .lk n k => by
    show cs (("box " : Str) ++ n ++ (" " : Str) ++ k) = cs ("box" : Str) ++ 32 :: (cs n ++ 32 :: cs k)
    rw [cs_app, cs_app, cs_app]
    have e : cs ("box " : Str) = cs ("box" : Str) ++ [32] := by decide +kernel
    have e2 : cs (" " : Str) = [32] := by decide +kernel
    rw [e, e2]; simp
  | .th n k => by
    show cs (("thing " : Str) ++ n ++ (" " : Str) ++ k) = cs ("thing" : Str) ++ 32 :: (cs n ++ 32 :: cs k)
    rw [cs_app, cs_app, cs_app]
    have e : cs ("thing " : Str) = cs ("thing" : Str) ++ [32] := by decide +kernel
    have e2 : cs (" " : Str) = [32] := by decide +kernel
    rw [e, e2]; simp
theorem txt_thing : ∀ r : Ro, r.isP = false ↔ ∃ z, cs r.txt = cs ("thing " : Str) ++ z
  | .pl n => by
    constructor
    · intro h; cases h
    · rintro ⟨z, h⟩
      rw [show cs (Ro.pl n).txt = cs ("place " : Str) ++ cs n from cs_app _ _] at h
      have e1 : cs ("place " : Str) = 112 :: (cs ("place " : Str)).tail := by decide +kernel
      have e2 : cs ("thing " : Str) = 116 :: (cs ("thing " : Str)).tail := by decide +kernel
      rw [e1, e2] at h
      simp only [List.cons_append, List.cons.injEq] at h
      exact absurd h.1 (by decide)
  | .bx n => by
    constructor
    · intro h; cases h
    · rintro ⟨z, h⟩
      rw [show cs (Ro.bx n).txt = cs ("box " : Str) ++ cs n from cs_app _ _] at h
      have e1 : cs ("box " : Str) = 98 :: (cs ("box " : Str)).tail := by decide +kernel
      have e2 : cs ("thing " : Str) = 116 :: (cs ("thing " : Str)).tail := by decide +kernel
      rw [e1, e2] at h
      simp only [List.cons_append, List.cons.injEq] at h
      exact absurd h.1 (by decide)
  | .lk n k => by
    constructor
    · intro h; cases h
    · rintro ⟨z, h⟩
      rw [show cs (Ro.lk n k).txt = cs ("box " : Str) ++ cs n ++ cs (" " : Str) ++ cs k from by show cs (("box " : Str) ++ n ++ (" " : Str) ++ k) = _; rw [cs_app, cs_app, cs_app]] at h
      have e1 : cs ("box " : Str) = 98 :: (cs ("box " : Str)).tail := by decide +kernel
      have e2 : cs ("thing " : Str) = 116 :: (cs ("thing " : Str)).tail := by decide +kernel
      rw [e1, e2] at h
      simp only [List.cons_append, List.cons.injEq] at h
      exact absurd h.1 (by decide)
  | .th n k => by
    refine ⟨fun _ => ⟨cs n ++ cs (" " : Str) ++ cs k, ?_⟩, fun _ => rfl⟩
    show cs (("thing " : Str) ++ n ++ (" " : Str) ++ k) = _
    rw [cs_app, cs_app, cs_app]
    simp
theorem txt_len {r : Ro} (h : r.nv) : r.txt.length ≤ 23 := by
  have l6 : ("place " : Str).length = 6 := by decide +kernel
  have l4 : ("box " : Str).length = 4 := by decide +kernel
  have t6 : ("thing " : Str).length = 6 := by decide +kernel
  have l1 : (" " : Str).length = 1 := by decide +kernel
  cases r with
  | pl n => 
    have := Nv.len h
    rw [← cs_len, show (Ro.pl n).txt = ("place " : Str) ++ n from rfl, cs_app, List.length_append, cs_len, cs_len]; lia
  | bx n =>
    have := Nv.len h
    rw [← cs_len, show (Ro.bx n).txt = ("box " : Str) ++ n from rfl, cs_app, List.length_append, cs_len, cs_len]; lia
  | lk n k =>
    have := Nv.len h.1
    have := Nv.len h.2
    rw [← cs_len, show (Ro.lk n k).txt = ("box " : Str) ++ n ++ (" " : Str) ++ k from rfl, cs_app, cs_app, cs_app, List.length_append, List.length_append, List.length_append, cs_len, cs_len, cs_len, cs_len]; lia
  | th n k =>
    have := Nv.len h.1
    have := Nv.len h.2
    rw [← cs_len, show (Ro.th n k).txt = ("thing " : Str) ++ n ++ (" " : Str) ++ k from rfl, cs_app, cs_app, cs_app, List.length_append, List.length_append, List.length_append, cs_len, cs_len, cs_len, cs_len]; lia
noncomputable def plc : List Ro → List (Str × Bool × Option Str)
  | [] => []
  | .pl n :: r => (n, false, none) :: plc r
  | .bx n :: r => (n, true, none) :: plc r
  | .lk n k :: r => (n, true, some k) :: plc r
  | .th _ _ :: r => plc r
noncomputable def ths : List Ro → List (Str × Str)
  | [] => []
  | .th n s :: r => (n, s) :: ths r
  | _ :: r => ths r
theorem plc_app : ∀ a b : List Ro, plc (a ++ b) = plc a ++ plc b
  | [], _ => rfl
  | .pl n :: r, b => by simp [plc, plc_app r b]
  | .bx n :: r, b => by simp [plc, plc_app r b]
  | .lk n k :: r, b => by simp [plc, plc_app r b]
  | .th n s :: r, b => by simp [plc, plc_app r b]
theorem ths_app : ∀ a b : List Ro, ths (a ++ b) = ths a ++ ths b
  | [], _ => rfl
  | .pl n :: r, b => by simp [ths, ths_app r b]
  | .bx n :: r, b => by simp [ths, ths_app r b]
  | .lk n k :: r, b => by simp [ths, ths_app r b]
  | .th n s :: r, b => by simp [ths, ths_app r b]
theorem names_perm : ∀ rs : List Ro, (rs.map Ro.name).Perm ((plc rs).map (·.1) ++ (ths rs).map (·.1))
  | [] => .nil
  | .pl n :: r => .cons _ (names_perm r)
  | .bx n :: r => .cons _ (names_perm r)
  | .lk n k :: r => .cons _ (names_perm r)
  | .th n s :: r => (List.Perm.cons n (names_perm r)).trans List.perm_middle.symm
theorem mem_plc_name {rs : List Ro} {n : Str} (h : n ∈ (plc rs).map (·.1)) : n ∈ rs.map Ro.name := (names_perm rs).mem_iff.mpr (List.mem_append_left _ h)
theorem mem_ths_name {rs : List Ro} {n : Str} (h : n ∈ (ths rs).map (·.1)) : n ∈ rs.map Ro.name := (names_perm rs).mem_iff.mpr (List.mem_append_right _ h)
structure Good (rs : List Ro) : Prop where
  nv : ∀ r ∈ rs, r.nv
  nd : (rs.map Ro.name).Nodup
  first : ∃ n t, plc rs = (n, false, none) :: t
  fewP : (plc rs).length ≤ 6
  fewT : (ths rs).length ≤ 6
  keys : ∀ p ∈ plc rs, ∀ k, p.2.2 = some k → k ∈ (ths rs).map (·.1)
theorem Good.floor {rs : List Ro} (g : Good rs) {a b : List Ro} {r : Ro} (e : rs = a ++ r :: b) (h : r.boxed = true) : plc a ≠ [] := fun z => by
  obtain ⟨n, t, f⟩ := g.first
  rw [e, plc_app, z, List.nil_append] at f
  cases r with
  | pl n => cases h
  | th n s => cases h
  | bx n => simp [plc] at f
  | lk n k => simp [plc] at f
theorem Good.ndP {rs : List Ro} (g : Good rs) : ((plc rs).map (·.1)).Nodup := ((List.nodup_append.mp ((names_perm rs).nodup_iff.mp g.nd))).1
theorem plc_ins (rs : List Ro) (i : Nat) (n s : Str) : plc (rs.take i ++ .th n s :: rs.drop i) = plc rs := by
  rw [plc_app]
  show plc (rs.take i) ++ plc (rs.drop i) = _
  rw [← plc_app, List.take_append_drop]
theorem ths_ins (rs : List Ro) (i : Nat) (n s : Str) : (ths (rs.take i ++ .th n s :: rs.drop i)).Perm ((n, s) :: ths rs) := by
  rw [ths_app]
  show (ths (rs.take i) ++ (n, s) :: ths (rs.drop i)).Perm _
  refine List.perm_middle.trans (.cons _ ?_)
  rw [← ths_app, List.take_append_drop]
end Rk
namespace Rk
open PySem PyProof.Rows L2 Tx
theorem cnt_count (c : Nat) : ∀ l : List Nat, cnt c l = (l.count c : Int)
  | [] => by rw [cnt_nil]; rfl
  | n :: r => by
    rw [cnt_cons, cnt_count c r, List.count_cons]
    by_cases h : n = c
    · simp [h]
      lia
    · simp [h]
theorem cs_blank : cs blank = [32] := by decide +kernel
theorem cs_join : ∀ ps : List Str, cs (Str.join blank ps) = J (ps.map cs)
  | [] => rfl
  | [a] => rfl
  | a :: b :: r => by
    show cs (a ++ blank ++ Str.join blank (b :: r)) = cs a ++ 32 :: J (cs b :: r.map cs)
    rw [cs_app, cs_app, cs_join (b :: r), cs_blank]
    simp
theorem map_cs : ∀ {xs ys : List Str}, xs.map cs = ys.map cs → xs = ys
  | [], [], _ => rfl
  | [], _ :: _, h => by simp at h
  | _ :: _, [], h => by simp at h
  | x :: xs, y :: ys, h => by
    (simp only [List.map_cons, List.cons.injEq] at h)
    rw [cs_inj h.1, map_cs h.2]
theorem split_words {x : Str} {ws : List Str} (h0 : ws ≠ []) (hx : cs x = J (ws.map cs)) (hb : ∀ w ∈ ws, 32 ∉ cs w) : Txt.split x blank = ws := by
  have hj := StrLaws.join_split x blank
  have hl := split_len x 32
  rw [← blank_eq, cnt_count] at hl
  have e1 : J ((Txt.split x blank).map cs) = cs x := by rw [← cs_join, hj]
  have hc := J_count ((Txt.split x blank).map cs)
  have n0 : Txt.split x blank ≠ [] := fun z => by
    rw [z] at hl
    simp at hl
    lia
  rw [if_neg (by simpa using n0), e1, List.length_map] at hc
  have hcc : (cs x).count 32 = x.cps.toList.count 32 := rfl
  have hs : (((Txt.split x blank).map cs).map (List.count 32)).sum = 0 := by lia
  have hp : ∀ p ∈ (Txt.split x blank).map cs, 32 ∉ p := fun p hp => by
    have := sum_zero hs (p.count 32) (List.mem_map_of_mem hp)
    exact List.count_eq_zero.mp this
  refine map_cs (J_inj (by simpa using n0) (by simpa using h0) hp (fun w hw => ?_) (e1.trans hx))
  obtain ⟨v, hv, rfl⟩ := List.mem_map.mp hw
  exact hb v hv
theorem words_ne (r : Ro) : r.words ≠ [] := by cases r <;> exact List.cons_ne_nil _ _
theorem split_txt {r : Ro} (h : r.nv) : Txt.split r.txt blank = r.words := split_words (words_ne r) (cs_txt r) (Ro.noblank h)
theorem starts_iff (x : Str) : Txt.startswith x thingB = true ↔ ∃ z, cs x = cs thingB ++ z := by
  have l6 : thingB.length = 6 := by decide +kernel
  have c6 : (cs thingB).length = 6 := by decide +kernel
  unfold Txt.startswith Builtin.Str.subAt
  rw [Bool.and_eq_true]
  constructor
  · rintro ⟨h1, h2⟩
    have e : x.cps.extract 0 (0 + thingB.length) = thingB.cps := by simpa using h2
    refine ⟨(cs x).drop 6, ?_⟩
    have e2 : (x.cps.extract 0 (0 + thingB.length)).toList = (cs x).take 6 := by
      rw [Array.toList_extract, l6]
      simp [cs]
    rw [e] at e2
    show cs x = thingB.cps.toList ++ (cs x).drop 6
    rw [e2, List.take_append_drop]
  · rintro ⟨z, h⟩
    have hl : x.length = 6 + z.length := by rw [← cs_len, h, List.length_append, c6]
    refine ⟨decide_eq_true (by lia), ?_⟩
    have e : x.cps.extract 0 (0 + thingB.length) = thingB.cps := by
      apply Array.toList_inj.mp
      rw [Array.toList_extract, l6]
      show (List.drop 0 (cs x)).take (0 + 6 - 0) = cs thingB
      rw [h, List.drop_zero]
      exact List.take_left' c6
    simpa using e
theorem starts_txt (r : Ro) : Txt.startswith r.txt thingB = !r.isP := by
  cases hp : r.isP with
  | false =>
    rw [(starts_iff r.txt).mpr ((txt_thing r).mp hp)]
    rfl
  | true =>
    cases hs : Txt.startswith r.txt thingB with
    | false => rfl
    | true =>
      have := (txt_thing r).mpr ((starts_iff r.txt).mp hs)
      rw [hp] at this
      cases this
theorem Nv.ok {x : Str} (h : Nv x) : PySem.PyData.strOk x = true := ok_of fun c hc => by
  have := h.low c hc
  lia
theorem Nv.ascii {x : Str} (h : Nv x) : x.cps.all (· < 128) = true := by
  rw [Array.all_eq_true']
  intro c hc
  have := h.low c (by simpa [cs] using hc)
  (exact decide_eq_true (by lia))
theorem abc_ix : ∀ n : Nat, n < 26 → abc.cps.toList[n]? = some (97 + n) := by decide +kernel
theorem abc_num {i : Int} (h0 : 0 ≤ i) (h1 : i < 26) : atI abc.cps.toList i = some (97 + i.toNat) := by
  have q := atI_nat (abc_ix i.toNat (by lia))
  rw [Int.toNat_of_nonneg h0] at q
  exact q
theorem in_abc {c : Nat} (h1 : 97 ≤ c) (h2 : c ≤ 122) : (!(Builtin.Str.occurrences abc ⟨#[c]⟩ 0 abc.length 1).isEmpty) = true := by
  have h : ∀ n : Nat, n < 26 → (!(Builtin.Str.occurrences abc ⟨#[97 + n]⟩ 0 abc.length 1).isEmpty) = true := by decide +kernel
  have := h (c - 97) (by lia)
  rw [show 97 + (c - 97) = c by lia] at this
  exact this
theorem inV_strs (x : Str) : ∀ ys : List Str, inV (.str x) (ys.map V.str) = decide (x ∈ ys)
  | [] => rfl
  | y :: ys => by
    show (eqV (.str y) (.str x) || inV (.str x) (ys.map V.str)) = _
    rw [inV_strs x ys]
    by_cases h : y = x
    · subst h
      simp [eqV]
    · have h' : ¬ x = y := fun e => h e.symm
      simp [eqV, h, h']
theorem flat_strs : ∀ ys : List Str, (ys.map V.str).all flatV = true
  | [] => rfl
  | _ :: ys => by
    rw [List.map_cons, List.all_cons, flat_strs ys]
    rfl
noncomputable def lidsK : List Ro → List (Key × V)
  | [] => []
  | .bx n :: r => (Sum.inr n, .bl true) :: lidsK r
  | .lk n _ :: r => (Sum.inr n, .bl true) :: lidsK r
  | _ :: r => lidsK r
noncomputable def keysK : List Ro → List (Key × V)
  | [] => []
  | .lk n k :: r => (Sum.inr n, .str k) :: keysK r
  | _ :: r => keysK r
noncomputable def shK (rs : List Ro) : List (Key × V) := (ths rs).map fun x => (Sum.inr x.1, .str x.2)
theorem lidsK_app : ∀ a b : List Ro, lidsK (a ++ b) = lidsK a ++ lidsK b
  | [], _ => rfl
  | .pl n :: r, b => by simp [lidsK, lidsK_app r b]
  | .bx n :: r, b => by simp [lidsK, lidsK_app r b]
  | .lk n k :: r, b => by simp [lidsK, lidsK_app r b]
  | .th n s :: r, b => by simp [lidsK, lidsK_app r b]
theorem keysK_app : ∀ a b : List Ro, keysK (a ++ b) = keysK a ++ keysK b
  | [], _ => rfl
  | .pl n :: r, b => by simp [keysK, keysK_app r b]
  | .bx n :: r, b => by simp [keysK, keysK_app r b]
  | .lk n k :: r, b => by simp [keysK, keysK_app r b]
  | .th n s :: r, b => by simp [keysK, keysK_app r b]
theorem lidsK_len : ∀ rs : List Ro, (lidsK rs).length ≤ rs.length
  | [] => Nat.le_refl _
  | .pl n :: r => by have := lidsK_len r; simp [lidsK]; lia
  | .bx n :: r => by have := lidsK_len r; simp [lidsK]; lia
  | .lk n k :: r => by have := lidsK_len r; simp [lidsK]; lia
  | .th n s :: r => by have := lidsK_len r; simp [lidsK]; lia
theorem keysK_len : ∀ rs : List Ro, (keysK rs).length ≤ rs.length
  | [] => Nat.le_refl _
  | .pl n :: r => by have := keysK_len r; simp [keysK]; lia
  | .bx n :: r => by have := keysK_len r; simp [keysK]; lia
  | .lk n k :: r => by have := keysK_len r; simp [keysK]; lia
  | .th n s :: r => by have := keysK_len r; simp [keysK]; lia
theorem lidsK_none {x : Str} : ∀ {rs : List Ro}, x ∉ rs.map Ro.name → valV (lidsK rs) (Sum.inr x : Key) = none
  | [], _ => rfl
  | .pl n :: r, h => lidsK_none (rs := r) fun z => h (List.mem_cons_of_mem _ z)
  | .th n s :: r, h => lidsK_none (rs := r) fun z => h (List.mem_cons_of_mem _ z)
  | .bx n :: r, h => by
    show valV ((Sum.inr n, .bl true) :: lidsK r) _ = none
    rw [valV_neg (fun e => h (by rw [Sum.inr.inj e]; exact List.mem_cons_self))]
    exact lidsK_none (rs := r) fun z => h (List.mem_cons_of_mem _ z)
  | .lk n k :: r, h => by
    show valV ((Sum.inr n, .bl true) :: lidsK r) _ = none
    rw [valV_neg (fun e => h (by rw [Sum.inr.inj e]; exact List.mem_cons_self))]
    exact lidsK_none (rs := r) fun z => h (List.mem_cons_of_mem _ z)
theorem keysK_none {x : Str} : ∀ {rs : List Ro}, x ∉ rs.map Ro.name → valV (keysK rs) (Sum.inr x : Key) = none
  | [], _ => rfl
  | .pl n :: r, h => keysK_none (rs := r) fun z => h (List.mem_cons_of_mem _ z)
  | .th n s :: r, h => keysK_none (rs := r) fun z => h (List.mem_cons_of_mem _ z)
  | .bx n :: r, h => keysK_none (rs := r) fun z => h (List.mem_cons_of_mem _ z)
  | .lk n k :: r, h => by
    show valV ((Sum.inr n, .str k) :: keysK r) _ = none
    rw [valV_neg (fun e => h (by rw [Sum.inr.inj e]; exact List.mem_cons_self))]
    exact keysK_none (rs := r) fun z => h (List.mem_cons_of_mem _ z)
theorem lidsK_ins (rs : List Ro) (i : Nat) (n s : Str) : lidsK (rs.take i ++ .th n s :: rs.drop i) = lidsK rs := by
  rw [lidsK_app]
  show lidsK (rs.take i) ++ lidsK (rs.drop i) = _
  rw [← lidsK_app, List.take_append_drop]
theorem keysK_ins (rs : List Ro) (i : Nat) (n s : Str) : keysK (rs.take i ++ .th n s :: rs.drop i) = keysK rs := by
  rw [keysK_app]
  show keysK (rs.take i) ++ keysK (rs.drop i) = _
  rw [← keysK_app, List.take_append_drop]
end Rk
namespace Rk
open PySem PySem.Spec PyProof.Rows L2 Tx
theorem split_join {ws : List Str} (h0 : ws ≠ []) (hb : ∀ w ∈ ws, 32 ∉ cs w) : Txt.split (Txt.join blank ws) blank = ws := by
  refine split_words h0 ?_ hb
  rw [← cs_join]
  exact congrArg cs (StrLaws.glued_eq_join blank ws)
noncomputable def Lo (p : Str × Bool × Option Str) (l : Str) : Prop := l = "open" ∨ (l = "shut" ∧ p.2.1 = true) ∨ (l = "locked" ∧ p.2.2.isSome = true)
theorem lids_some : ∀ {rs : List Ro} {p : Str × Bool × Option Str}, (rs.map Ro.name).Nodup → p ∈ plc rs → (valV (lidsK rs) (Sum.inr p.1 : Key)).isSome = true → p.2.1 = true
  | [], _, _, h, _ => nomatch h
  | .th n s :: r, p, nd, h, e => lids_some (rs := r) (List.nodup_cons.mp nd).2 h e
  | .pl n :: r, p, nd, h, e => by
    rcases List.mem_cons.mp (show p ∈ (n, false, none) :: plc r from h) with z | z
    · have hn : n ∉ r.map Ro.name := (List.nodup_cons.mp nd).1
      have e' : (valV (lidsK r) (Sum.inr p.1 : Key)).isSome = true := e
      rw [z, lidsK_none hn] at e'
      cases e'
    · exact lids_some (rs := r) (List.nodup_cons.mp nd).2 z e
  | .bx n :: r, p, nd, h, e => by
    rcases List.mem_cons.mp (show p ∈ (n, true, none) :: plc r from h) with z | z
    · rw [z]
    · have hne : n ≠ p.1 := fun q => (List.nodup_cons.mp nd).1 (by rw [show Ro.name (.bx n) = n from rfl, q]; exact mem_plc_name (List.mem_map_of_mem z))
      have e' : (valV ((Sum.inr n, V.bl true) :: lidsK r) (Sum.inr p.1 : Key)).isSome = true := e
      rw [valV_neg (fun q => hne (Sum.inr.inj q))] at e'
      exact lids_some (rs := r) (List.nodup_cons.mp nd).2 z e'
  | .lk n k :: r, p, nd, h, e => by
    rcases List.mem_cons.mp (show p ∈ (n, true, some k) :: plc r from h) with z | z
    · rw [z]
    · have hne : n ≠ p.1 := fun q => (List.nodup_cons.mp nd).1 (by rw [show Ro.name (.lk n k) = n from rfl, q]; exact mem_plc_name (List.mem_map_of_mem z))
      have e' : (valV ((Sum.inr n, V.bl true) :: lidsK r) (Sum.inr p.1 : Key)).isSome = true := e
      rw [valV_neg (fun q => hne (Sum.inr.inj q))] at e'
      exact lids_some (rs := r) (List.nodup_cons.mp nd).2 z e'
theorem keys_some : ∀ {rs : List Ro} {p : Str × Bool × Option Str}, (rs.map Ro.name).Nodup → p ∈ plc rs → (valV (keysK rs) (Sum.inr p.1 : Key)).isSome = true → p.2.2.isSome = true
  | [], _, _, h, _ => nomatch h
  | .th n s :: r, p, nd, h, e => keys_some (rs := r) (List.nodup_cons.mp nd).2 h e
  | .pl n :: r, p, nd, h, e => by
    rcases List.mem_cons.mp (show p ∈ (n, false, none) :: plc r from h) with z | z
    · have hn : n ∉ r.map Ro.name := (List.nodup_cons.mp nd).1
      have e' : (valV (keysK r) (Sum.inr p.1 : Key)).isSome = true := e
      rw [z, keysK_none hn] at e'
      cases e'
    · exact keys_some (rs := r) (List.nodup_cons.mp nd).2 z e
  | .bx n :: r, p, nd, h, e => by
    rcases List.mem_cons.mp (show p ∈ (n, true, none) :: plc r from h) with z | z
    · have hn : n ∉ r.map Ro.name := (List.nodup_cons.mp nd).1
      have e' : (valV (keysK r) (Sum.inr p.1 : Key)).isSome = true := e
      rw [z, keysK_none hn] at e'
      cases e'
    · exact keys_some (rs := r) (List.nodup_cons.mp nd).2 z e
  | .lk n k :: r, p, nd, h, e => by
    rcases List.mem_cons.mp (show p ∈ (n, true, some k) :: plc r from h) with z | z
    · rw [z]; rfl
    · have hne : n ≠ p.1 := fun q => (List.nodup_cons.mp nd).1 (by rw [show Ro.name (.lk n k) = n from rfl, q]; exact mem_plc_name (List.mem_map_of_mem z))
      have e' : (valV ((Sum.inr n, V.str k) :: keysK r) (Sum.inr p.1 : Key)).isSome = true := e
      rw [valV_neg (fun q => hne (Sum.inr.inj q))] at e'
      exact keys_some (rs := r) (List.nodup_cons.mp nd).2 z e'
noncomputable def Al (rs : List Ro) (x l : Str) : Prop := l = "open" ∨ (l = "shut" ∧ (valV (lidsK rs) (Sum.inr x : Key)).isSome = true) ∨ (l = "locked" ∧ (valV (keysK rs) (Sum.inr x : Key)).isSome = true)
theorem Al.lo {rs : List Ro} (g : Good rs) {p : Str × Bool × Option Str} {l : Str} (h : p ∈ plc rs) (a : Al rs p.1 l) : Lo p l := by
  rcases a with a | ⟨a, b⟩ | ⟨a, b⟩
  · exact .inl a
  · exact .inr (.inl ⟨a, lids_some g.nd h b⟩)
  · exact .inr (.inr ⟨a, keys_some g.nd h b⟩)
theorem set_flat {α : Type} {a b : List α} {x : α} : ∀ {xss : List (List α)} {j : Nat}, xss[j]? = some (a ++ b) → ((xss.set j (a ++ x :: b)).flatten).Perm (x :: xss.flatten)
  | [], _, h => by simp at h
  | y :: r, 0, h => by
    have e : y = a ++ b := by simpa using h
    subst e
    rw [List.set_cons_zero, List.flatten_cons, List.flatten_cons]
    have : (a ++ x :: b ++ r.flatten) = a ++ x :: (b ++ r.flatten) := by simp
    rw [this, List.append_assoc]
    exact List.perm_middle
  | y :: r, j + 1, h => by
    rw [List.set_cons_succ, List.flatten_cons, List.flatten_cons]
    have ih := set_flat (a := a) (b := b) (x := x) (xss := r) (j := j) (by simpa using h)
    exact (List.Perm.append_left y ih).trans List.perm_middle
theorem len_flat {α : Type} : ∀ {xss : List (List α)} {h : List α}, h ∈ xss → h.length ≤ xss.flatten.length
  | y :: r, h, hm => by
    rw [List.flatten_cons, List.length_append]
    rcases List.mem_cons.mp hm with e | e
    · rw [e]; lia
    · have := len_flat e
      lia
end Rk
namespace SK
open PySem PyProof.Rows
noncomputable def dd {κ : Type} [DecidableEq κ] (val : Nat → κ) : Nat → List κ
  | 0 => []
  | i + 1 => if val i ∈ dd val i then dd val i else dd val i ++ [val i]
section
variable {κ : Type} [DecidableEq κ] {val : Nat → κ}
theorem dd_le : ∀ i : Nat, (dd val i).length ≤ i
  | 0 => Nat.le_refl _
  | i + 1 => by
    have ih := dd_le i
    show (if val i ∈ dd val i then dd val i else dd val i ++ [val i]).length ≤ i + 1
    split
    · lia
    · rw [List.length_append]
      show (dd val i).length + 1 ≤ i + 1
      lia
theorem dd_mem : ∀ {i : Nat} {x : κ}, x ∈ dd val i → ∃ j, j < i ∧ x = val j
  | 0, _, h => nomatch h
  | i + 1, x, h => by
    have h' : x ∈ (if val i ∈ dd val i then dd val i else dd val i ++ [val i]) := h
    split at h'
    · obtain ⟨j, hj, e⟩ := dd_mem h'
      exact ⟨j, by lia, e⟩
    · rcases List.mem_append.mp h' with z | z
      · obtain ⟨j, hj, e⟩ := dd_mem z
        exact ⟨j, by lia, e⟩
      · exact ⟨i, by lia, List.mem_singleton.mp z⟩
theorem dd_full {n : Nat} (inj : ∀ i j, i < n → j < n → val i = val j → i = j) : ∀ i : Nat, i ≤ n → (dd val i).length = i
  | 0, _ => rfl
  | i + 1, h => by
    have ih := dd_full inj i (by lia)
    show (if val i ∈ dd val i then dd val i else dd val i ++ [val i]).length = i + 1
    rw [if_neg, List.length_append, ih]
    · rfl
    · intro z
      obtain ⟨j, hj, e⟩ := dd_mem z
      have := inj i j (by lia) (by lia) e
      lia
theorem dd_step (i : Nat) (x : κ) : decide (x ∈ dd val (i + 1)) = (decide (x ∈ dd val i) || decide (x = val i)) := by
  show decide (x ∈ (if val i ∈ dd val i then dd val i else dd val i ++ [val i])) = _
  by_cases h : val i ∈ dd val i
  · rw [if_pos h]
    by_cases e : x = val i
    · subst e; simp [h]
    · simp [e]
  · rw [if_neg h]
    simp [List.mem_append]
theorem dd_size (i : Nat) : (dd val (i + 1)).length = if decide (val i ∈ dd val i) = true then (dd val i).length else (dd val i).length + 1 := by
  show (if val i ∈ dd val i then dd val i else dd val i ++ [val i]).length = _
  by_cases h : val i ∈ dd val i
  · rw [if_pos h, if_pos (decide_eq_true h)]
  · rw [if_neg h, if_neg (by simpa using h), List.length_append]
    rfl
end
section
variable {prog : Program} {w : World} {κ : Type} [DecidableEq κ] {knd : KeyKind prog w κ} {A : Around} {R : Result → Shared → Prop} {I : Addr} {fp wr : List Addr} {G : Array GenState → Array GenState → Prop} {n : Nat} {P : Nat → Value → Prop} {St : Nat → Shared → Prop}
theorem kept {S : Addr} {h h' : Heap} {f : κ → Bool} {m : Nat} (q : h.SetOf knd S f m) (e : ∀ o, h.get? S = some o → h'.get? S = some o) : h'.SetOf knd S f m := by
  obtain ⟨o, es, ep, t, ho, r⟩ := q
  exact ⟨o, es, ep, t, e o ho, r⟩
theorem congr' {S : Addr} {h : Heap} {f g : κ → Bool} {m k : Nat} (q : h.SetOf knd S f m) (e : ∀ x, f x = g x) (em : m = k) : h.SetOf knd S g k := by
  have : f = g := funext e
  subst this em
  exact q
theorem fill (W : WalksS prog w A.in1 I fp wr G n P St) (S : Addr) (nS : S ∉ fp) (val : Nat → κ) (hv : ∀ i v, P i v → knd.is (val i) v = true ∧ v.scannable = true) (hb : n + 1 < scanBound) :
    ∀ (k i : Nat) (s : Shared), n - i = k → i ≤ n → St i s → s.heap.SetOf knd S (fun x => decide (x ∈ dd val i)) (dd val i).length →
      (∀ s', Moved (S :: wr) G s s' → s'.heap.SetOf knd S (fun x => decide (x ∈ dd val n)) (dd val n).length → R (.ok (.ret .none)) s') →
      (codeAny (model prog w) A (.builtin "set.update.loop" ⟨[.ref S, .ref I], []⟩) R s) := by
  have nw : S ∉ wr := fun h => nS (W.sub _ h)
  have sub : ∀ b ∈ wr, b ∈ S :: wr := fun b z => List.mem_cons_of_mem _ z
  intro k
  induction k with
  | zero =>
    intro i s hk hi st hS fin
    obtain rfl : i = n := by lia
    refine codeAny_builtin PyProof.Rows.F.entry_set_update_loop ?_
    rw [Around.under_plainId PyProof.Rows.F.plain_set_update_loop _]
    refine wpAny_bind (m := pyNext (.ref I)) (W.done s _ _ st fun s1 hm => ?_)
    exact wpAny_pure (fin s1 (hm.mono sub) (kept hS fun o e => hm.heap S o nw e))
  | succ k ih =>
    intro i s hk hi st hS fin
    have lt : i < n := by lia
    refine codeAny_builtin PyProof.Rows.F.entry_set_update_loop ?_
    rw [Around.under_plainId PyProof.Rows.F.plain_set_update_loop _]
    refine wpAny_bind (m := pyNext (.ref I)) (W.item i s _ _ lt st fun v s1 hP st1 hm => ?_)
    obtain ⟨key, sc⟩ := hv i v hP
    refine wpAny_bind (m := holding [v] (setAdd S v)) (wpAny_holding ?_)
    unfold setAdd
    refine wpAny_holding (wpAny_bind (knd.pyHash (k := val i) key ?_))
    have room : (dd val i).length + 1 < scanBound := by have := dd_le (val := val) i; lia
    refine wpAny_setAddHashed_of (knd := knd) (s := { s1 with toks := s1.toks + 1 }) key sc (kept hS fun o e => hm.heap S o nw e) room fun h2 sb hS2 => ?_
    have hS3 : h2.SetOf knd S (fun x => decide (x ∈ dd val (i + 1))) (dd val (i + 1)).length := congr' hS2 (fun x => (dd_step i x).symm) (dd_size i).symm
    have oth : ∀ b o, b ≠ S → s1.heap.get? b = some o → h2.get? b = some o := fun b o z e => (sb.2 b z).trans e
    refine wpAny_pure ⟨plainId_quiet PyProof.Rows.F.plain_set_update_loop _, ih (i + 1) _ (by lia) lt (W.frame _ s1 h2 (s1.toks + 1) st1 (Nat.le_succ _) fun b hb o e => oth b o (fun z => nS (z ▸ hb)) e) hS3 fun s2 hm2 q => ?_⟩
    refine fin s2 (Moved.trans W.gtrans ((hm.mono sub).then_heap (Nat.le_succ _) fun b o hb e => oth b o (fun z => hb (z ▸ List.mem_cons_self)) e) hm2) q
end
section
variable {prog : Program} {w : World} {κ : Type} [DecidableEq κ] {knd : KeyKind prog w κ} {A : Around} {E : Value → Shared → Prop} {s : Shared}
noncomputable abbrev fset (led : Bool) : Obj := { cls := .type "set", dict := none, data := .set #[] 0 (.fresh 0 0 led) }
set_option maxHeartbeats 3300000 in
theorem make {l : Addr} {items : Array Value} {val : Nat → κ} {Q : Value → Shared → Prop} (hh : A.handled = none) (hl : s.heap.IsList l items) (hv : ∀ i v, items[i]? = some v → knd.is (val i) v = true ∧ v.scannable = true) (hb : items.size + 1 < scanBound)
    (q : ∀ (h' : Heap) (tk : Nat), h'.SetOf knd s.heap.objs.size (fun x => decide (x ∈ dd val items.size)) (dd val items.size).length → (∀ b o, s.heap.get? b = some o → h'.get? b = some o) → Q (.ref s.heap.objs.size) { s with heap := h', toks := tk }) :
    (wpAny (model prog w) A (call (.type "set") [.ref l]) Q E s) := by
  obtain ⟨c, tl, hmro⟩ := PySem.F.called_set.mro
  have hmade := PySem.F.called_set.made
  have hsub := PySem.F.called_set.sub
  refine wpAny_call (codeAny_of_tree (show wpAny _ _ (callAny (.type "set") _) _ _ _ from ?_))
  refine wpAny_pure ⟨Code.quiet_builtin _ (by decide +kernel), codeAny_builtin PySem.F.entry_type_call ?_⟩
  (rw [Around.under_plain (weight_type_call_type "set" [.ref l] []) rfl])
  have h1 := PySem.F.called_set.notType
  have h2 := PySem.F.called_set.canCreate
  have hct := PySem.F.typeCall_set_1 (.ref l)
  (repeat (any_goals (first | assumption | wp_step)))
  refine codeAny_mono (code_set_new_1 (.ref l) (E := E) (Q₁ := fun ob s1 => ∃ led : Bool, ob = .ref s.heap.objs.size ∧ s1 = { s with heap := s.heap.push { cls := .type "set", dict := none, data := .set #[] 0 (.fresh 0 0 led) } }) fun led => ⟨led, rfl, rfl⟩) fun r s1 hr => ?_
  cases r with
  | error e => exact hr
  | ok fl =>
    cases fl with
    | ret ob =>
      obtain ⟨led, rfl, rfl⟩ := hr
      have hS : (s.heap.push (fset led)).get? s.heap.objs.size = some (fset led) := Heap.get?_push_size _ rfl
      have hT : Shared.TypeIs { s with heap := s.heap.push (fset led) } (.ref s.heap.objs.size) "set" := ⟨_, hS, rfl⟩
      have hli := PySem.F.called_set.init.lookup
      have hbi := PySem.F.called_set.init.bind (.ref s.heap.objs.size)
      (repeat (any_goals (first | assumption | wp_step)))
      refine codeAny_mono (codeAny_call_builtin (R := wants (fun r s2 => r = .none ∧ ∃ h' tk, s2 = { s with heap := h', toks := tk } ∧ h'.SetOf knd s.heap.objs.size (fun x => decide (x ∈ dd val items.size)) (dd val items.size).length ∧
          (∀ b o, s.heap.get? b = some o → h'.get? b = some o)) E) PySem.F.called_set.init.plain PySem.F.entry_set_init (check_set_init_1 hT ?_)) fun r2 s2 hr2 => ?_
      · obtain ⟨⟨ocls, odict, odata, oslots⟩, hol, hcl, nl, hdl⟩ := hl
        simp only at hcl hdl
        subst hcl hdl
        have hol' : (s.heap.push (fset led)).get? l = some { cls := .type "list", dict := odict, data := .seq items nl, slots := oslots } := Heap.get?_push_of_some _ hol
        have x1 := PySem.F.sub_list_set
        have x2 := PySem.F.sub_list_frozenset
        have x3 : (Value.type "list" == Value.type "dict") = false := by decide
        have hl1 : (s.heap.push (fset led)).IsList l items := ⟨_, hol', rfl, nl, rfl⟩
        (unfold Builtin.«set.__init__» noKeywords Builtin.Frozenset.updateFrom)
        generalize hPI : pyIter = PI
        wp_walk
        subst hPI
        (refine wpAny_pyIter_list hl1 ?_)
        (refine wpAny_bind (wpAny_runValue ?_))
        have lt : l < s.heap.objs.size := Heap.lt_size hol
        have sz : (s.heap.push (fset led)).objs.size = s.heap.objs.size + 1 := Heap.size_push ..
        (have hh3 : A.in1.in1.in1.handled = none := by simp [hh])
        have ne1 : l ≠ (s.heap.push (fset led)).objs.size := by rw [sz]; exact Nat.ne_of_lt (Nat.lt_succ_of_lt lt)
        have nS : s.heap.objs.size ∉ [(s.heap.push (fset led)).objs.size, l] := by
          rw [sz]
          simp only [List.mem_cons, List.not_mem_nil, or_false, not_or]
          exact ⟨Nat.ne_of_lt (Nat.lt_succ_self _), Nat.ne_of_gt lt⟩
        refine fill (knd := knd) ((Walks.list hh3 _ l ne1 items).toS) s.heap.objs.size nS val hv hb (items.size - 0) 0 _ (by lia) (Nat.zero_le _) ⟨⟨_, Heap.get?_push_size _ rfl, rfl, rfl⟩, hl1.push _⟩ ?_ fun s3 hm q3 => ?_
        · have g := Heap.get?_push_of_some ({ cls := .type "list_iterator", data := .fields #[.ref l, .int 0 0] } : Obj) hS
          exact congr' ((PyProof.Rows.setObjOf_fresh (knd := knd) led).setOf g (by unfold scanBound; lia)) (fun x => by simp [dd]) rfl
        · obtain ⟨h3, g3, d3, tk3, os3⟩ := s3
          obtain ⟨m1, m2, m3, m4, m5⟩ := hm
          have eg : g3 = s.gens := m2
          have ed : d3 = s.drawn := m3
          have es : os3 = s.os := m4
          subst eg ed es
          refine wpAny_pure (wpAny_pure ⟨rfl, h3, tk3, rfl, q3, fun b o e => m1 b o ?_ (Heap.get?_push_of_some _ (Heap.get?_push_of_some _ e))⟩)
          have lb : b < s.heap.objs.size := Heap.lt_size e
          rw [sz]
          simp only [List.mem_cons, List.not_mem_nil, or_false, not_or]
          exact ⟨Nat.ne_of_lt lb, Nat.ne_of_lt (Nat.lt_succ_of_lt lb)⟩
      · cases r2 with
        | error e => exact hr2
        | ok fl2 =>
          cases fl2 with
          | ret r =>
            obtain ⟨rfl, h', tk, rfl, a1, a2⟩ := hr2
            (repeat (any_goals (first | assumption | wp_step)))
            exact q _ _ a1 a2
          | _ => exact hr2.elim
    | _ => exact hr.elim
end
end SK
namespace L2
open PySem PySem.Spec PyProof.Rows
theorem vals_at : ∀ {xs : List V} {us : List Value}, xs.length = us.length → (∀ (i : Nat) x u, xs[i]? = some x → us[i]? = some u → RelV x u) → Vals xs us
  | [], [], _, _ => .nil
  | [], _ :: _, h, _ => by (simp at h)
  | _ :: _, [], h, _ => by (simp at h)
  | x :: xs, u :: us, h, r => .cons (r 0 x u rfl rfl) (vals_at (by simpa using h) fun i y v hy hv => r (i + 1) y v (by simpa using hy) (by simpa using hv))
theorem KV.get : ∀ {kvs : List (Key × V)} {vs : List (Key × Value)} {i : Nat} {k : Key} {u : Value}, KV kvs vs → vs[i]? = some (k, u) → ∃ v, kvs[i]? = some (k, v) ∧ RelV v u
  | _, _, _, _, _, .nil, e => by simp at e
  | _, _, 0, _, _, .cons (a := p) r _, e => by
    simp at e
    subst e
    obtain ⟨e1, e2⟩ := r
    obtain ⟨p1, p2⟩ := p
    cases e1
    exact ⟨p2, rfl, e2⟩
  | _, _, i + 1, _, _, .cons _ t, e => by
    obtain ⟨v, h1, h2⟩ := KV.get (i := i) t (by simpa using e)
    exact ⟨v, by simpa using h1, h2⟩
section
variable {X : Cx}
theorem call_listD (hc : X.calm = true) : CallR X (.type "list") (fun xs H Q => ∃ p kvs, xs = [.ref p] ∧ Rd H p (.dK kvs) ∧ ∀ l, H l = none → Q (.ref l) (upd H l (.lst (kvs.map fun kv => kV kv.1)))) := by
  intro pins s σ H xs us Q I r h
  obtain ⟨p, kvs, rfl, hp, q⟩ := h
  obtain ⟨u, rfl, ru⟩ := vals1 r
  cases ru
  obtain ⟨hz, hm, vs, hkv, hd⟩ := dk_rd I.hok hp
  obtain ⟨ep, hat⟩ := hd.dictAt
  have hl := hkv.length
  refine PySem.W.kdl_call (PySem.W.kdl_dict (knd := mixKind X.prog X.w) (kvs := vs) (ep := ep) hm) (I.ok.hd hc) hat (by lia) fun h' tk acc c hk hS hacc => ?_
  refine ⟨.ref _, _, I.laid (a := s.heap.objs.size) (o := .lst (kvs.map fun kv => kV kv.1)) hk (Nat.le_refl _) ⟨by rw [List.length_map]; exact hz, acc.toList, c, vals_at ?_ fun i x u hx hu => ?_, hS⟩, rfl, q _ (I.hok.fresh (Nat.le_refl _))⟩
  · have el : acc.toList.length = acc.size := by simp
    rw [List.length_map, el, hacc.1, hl]
  · obtain ⟨k, z, e1, e2⟩ := hacc.2 i u (by simpa using hu)
    obtain ⟨v, e3, _⟩ := KV.get hkv e1
    rw [List.getElem?_map, e3] at hx
    have hx' : x = kV k := (Option.some.inj hx).symm
    subst hx'
    rcases keyIs_shape (show keyIs k u = true from e2) with ⟨j, t, rfl, rfl⟩ | ⟨y, t, rfl, rfl⟩
    · exact ⟨t, rfl⟩
    · exact ⟨t, rfl⟩
theorem call_all (hc : X.calm = true) : CallR X (.builtin "all") (fun xs H Q => ∃ (p : Addr) (bs : List Bool), xs = [.ref p] ∧ SqL X.K H p (bs.map V.bl) ∧ Q (.bl (bs.all fun b => b)) H) := by
  intro pins s σ H xs us Q I r h
  obtain ⟨p, bs, rfl, hp, q⟩ := h
  obtain ⟨u, rfl, ru⟩ := vals1 r
  cases ru
  obtain ⟨its, rv, pl, hz⟩ := I.list hp
  have hlen := rv.length
  rw [List.length_map] at hlen
  have hlt : p < s.heap.objs.size := by
    obtain ⟨o, n, e, _⟩ := pl
    exact Heap.lt_size e
  refine call_all_walk (wpAny_pyIter_list pl.isList ⟨s.heap.objs.size, _, _, _, _, _, fun i => bs.getD i true, rfl, Walks.list (show X.A.in1.handled = none from I.ok.hd hc) _ p (Nat.ne_of_lt hlt) its.toArray, ⟨⟨_, Heap.get?_push_size _ rfl, rfl, rfl⟩, pl.isList.push _⟩, fun i v s2 Q2 E2 hP hQ => ?_, fun h' tk hk => ?_⟩)
  · have hi : its[i]? = some v := by simpa using hP
    have hib : i < bs.length := by
      have := (List.getElem?_eq_some_iff.mp hi).1
      lia
    obtain ⟨u', hu', ru⟩ := rv.get (i := i) (x := .bl bs[i]) (by simp [hib])
    rw [hi] at hu'
    cases hu'
    cases ru
    refine wpAny_truthy_bool ?_
    have e : bs.getD i true = bs[i] := by simp [List.getD, hib]
    rw [← e]
    exact hQ
  · refine ⟨.bl _, H, I.kept (t' := tk) (fun b o e => hk b o ?_ (Heap.get?_push_of_some _ e)), rfl, ?_⟩
    · intro z
      rw [List.mem_singleton] at z
      exact absurd (Heap.lt_size e) (by rw [z]; exact Nat.lt_irrefl _)
    · have e : (List.range its.toArray.size).all (fun i => bs.getD i true) = bs.all fun b => b := by
        rw [List.size_toArray, ← hlen]
        (rw [Bool.eq_iff_iff, List.all_eq_true, List.all_eq_true])
        constructor
        · intro a b hb
          (obtain ⟨i, hi, rfl⟩ := List.getElem_of_mem hb)
          have := a i (List.mem_range.mpr hi)
          simpa [List.getD, hi] using this
        · intro a i hi
          (have hi' := List.mem_range.mp hi)
          have := a bs[i] (List.getElem_mem hi')
          simpa [List.getD, hi'] using this
      rw [e]
      exact q
noncomputable def setO (P : Program) (w : World) (a : Addr) (n : Nat) : HO := .ext fun h => ∃ S, h.SetOf (mixKind P w) a S n
noncomputable def kAt (ks : List Key) (i : Nat) : Key := ks.getD i (.inl 0)
theorem call_setK (hc : X.calm = true) : CallR X (.type "set") (fun xs H Q => ∃ p ks, xs = [.ref p] ∧ SqL X.K H p (ks.map kV) ∧ ks.length ≤ 1000 ∧ ∀ a, H a = none → Q (.ref a) (upd H a (setO X.prog X.w a (SK.dd (kAt ks) ks.length).length))) := by
  intro pins s σ H xs us Q I r h
  obtain ⟨p, ks, rfl, hp, hk, q⟩ := h
  obtain ⟨u, rfl, ru⟩ := vals1 r
  cases ru
  obtain ⟨its, rv, pl, hz⟩ := I.list hp
  have hlen := rv.length
  rw [List.length_map] at hlen
  refine SK.make (knd := mixKind X.prog X.w) (val := kAt ks) (I.ok.hd hc) pl.isList (fun i v hv => ?_) (by rw [List.size_toArray]; unfold scanBound; lia) fun h' tk hS kp => ?_
  · have hi : its[i]? = some v := by simpa using hv
    have hib : i < ks.length := by
      have := (List.getElem?_eq_some_iff.mp hi).1
      lia
    obtain ⟨u', hu', ru⟩ := rv.get (i := i) (x := kV ks[i]) (by simp [hib])
    rw [hi] at hu'
    cases hu'
    have e : kAt ks i = ks[i] := by simp [kAt, List.getD, hib]
    rw [e]
    refine ⟨kV_is ru, ?_⟩
    cases hkk : ks[i] with
    | inl j => rw [hkk] at ru; obtain ⟨t, rfl⟩ := ru; rfl
    | inr y => rw [hkk] at ru; obtain ⟨t, rfl⟩ := ru; rfl
  · have es : its.toArray.size = ks.length := by simp [hlen]
    rw [es] at hS
    refine ⟨.ref _, _, I.laid (a := s.heap.objs.size) (o := setO X.prog X.w s.heap.objs.size (SK.dd (kAt ks) ks.length).length) kp (Nat.le_refl _) ⟨⟨_, hS⟩, ?_, fun h1 h2 f1 e => ?_⟩, rfl, q _ (I.hok.fresh (Nat.le_refl _))⟩
    · obtain ⟨o, _, _, _, e, _⟩ := hS
      exact ⟨o, e⟩
    · obtain ⟨S, z⟩ := f1
      exact ⟨S, SK.kept z e⟩
theorem call_lenS : CallR X (.builtin "len") (fun xs H Q => ∃ a n, xs = [.ref a] ∧ H a = some (setO X.prog X.w a n) ∧ Q (.int n) H) := by
  intro pins s σ H xs us Q I r h
  obtain ⟨a, n, rfl, ha, q⟩ := h
  obtain ⟨u, rfl, ru⟩ := vals1 r
  cases ru
  obtain ⟨⟨S, o, es, ep, t, ho, ex, hd, _, _, hb, hf, hn⟩, _, _⟩ := I.hok a _ ha
  refine call_len_set ho ex hd hf (by unfold scanBound at hb; lia) ⟨.int n, H, I.tok _, ⟨_, by rw [hn]⟩, q⟩
end
noncomputable def Its (x : Str) : It := ⟨fun i _ => i < x.cps.size, fun i H v H' => H' = H ∧ ∃ c, x.cps[i]? = some c ∧ v = .str ⟨#[c]⟩, fun i _ => x.cps.size ≤ i⟩
theorem turn_str {P : Program} {w : World} {K : PySem.W.Frag} {tg : Expr} (it : Addr) (x : Str) (t : Tok) : Turn P w K tg (Its x) [it] it (fun i h => h.IsStrIter it "str_ascii_iterator" x t i) where
  mem := by simp
  obj := fun i h st b hb => by
    have e : b = it := by simpa using hb
    subst e
    obtain ⟨o, e, c, d⟩ := st
    exact ⟨o, e, fun v z => by rw [d] at z; cases z⟩
  keep := fun i h h' st k => by
    obtain ⟨o, e, r⟩ := st
    exact ⟨o, k it (by simp) o e, r⟩
  item := by
    intro X hP hw hK hc i pins s σ H E I hf st hg
    subst hP hw hK
    obtain ⟨f0, f1, f2, f3, f4, f5⟩ := hf it (by simp)
    have hi : i < x.cps.size := hg
    refine wpAny_pyNext_ascii_item st (c := x.cps[i]) (by simp [hi]) fun h' st' sb => ?_
    have I1 : Inv X pins σ H { s with heap := h', toks := s.toks + 1 } := I.turned (fun b o hb e => (sb.2 b hb).trans e) f0 f1 f3 f4 f5
    obtain ⟨o, e, c, d⟩ := id st'
    exact ⟨_, rfl, go_of (s := { s with heap := h', toks := s.toks + 1 }) e c d (by decide) ⟨.str ⟨#[x.cps[i]]⟩, H, I1, ⟨_, rfl⟩, ⟨rfl, _, by simp [hi], rfl⟩, st', fun b hb => (hf b hb).1⟩⟩
  done := by
    intro X hP hw hK hc i pins s σ H E I hf st hg
    subst hP hw hK
    obtain ⟨f0, f1, f2, f3, f4, f5⟩ := hf it (by simp)
    have hi : x.cps.size ≤ i := hg
    exact wpAny_pyNext_ascii_end (I.ok.hd hc) st (by simp [hi]) fun h' eb => ⟨rfl, I.turned (t' := s.toks) (fun b o hb e => eb b o hb e) f0 f1 f3 f4 f5⟩
  self := fun _ _ _ _ _ st h => wpAny_pyIter_striter_ascii st h
noncomputable def iStr (tl : TE) : TI := fun σ H R => tl σ H fun v H1 => ∃ x, v = .str x ∧ x.cps.all (· < 128) = true ∧ R (Its x) H1
theorem pi_str {X : Cx} {tg l : Expr} {tl : TE} (hl : PE X l tl) : PI X tg l (iStr tl) := by
  intro pins s σ H R I h
  refine thn (hl pins s σ H _ I h) fun v s1 hp0 => ?_
  obtain ⟨y, H1, I1, r1, q1⟩ := hp0
  obtain ⟨x, e, ha, q⟩ := q1
  subst e
  obtain ⟨t, rfl⟩ := r1
  refine wpAny_pyIter_ascii ha ⟨s1.heap.objs.size, [s1.heap.objs.size], _, _, H1, rfl, I1.kept (t' := s1.toks) fun b o e => Heap.get?_push_of_some _ e, turn_str _ x t, ⟨_, Heap.get?_push_size _ rfl, rfl, rfl⟩, fun b hb => ?_, q⟩
  have e : b = s1.heap.objs.size := by simpa using hb
  subst e
  exact I1.fpOk (Nat.le_refl _) (I1.hok.fresh (Nat.le_refl _))
end L2
namespace ZN
open PySem PyProof.Rows
end ZN
namespace ZN
open PySem PyProof.Rows
end ZN
namespace L2
open PySem PySem.Spec PyProof.Rows
end L2
namespace L2
open PySem PySem.Spec PyProof.Rows
theorem KV.get2 : ∀ {kvs : List (Key × V)} {vs : List (Key × Value)} {i : Nat} {k : Key} {v : V}, KV kvs vs → kvs[i]? = some (k, v) → ∃ u, vs[i]? = some (k, u) ∧ RelV v u
  | _, _, _, _, _, .nil, e => by simp at e
  | _, _, 0, _, _, .cons (b := p) r _, e => by
    simp at e
    subst e
    obtain ⟨e1, e2⟩ := r
    obtain ⟨p1, p2⟩ := p
    cases e1
    exact ⟨p2, rfl, e2⟩
  | _, _, i + 1, _, _, .cons _ t, e => by
    obtain ⟨v, h1, h2⟩ := KV.get2 (i := i) t (by simpa using e)
    exact ⟨v, by simpa using h1, h2⟩
noncomputable def viewO (v a : Addr) : HO := .ext fun h => h.IsValuesView v a
section
variable {X : Cx}
theorem mt_values : MtR X "dict.values" (fun x xs H Q => ∃ a kvs, x = .ref a ∧ xs = [] ∧ H a = some (.dK kvs) ∧ ∀ v, H v = none → Q (.ref v) (upd H v (viewO v a))) := by
  intro pins s σ H x xs v us Q I rx rv h
  obtain ⟨a, kvs, rfl, rfl, ha, q⟩ := h
  cases rx
  cases rv
  obtain ⟨hz, hm, vs, hkv, hd⟩ := dk_of I.hok ha
  refine call_meetsIn PySem.F.slot_dict_values hd.typeIs PySem.F.entry_dict_values (PySem.F.args_dict_values_1 _) (meets_dict_values (mixKind X.prog X.w) a hm) ⟨⟨vs, hd⟩, ?_⟩
  refine ⟨.ref s.heap.objs.size, _, I.laid (t' := s.toks) (o := viewO s.heap.objs.size a) (fun b o e => Heap.get?_push_of_some _ e) (Nat.le_refl _) ⟨⟨_, Heap.get?_push_size _ rfl, rfl, rfl⟩, ⟨_, Heap.get?_push_size _ rfl⟩, fun h1 h2 f e => ?_⟩, rfl, q _ (I.hok.fresh (Nat.le_refl _))⟩
  obtain ⟨o, ho, r⟩ := f
  exact ⟨o, e o ho, r⟩
theorem Inv.freeze {pins : List (Addr × Obj)} {σ : St} {H : Hp} {s : Shared} {a : Addr} {kvs : List (Key × V)} {o : Obj} (I : Inv X pins σ H s) (ha : H a = some (.dK kvs)) (ho : s.heap.get? a = some o) : Inv X pins σ (upd H a (.frz o (.dK kvs))) s := by
  have hne : ∀ b, H b = none → b ≠ a := fun b e z => by rw [z, ha] at e; cases e
  have keep : ∀ b u, H b = some u → u ≠ .dK kvs → upd H a (.frz o (.dK kvs)) b = some u := fun b u e d => by rw [upd_ne (ne_of e ha d)]; exact e
  have st : Inv X pins σ (upd H a (.frz o (.dK kvs))) { s with heap := s.heap, gens := s.gens, drawn := s.drawn, toks := s.toks } := by
    refine I.step (g' := s.gens) (t' := s.toks) (d' := s.drawn) (ch := []) (fun b hb => nomatch hb) (fun b o _ _ _ e _ => e) (fun b o _ _ _ e _ => ⟨o.slots, e⟩) (fun b o _ e n => by rw [upd_ne (hne b n)]; exact n) (fun b o _ e => ⟨o, e⟩)
      (fun b xs e => keep b _ e (by intro z; cases z)) (fun b o u e => keep b _ e (by intro z; cases z)) (fun b ps e => ⟨#[], by rw [keep b _ e (by intro z; cases z)]; simp⟩) (fun m hm => hm) (fun b u e => ?_) I.bare
    by_cases hb : b = a
    · subst hb
      rw [upd_same] at e
      cases e
      exact ⟨ho, I.hok _ _ ha⟩
    · rw [upd_ne hb] at e
      exact (I.hok b u e).stay (fun c v _ q => q) (fun c q => keep c _ q (by intro z; cases z)) fun c xs q => keep c _ q (by intro z; cases z)
  exact st
end
noncomputable def Itv (a : Addr) (o : Obj) (kvs : List (Key × V)) : It :=
  ⟨fun i H => i < kvs.length ∧ H a = some (.frz o (.dK kvs)), fun i H x H' => H' = H ∧ ∃ k, kvs[i]? = some (k, x), fun i H => kvs.length ≤ i ∧ H a = some (.frz o (.dK kvs))⟩
theorem dict_at {X : Cx} {pins : List (Addr × Obj)} {σ : St} {H : Hp} {s : Shared} {a : Addr} {o : Obj} {kvs : List (Key × V)} {es : Array DictEntry} {ep : Nat} (I : Inv X pins σ H s) (ha : H a = some (.frz o (.dK kvs))) (hd : o.data = .dict es ep) :
    ∃ vs, KV kvs vs ∧ s.heap.DictAt (mixKind X.prog X.w) a vs ep := by
  obtain ⟨ho, hz, hm, vs, hkv, o', es', ep', ho', ex, hd', r⟩ := I.hok a _ ha
  rw [ho] at ho'
  cases ho'
  rw [hd] at hd'
  cases hd'
  exact ⟨vs, hkv, o, es, ho, ex, hd, r⟩
theorem turn_vals {P : Program} {w : World} {K : PySem.W.Frag} {tg : Expr} (it a : Addr) (o : Obj) (kvs : List (Key × V)) (es : Array DictEntry) (ep : Nat) (hd : o.data = .dict es ep) :
    Turn P w K tg (Itv a o kvs) [it] it (fun i h => h.IsValIter it a i kvs.length ep) where
  mem := by simp
  obj := fun i h st b hb => by
    have e : b = it := by simpa using hb
    subst e
    obtain ⟨o, e, c, d⟩ := st
    exact ⟨o, e, fun v z => by rw [d] at z; cases z⟩
  keep := fun i h h' st k => by
    obtain ⟨o, e, r⟩ := st
    exact ⟨o, k it (by simp) o e, r⟩
  item := by
    intro X hP hw hK hc i pins s σ H E I hf st hg
    subst hP hw hK
    obtain ⟨f0, f1, f2, f3, f4, f5⟩ := hf it (by simp)
    obtain ⟨hi, ha⟩ := hg
    obtain ⟨vs, hkv, hat⟩ := dict_at I ha hd
    have hl := hkv.length
    have hx : kvs[i]? = some (kvs[i].1, kvs[i].2) := List.getElem?_eq_getElem hi
    obtain ⟨u, hu, ru⟩ := KV.get2 hkv hx
    rw [hl] at st
    refine wpAny_pyNext_values_item (knd := mixKind X.prog X.w) st hat hu fun h' st' sb => ?_
    have I1 : Inv X pins σ H { s with heap := h' } := I.turned (t' := s.toks) (fun b o hb e => (sb.2 b hb).trans e) f0 f1 f3 f4 f5
    obtain ⟨o', e, c, d⟩ := id st'
    rw [← hl] at st'
    exact ⟨u, rfl, go_of (s := { s with heap := h' }) e c d (by decide) ⟨kvs[i].2, H, I1, ru, ⟨rfl, _, hx⟩, st', fun b hb => (hf b hb).1⟩⟩
  done := by
    intro X hP hw hK hc i pins s σ H E I hf st hg
    subst hP hw hK
    obtain ⟨f0, f1, f2, f3, f4, f5⟩ := hf it (by simp)
    obtain ⟨hi, ha⟩ := hg
    obtain ⟨vs, hkv, hat⟩ := dict_at I ha hd
    have hl := hkv.length
    rw [hl] at st
    exact wpAny_pyNext_values_end (knd := mixKind X.prog X.w) (I.ok.hd hc) st hat (List.getElem?_eq_none (by lia)) fun h' eb => ⟨rfl, I.turned (t' := s.toks) (fun b o hb e => eb b o hb e) f0 f1 f3 f4 f5⟩
  self := fun _ _ _ _ _ st h => wpAny_pyIter_valiter st h
noncomputable def iVals (tl : TE) : TI := fun σ H R => tl σ H fun x H1 => ∃ v a kvs, x = .ref v ∧ H1 v = some (viewO v a) ∧ H1 a = some (.dK kvs) ∧ ∀ o, R (Itv a o kvs) (upd H1 a (.frz o (.dK kvs)))
theorem pi_vals {X : Cx} {tg l : Expr} {tl : TE} (hl : PE X l tl) : PI X tg l (iVals tl) := by
  intro pins s σ H R I h
  refine thn (hl pins s σ H _ I h) fun u s1 hp0 => ?_
  obtain ⟨x, H1, I1, r1, q1⟩ := hp0
  obtain ⟨v, a, kvs, rfl, hv, ha, q⟩ := q1
  cases r1
  obtain ⟨hz, hm, vs, hkv, o, es, ep, ho, ex, hd, r⟩ := dk_of I1.hok ha
  have hat : s1.heap.DictAt (mixKind X.prog X.w) a vs ep := ⟨o, es, ho, ex, hd, r⟩
  obtain ⟨view, _, _⟩ := I1.hok v _ hv
  have hl' := hkv.length
  refine wpAny_pyIter_values (knd := mixKind X.prog X.w) view hat ⟨s1.heap.objs.size, [s1.heap.objs.size], _, _, upd H1 a (.frz o (.dK kvs)), rfl, (I1.freeze ha ho).kept (t' := s1.toks) (fun b o e => Heap.get?_push_of_some _ e), turn_vals _ a o kvs es ep hd, ⟨_, Heap.get?_push_size _ rfl, rfl, by rw [hl'] <;> rfl⟩, fun b hb => ?_, q o⟩
  have e : b = s1.heap.objs.size := by simpa using hb
  subst e
  exact (I1.freeze ha ho).fpOk (Nat.le_refl _) ((I1.freeze ha ho).hok.fresh (Nat.le_refl _))
noncomputable def RdK (K : PySem.W.Frag) (v : V) (d : PyData) : Prop := ∀ (h : Heap) (u : Value), K.In h → RelV v u → ∃ as, Reads h u d as
noncomputable def absAll : List Value → Option (List V)
  | [] => some []
  | u :: r => match absV u, absAll r with
    | some v, some vs => some (v :: vs)
    | _, _ => none
theorem rel_abs {u : Value} {v : V} (h : absV u = some v) : RelV v u := by
  cases u with
  | none => cases h; rfl
  | bool b => cases h; rfl
  | int i t => cases h; exact ⟨t, rfl⟩
  | str x t => cases h; exact ⟨t, rfl⟩
  | bytes b t => cases h; exact ⟨t, rfl⟩
  | float b t => cases h; exact ⟨t, rfl⟩
  | ref a => cases h; rfl
  | type n => cases h; rfl
  | _ => cases h
theorem vals_abs : ∀ {us : List Value} {vs : List V}, absAll us = some vs → Vals vs us
  | [], _, h => by cases h; exact .nil
  | u :: r, vs, h => by
    unfold absAll at h
    cases e1 : absV u with
    | none => rw [e1] at h; cases h
    | some v =>
      cases e2 : absAll r with
      | none => rw [e1, e2] at h; cases h
      | some ws =>
        rw [e1, e2] at h
        cases h
        exact .cons (rel_abs e1) (vals_abs e2)
noncomputable def flatD : V → Option PyData
  | .non => some .none
  | .int i => some (.int i)
  | .str x => some (.str x)
  | _ => none
theorem reads_flat {h : Heap} {v : V} {d : PyData} {u : Value} (e : flatD v = some d) (r : RelV v u) : ∃ as, Reads h u d as := by
  cases v with
  | non => cases e; cases r; exact ⟨_, .none⟩
  | int i => cases e; obtain ⟨t, rfl⟩ := r; exact ⟨_, .int i t⟩
  | str x => cases e; obtain ⟨t, rfl⟩ := r; exact ⟨_, .str x t⟩
  | _ => cases e
theorem reads_all {h : Heap} : ∀ {vs : List V} {ds : List PyData} {us : List Value}, Vals vs us → Paired (fun v d => ∀ u, RelV v u → ∃ as, Reads h u d as) vs ds → ∃ as, ReadsAll h us ds as
  | _, _, _, .nil, .nil => ⟨_, .nil⟩
  | _, _, _, .cons r1 r2, .cons p1 p2 => by
    obtain ⟨as, a⟩ := p1 _ r1
    obtain ⟨bs, b⟩ := reads_all r2 p2
    exact ⟨_, .cons a b⟩
theorem rdK_tup {K : PySem.W.Frag} {a : Addr} {od : Option Addr} {its : Array Value} {n : Nat} {sl : Array (Option Value)} {vs : List V} {ds : List PyData} (l : K.lookup a = some ⟨.type "tuple", od, .seq its n, sl⟩) (ab : absAll its.toList = some vs) (r : Paired (RdK K) vs ds) : RdK K (.ref a) (.tuple ds) := by
  intro h u kin ru
  cases ru
  have go : ∀ {vs : List V} {ds : List PyData}, Paired (RdK K) vs ds → Paired (fun v d => ∀ u, RelV v u → ∃ as, Reads h u d as) vs ds := by
    intro vs ds p
    induction p with
    | nil => exact .nil
    | cons a _ ih => exact .cons (fun u ru => a h u kin ru) ih
  obtain ⟨as, q⟩ := reads_all (h := h) (vals_abs ab) (go r)
  exact ⟨as, .tuple (kin a _ l) rfl rfl q⟩
theorem rdK_flat {K : PySem.W.Frag} {v : V} {d : PyData} (e : flatD v = some d) : RdK K v d := fun _ _ _ r => reads_flat e r
section
variable {X : Cx}
noncomputable def rNotInD (K : PySem.W.Frag) : R2 := fun x y H Q => ∃ d ds, RdV H x d ∧ RdK K y (.tuple ds) ∧ PySem.SeqAt.shaped d = true ∧ PySem.SeqAt.shaped (PyData.tuple ds) = true ∧ Q (.bl (!ds.any fun e => PyData.eqv e d)) H
theorem op_notinD (hu : X.A.units + 65 < cLine) : OpR X (compareOp .NotIn) (rNotInD X.K) := by
  intro pins s σ H x y v u Q I rx ry h
  obtain ⟨d, ds, r1, r2, h1, h2, q⟩ := h
  obtain ⟨as, a⟩ := r1.reads I.hok rx
  obtain ⟨bs, b⟩ := r2 s.heap u I.kIn ry
  exact PySem.SeqAt.notIn_tuple_reads b a (PySem.SeqAt.canLay_of_shaped h2) (PySem.SeqAt.canLay_of_shaped h1) (room_in_shaped h1 hu) ⟨.bl _, H, I, rfl, q⟩
end
theorem bt_list : bootBuiltins "list" = some (.type "list") := by decide +kernel
theorem bt_set : bootBuiltins "set" = some (.type "set") := by decide +kernel
theorem bt_all : bootBuiltins "all" = some (.builtin "all") := by decide +kernel
end L2
namespace ZN
open PySem PyProof.Rows
end ZN
namespace L2
open PySem PySem.Spec PyProof.Rows
end L2
namespace ZN
open PySem PyProof.Rows
end ZN
namespace L2
open PySem PySem.Spec PyProof.Rows
section
variable {X : Cx}
theorem call_isiT : CallR X (.builtin "isinstance") (fun xs H Q => ∃ a ys, xs = [.ref a, .ty "tuple"] ∧ H a = some (.tup ys) ∧ Q (.bl true) H) := by
  intro pins s σ H xs us Q I r h
  obtain ⟨a, ys, rfl, ha, q⟩ := h
  obtain ⟨u1, u2, rfl, r1, r2⟩ := vals2 r
  cases r1
  cases r2
  obtain ⟨z2, its2, r2, o, ho, hc, n2, hd⟩ := I.hok a _ ha
  exact PySem.IsiPair.tuple_tuple ho hc ⟨.bl true, H, I, rfl, q⟩
end
end L2
namespace L2
open PySem PySem.Spec PyProof.Rows
theorem sl_listK {X : Cx} (K : PySem.W.Frag) (h : X.K = K) : SlR X (rSlL K) := by
  subst h
  exact sl_list
theorem cut_from {xs : List V} {k : Nat} (h : k ≤ xs.length) : cutV xs (some ((k : Nat) : Int)) none = xs.drop k := by
  unfold cutV
  rw [HT.sIx_none, HT.sIx_nat, Nat.min_eq_left h]
  refine List.take_of_length_le ?_
  rw [List.length_drop]
  exact Nat.le_refl _
end L2
namespace L2
open PySem PySem.Spec PyProof.Rows PySem.W
end L2
namespace L2
open PySem PySem.Spec PyProof.Rows PySem.W
end L2
namespace L2
open PySem PySem.Spec PyProof.Rows PySem.W
section
variable {X : Cx}
theorem call_isiL : CallR X (.builtin "isinstance") (fun xs H Q => ∃ a ys, xs = [.ref a, .ty "list"] ∧ H a = some (.lst ys) ∧ Q (.bl true) H) := by
  intro pins s σ H xs us Q I r h
  obtain ⟨a, ys, rfl, ha, q⟩ := h
  obtain ⟨u1, u2, rfl, r1, r2⟩ := vals2 r
  cases r1
  cases r2
  obtain ⟨z2, its2, n2, r2, ho⟩ := I.hok a _ ha
  exact PySem.IsiPair.list_list ho rfl ⟨.bl true, H, I, rfl, q⟩
end
end L2
namespace L2
open PySem PySem.Spec PyProof.Rows
section
variable {X : Cx}
theorem mt_index : MtR X "list.index" (fun x xs H Q => ∃ (l : Addr) (ys : List Str) (y : Str) (j : Nat), x = .ref l ∧ xs = [.str y] ∧ H l = some (.lst (ys.map V.str)) ∧ ys[j]? = some y ∧ (∀ m, m < j → ys[m]? ≠ some y) ∧ Q (.int (j : Int)) H) := by
  intro pins s σ H x xs v us Q I rx rv h
  obtain ⟨l, ys, y, j, rfl, rfl, hH, hj, hno, q⟩ := h
  cases rx
  obtain ⟨u, rfl, ru⟩ := rv.one
  obtain ⟨z, its, n, r, hl, e⟩ := I.lstM hH
  rw [List.length_map] at hl z
  have hs : sizeLine = 16777216 := sizeLine_eq
  have key : ∀ (m : Nat) (y' : Str) (hm : m < its.toArray.size), ys[m]? = some y' → eqU (.str y) its.toArray[m] = (y' == y) := fun m y' hm e1 => by
    obtain ⟨u', e2, r2⟩ := r.get (i := m) (x := .str y') (by rw [List.getElem?_map, e1]; rfl)
    have e3 : its.toArray[m] = u' := by
      obtain ⟨_, h⟩ := List.getElem?_eq_some_iff.mp e2
      simpa using h
    rw [e3, eqU_of r2 rfl]
    rfl
  have hjl : j < ys.length := (List.getElem?_eq_some_iff.mp hj).1
  refine call_meets PySem.F.slot_list_index ⟨_, e, rfl⟩ PySem.F.entry_list_index (PySem.F.args_list_index_2 _ _) (PySem.SeqAt.list_indexAt l its.toArray n none #[] u (eqU (.str y)) j (by rw [List.size_toArray]; lia) (by lia) ?_ ?_) ⟨e, fun w hw => mem_eqAt ru rfl r (Rk.flat_strs ys) w (by simpa using hw), ?_⟩
  · rw [key j y _ hj]
    exact beq_self_eq_true y
  · intro m hm hlt
    have hm' : m < ys.length := by lia
    rw [key m ys[m] hm (List.getElem?_eq_getElem hm')]
    have hne := hno m hlt
    rw [List.getElem?_eq_getElem hm'] at hne
    exact beq_eq_false_iff_ne.mpr fun z => hne (by rw [z])
  · exact ⟨.int (j : Int), H, I.tok _, ⟨_, rfl⟩, q⟩
theorem at_last {α : Type} {xs : List α} {v : α} (h : xs.getLast? = some v) : atI xs (-1) = some v := by
  obtain ⟨ys, rfl⟩ := List.getLast?_eq_some_iff.mp h
  exact atI_last ys v
theorem iteS {A B : Prop} {x y : Str} (h : x = y) (a : A) : if decide (V.str x = V.str y) = true then A else B := by
  rw [decide_eq_true (by rw [h])]
  exact a
theorem iteN {A B : Prop} {x y : Str} (h : ¬ x = y) (b : B) : if decide (V.str x = V.str y) = true then A else B := by
  rw [decide_eq_false (fun z => h (V.str.inj z))]
  exact b
theorem iteNS' {A B : Prop} {x y : Str} (h : x = y) (b : B) : if (!decide (V.str x = V.str y)) = true then A else B := by
  rw [decide_eq_true (by rw [h])]
  exact b
theorem iteNN {A B : Prop} {x y : Str} (h : ¬ x = y) (a : A) : if (!decide (V.str x = V.str y)) = true then A else B := by
  rw [decide_eq_false (fun z => h (V.str.inj z))]
  exact a
theorem dec_s (x y : Str) : decide (V.str x = V.str y) = decide (x = y) := by
  by_cases h : x = y
  · rw [decide_eq_true h, decide_eq_true (by rw [h])]
  · rw [decide_eq_false h, decide_eq_false (fun z => h (V.str.inj z))]
end
end L2
namespace L2
open PySem PySem.Spec PyProof.Rows
section
variable {X : Cx}
theorem op_in_seqK (K : PySem.W.Frag) (h : X.K = K) : OpR X (compareOp .In) (rIn K false) := by
  subst h
  exact op_in_seq
theorem lst_new {Q : Hp → Prop} {H : Hp} {l : Addr} (ys : List Str) (xs : List V) (hx : xs = ys.map V.str) (hl : H l = none) (h : ∀ H', Same H H' → H' l = some (.lst (ys.map V.str)) → Q H') : Q (upd H l (.lst xs)) := by
  subst hx
  exact h _ (Same.new hl) upd_same
end
end L2
namespace L2
open PySem PySem.Spec PyProof.Rows
noncomputable def KD (P : Program) (w : World) (K : PySem.W.Frag) (a : Addr) (kvs : List (Key × V)) : Prop :=
  (a == sysModules) = false ∧ ∀ h : Heap, K.In h → ∃ vs, KV kvs vs ∧ h.DictOf (mixKind P w) a vs
section
variable {X : Cx} {pins : List (Addr × Obj)} {σ : St} {H : Hp} {s : Shared} {a : Addr} {kvs : List (Key × V)} {k : Key} {u : Value} {A : Around} {E : Value → Shared → Prop}
theorem k_in {Q : Value → Shared → Prop} (I : Inv X pins σ H s) (g : KD X.prog X.w X.K a kvs) (ry : RelV (kV k) u) (h : ∀ s', Inv X pins σ H s' → Q (.bool (valV kvs k).isSome) s') :
    wpAny (model X.prog X.w) A (compareOp .In u (.ref a)) Q E s := by
  obtain ⟨vs, rel, dd⟩ := g.2 _ I.kIn
  refine wpAny_in_of (kV_is ry) g.1 dd.mapOf ?_
  rw [← (rel.val k).isSome_eq]
  exact h _ (I.tok _)
theorem k_get1 {Q : Value → Shared → Prop} (I : Inv X pins σ H s) (g : KD X.prog X.w X.K a kvs) (ry : RelV (kV k) u) (h : ∀ w' s', Inv X pins σ H s' → RelV ((valV kvs k).getD .non) w' → Q w' s') :
    wpAny (model X.prog X.w) A (call (.builtin "dict.get") [.ref a, u]) Q E s := by
  obtain ⟨vs, rel, dd⟩ := g.2 _ I.kIn
  refine call_meetsIn PySem.F.slot_dict_get dd.typeIs PySem.F.entry_dict_get (PySem.F.args_dict_get_2 _ _) (meets_dict_get (mixKind X.prog X.w) a (kV_is ry) g.1) ⟨_, dd.mapOf, h _ _ (I.tok _) ?_⟩
  exact (rel.val k).getD rfl
end
noncomputable def tKIn (P : Program) (w : World) (K : PySem.W.Frag) (ty td : TE) : TE := fun σ H Q => ty σ H fun y H1 => td σ H1 fun x H2 => ∃ a kvs k, x = .ref a ∧ KD P w K a kvs ∧ y = kV k ∧ Q (.bl (valV kvs k).isSome) H2
noncomputable def tKGet1 (P : Program) (w : World) (K : PySem.W.Frag) (td ty : TE) : TE := fun σ H Q => td σ H fun x H1 => ∃ a kvs, x = .ref a ∧ KD P w K a kvs ∧ ty σ H1 fun y H2 => ∃ k, y = kV k ∧ Q ((valV kvs k).getD .non) H2
section
variable {X : Cx} {o i e : Expr} {pos apos cpos : Pos} {td ty : TE}
theorem pc_kin (hi : PE X i ty) (ho : PE X o td) : PC X .In i o (tKIn X.prog X.w X.K ty td) := by
  intro pins s σ H Q I h
  refine thn (hi pins s σ H _ I h) fun iv s1 hp0 => ?_
  obtain ⟨y, H1, I1, ry, q1⟩ := hp0
  refine thn (ho pins s1 σ H1 _ I1 q1) fun u s2 hp1 => ?_
  obtain ⟨x, H2, I2, rx, a, kvs, k, ex, g, ey, q2⟩ := hp1
  subst ex ey
  obtain rfl : u = Value.ref a := rx
  exact k_in I2 g ry fun s3 I3 => ⟨.bl (valV kvs k).isSome, H2, I3, rfl, q2⟩
theorem pe_kget1 (ho : PE X o td) (he : PE X e ty) (m : M1 X o "get" apos e cpos) : PE X (.Call (.Attribute o "get" apos) [e] [] cpos) (tKGet1 X.prog X.w X.K td ty) := by
  intro pins s σ H Q I h
  refine wpAny_Call_method m.base m.few m.line PySem.F.plainAttrs_dict PySem.F.slot_dict_get PySem.F.type_dict_get (thn (ho pins s σ H _ I h) fun u s1 hp0 => ?_)
  obtain ⟨x, H1, I1, rx, a, kvs, ex, g, q1⟩ := hp0
  subst ex
  obtain rfl : u = Value.ref a := rx
  obtain ⟨vs, rel, dd⟩ := g.2 _ I1.kIn
  obtain ⟨ob, es, ep, h1, h2, h3⟩ := dd
  refine ⟨⟨ob, h1, h2.1⟩, fun b q => ?_, ?_⟩
  · cases q
    exact ⟨ob, h1, h2.2.1⟩
  rw [m.trees]
  refine Calls.callWith_builtin rfl (Calls.evalArgs_plain (Calls.spliced_cons (thn (he pins s1 σ H1 _ I1 q1) fun iv s2 hp0 => ?_)))
  obtain ⟨y, H2, I2, ry, k, ey, q2⟩ := hp0
  refine Calls.spliced_nil ?_
  subst ey
  exact k_get1 I2 g ry fun w' s3 I3 rw' => ⟨_, H2, I3, rw', q2⟩
end
def keyOf : Value → Option Key
  | .int i _ => some (.inl i)
  | .str x _ => some (.inr x)
  | _ => none
def dAbs : List DictEntry → Option (List (Key × V))
  | [] => some []
  | e :: r => match keyOf e.key, absV e.val, dAbs r with
    | some k, some v, some kvs => some ((k, v) :: kvs)
    | _, _, _ => none
theorem keyOf_is {v : Value} {k : Key} (h : keyOf v = some k) : keyIs k v = true := by
  cases v with
  | int i t => cases h; exact keyIs_int i t
  | str x t => cases h; exact keyIs_str x t
  | _ => cases h
theorem dAbs_cons {e : DictEntry} {r : List DictEntry} {l : List (Key × V)} (h : dAbs (e :: r) = some l) : ∃ k v kvs, keyOf e.key = some k ∧ absV e.val = some v ∧ dAbs r = some kvs ∧ l = (k, v) :: kvs := by
  unfold dAbs at h
  cases e1 : keyOf e.key with
  | none => rw [e1] at h; cases h
  | some k =>
    cases e2 : absV e.val with
    | none => rw [e1, e2] at h; cases h
    | some v =>
      cases e3 : dAbs r with
      | none => rw [e1, e2, e3] at h; cases h
      | some kvs =>
        rw [e1, e2, e3] at h
        cases h
        exact ⟨k, v, kvs, rfl, rfl, rfl, rfl⟩
theorem dAbs_pairs {P : Program} {w : World} : ∀ {es : List DictEntry} {kvs : List (Key × V)}, dAbs es = some kvs → ∃ vs, KV kvs vs ∧ Pairs (mixKind P w) es vs ∧ vs.map (·.1) = kvs.map (·.1)
  | [], _, h => by cases h; exact ⟨[], .nil, .nil, rfl⟩
  | e :: r, l, h => by
    obtain ⟨k, v, kvs, h1, h2, h3, rfl⟩ := dAbs_cons h
    obtain ⟨vs, a, b, c⟩ := dAbs_pairs (P := P) (w := w) h3
    exact ⟨(k, e.val) :: vs, .cons ⟨rfl, rel_abs h2⟩ a, .cons (keyOf_is h1) rfl b, by rw [List.map_cons, List.map_cons, c]⟩
theorem dAbs_keys {P : Program} {w : World} : ∀ {es : List DictEntry} {kvs : List (Key × V)}, dAbs es = some kvs → es.map (·.hash) = kvs.map (fun kv => keyH w kv.1) → ∀ e ∈ es, ∃ k, (mixKind P w).is k e.key = true ∧ e.hash = (mixKind P w).hash k
  | [], _, _, _ => fun e he => nomatch he
  | e :: r, l, h, hh => fun e' he => by
    obtain ⟨k, v, kvs, h1, h2, h3, rfl⟩ := dAbs_cons h
    rw [List.map_cons, List.map_cons] at hh
    obtain ⟨hh1, hh2⟩ := List.cons.inj hh
    rcases List.mem_cons.mp he with z | z
    · subst z
      exact ⟨k, keyOf_is h1, hh1⟩
    · exact dAbs_keys h3 hh2 e' z
theorem kd_of {P : Program} {w : World} {K : PySem.W.Frag} {a : Addr} {es : Array DictEntry} {ep : Nat} {kvs : List (Key × V)} (l : K.lookup a = some ⟨.type "dict", none, .dict es ep, #[]⟩) (hs : (a == sysModules) = false) (c : dAbs es.toList = some kvs)
    (hh : es.toList.map (·.hash) = kvs.map (fun kv => keyH w kv.1)) (nd : (kvs.map (·.1)).Nodup) : KD P w K a kvs := by
  refine ⟨hs, fun h In => ?_⟩
  obtain ⟨vs, h1, h2, h3⟩ := dAbs_pairs (P := P) (w := w) c
  refine ⟨vs, h1, _, es, ep, In _ _ l, ⟨rfl, rfl, rfl⟩, rfl, fun e he => dAbs_keys c hh e (by simpa using he), h2, by rw [h3]; exact nd⟩
end L2
namespace SK
end SK
namespace L2
open PySem
theorem set_len {ps : List Str} (h : ps.Nodup) : (SK.dd (kAt (ps.map (Sum.inr : Str → Key))) (ps.map (Sum.inr : Str → Key)).length).length = ps.length := by
  have hk : (ps.map (Sum.inr : Str → Key)).length = ps.length := List.length_map ..
  rw [SK.dd_full (n := ps.length) (fun i j hi hj e => ?_) _ (by lia), hk]
  have ei : kAt (ps.map (Sum.inr : Str → Key)) i = Sum.inr ps[i] := by simp [kAt, List.getD, hi]
  have ej : kAt (ps.map (Sum.inr : Str → Key)) j = Sum.inr ps[j] := by simp [kAt, List.getD, hj]
  rw [ei, ej] at e
  exact (List.getElem_inj h).mp (Sum.inr.inj e)
theorem catA_any {K : PySem.W.Frag} {H : Hp} {a b : Addr} {xs ys : List V} {Q : VK} (ha : H a = some (.tup xs)) (hb : H b = some (.tup ys)) (hz : xs.length + ys.length ≤ sizeLine) (h : ∀ (t : Addr) (H' : Hp), Same H H' → H' t = some (.tup (xs ++ ys)) → Q (.ref t) H') : rCatA K (.ref a) (.ref b) H Q := by
  refine ⟨a, b, xs, ys, rfl, rfl, SqT.of ha, SqT.of hb, hz, fun e => ?_, fun _ e => ?_, fun _ _ p hp => ?_⟩
  · subst e
    exact h b H (Same.refl _) hb
  · subst e
    exact h a H (Same.refl _) (by rw [List.append_nil]; exact ha)
  · exact h p _ (Same.new hp) upd_same
end L2
namespace HT
open PySem PySem.Spec PyProof.Rows
end HT
namespace L2
open PySem PySem.Spec PyProof.Rows
section
variable {X : Cx}
theorem rd_listD {P : Program} {w : World} {H : Hp} {h : Heap} (ok : HOk P w H h) {a : Addr} {us : List V} {ds : List PyData} (e : H a = some (.lst us)) (r : RdVs H us ds) : ∃ as, Reads h (.ref a) (.list ds) as := by
  obtain ⟨z, its, n, rv, ho⟩ := ok a _ e
  obtain ⟨as, ra⟩ := RdVs.reads ok r rv
  exact ⟨_, .list ho rfl rfl (by simpa using ra)⟩
noncomputable def rInD (neg : Bool) : R2 := fun x y H Q => ∃ (a : Addr) (us : List V) (d : PyData) (ds : List PyData), y = .ref a ∧ H a = some (.lst us) ∧ RdVs H us ds ∧ RdV H x d ∧ PySem.SeqAt.shaped d = true ∧ PySem.SeqAt.shaped (PyData.list ds) = true ∧ Q (.bl (neg ^^ (ds.any fun e => PyData.eqv e d))) H
theorem op_inD (hu : X.A.units + 65 < cLine) : OpR X (compareOp .In) (rInD false) := by
  intro pins s σ H x y v u Q I rx ry h
  obtain ⟨a, us, d, ds, rfl, ha, rs, rd, h1, h2, q⟩ := h
  cases ry
  obtain ⟨as, ra⟩ := rd_listD I.hok ha rs
  obtain ⟨bs, rb⟩ := rd.reads I.hok rx
  refine PySem.SeqAt.in_list_reads ra rb (PySem.SeqAt.canLay_of_shaped h2) (PySem.SeqAt.canLay_of_shaped h1) (room_in_shaped h1 hu) ⟨.bl _, H, I, rfl, ?_⟩
  simpa using q
theorem op_notInD' (hu : X.A.units + 65 < cLine) : OpR X (compareOp .NotIn) (rInD true) := by
  intro pins s σ H x y v u Q I rx ry h
  obtain ⟨a, us, d, ds, rfl, ha, rs, rd, h1, h2, q⟩ := h
  cases ry
  obtain ⟨as, ra⟩ := rd_listD I.hok ha rs
  obtain ⟨bs, rb⟩ := rd.reads I.hok rx
  refine PySem.SeqAt.notIn_list_reads ra rb (PySem.SeqAt.canLay_of_shaped h2) (PySem.SeqAt.canLay_of_shaped h1) (room_in_shaped h1 hu) ⟨.bl _, H, I, rfl, ?_⟩
  simpa using q
end
end L2
namespace ZT
open PySem PyProof.Rows
end ZT
namespace F17
open PySem
end F17
namespace L2
open PySem PySem.Spec PyProof.Rows
end L2
namespace RT
open PySem PyProof.Rows
theorem owner_rev : Manifest.owners.lookup (String.ofList ['d', 'e', 's', 'r', 'e', 'v', 'e', 'r'].reverse) = some Manifest.sig_reversed := by kernel_rfl
theorem slot_next : Slot "reversed" "__next__" "reversed.__next__" := .of (owner := "reversed") (n := "__next__") (by rw [typeLookup_type, builtinLookup_eq_fast]; kernel_rfl) (by decide +kernel) (by decide +kernel) (by decide +kernel) (by first | exact .inl (by decide +kernel) | exact .inr (by decide +kernel)) (by rw [isSubtype_type]; kernel_rfl)
theorem entry_next : entryFor table "reversed.__next__" = some Builtin.«reversed.__next__» := entryFor_of_tree (by kernel_rfl)
theorem args_next (a : Value) : argsOk "reversed.__next__" ⟨[a], []⟩ := by
  unfold argsOk
  rw [signature?_of (id := "reversed.__next__") (n := ['_', '_', 't', 'x', 'e', 'n', '_', '_']) (o := ['d', 'e', 's', 'r', 'e', 'v', 'e', 'r']) (by kernel_rfl) owner_rev]
  kernel_rfl
theorem slot_iter : Slot "reversed" "__iter__" "reversed.__iter__" := .of (owner := "reversed") (n := "__iter__") (by rw [typeLookup_type, builtinLookup_eq_fast]; kernel_rfl) (by decide +kernel) (by decide +kernel) (by decide +kernel) (by first | exact .inl (by decide +kernel) | exact .inr (by decide +kernel)) (by rw [isSubtype_type]; kernel_rfl)
theorem args_iter (a : Value) : argsOk "reversed.__iter__" ⟨[a], []⟩ := by
  unfold argsOk
  rw [signature?_of (id := "reversed.__iter__") (n := ['_', '_', 'r', 'e', 't', 'i', '_', '_']) (o := ['d', 'e', 's', 'r', 'e', 'v', 'e', 'r']) (by kernel_rfl) owner_rev]
  kernel_rfl
theorem entry_iter : entryFor table "reversed.__iter__" = some Builtin.«dict_keyiterator.__iter__» := entryFor_alias (id' := "dict_keyiterator.__iter__") (by kernel_rfl) (by first | rfl | decide +kernel | (unfold String.splitOn; simp +decide [String.splitOnAux])) (by decide +kernel) (by kernel_rfl)
theorem slot_hint : Slot "reversed" "__length_hint__" "reversed.__length_hint__" := .of (owner := "reversed") (n := "__length_hint__") (by rw [typeLookup_type, builtinLookup_eq_fast]; kernel_rfl) (by decide +kernel) (by decide +kernel) (by decide +kernel) (by first | exact .inl (by decide +kernel) | exact .inr (by decide +kernel)) (by rw [isSubtype_type]; kernel_rfl)
theorem entry_hint : entryFor table "reversed.__length_hint__" = some Builtin.«reversed.__length_hint__» := entryFor_of_tree (by kernel_rfl)
theorem args_hint (a : Value) : argsOk "reversed.__length_hint__" ⟨[a], []⟩ := by
  unfold argsOk
  rw [signature?_of (id := "reversed.__length_hint__") (n := ['_', '_', 't', 'n', 'i', 'h', '_', 'h', 't', 'g', 'n', 'e', 'l', '_', '_']) (o := ['d', 'e', 's', 'r', 'e', 'v', 'e', 'r']) (by kernel_rfl) owner_rev]
  kernel_rfl
theorem rev_no_len : typeLookup (.type "reversed") "__len__" = pure none := by rw [typeLookup_type, builtinLookup_eq_fast]; kernel_rfl
theorem tup_no_rev : typeLookup (.type "tuple") "__reversed__" = pure none := by rw [typeLookup_type, builtinLookup_eq_fast]; kernel_rfl
theorem tup_item : typeLookup (.type "tuple") "__getitem__" = pure (some (.builtin "tuple.__getitem__")) := by rw [typeLookup_type, builtinLookup_eq_fast]; kernel_rfl
theorem tup_no_dict : isSubtype (.type "tuple") (.type "dict") = pure false := by rw [isSubtype_type]; kernel_rfl
theorem hint_split : splitId "reversed.__length_hint__" = some ("reversed", "__length_hint__") := by first | rfl | decide +kernel | kernel_rfl
noncomputable abbrev rO (t : Addr) (i : Int) : Obj := { cls := .type "reversed", dict := none, data := .fields #[.ref t, rawInt i], slots := #[] }
section
variable {prog : Program} {w : World} {A : Around} {E : Value → Shared → Prop} {s : Shared}
theorem rev_new {t : Addr} {items : Array Value} {Q₁ : Value → Shared → Prop} (ht : IsTup s.heap t items) (hz : (items.size : Int) < 2 ^ 63)
    (h : Q₁ (.ref s.heap.objs.size) { s with heap := s.heap.push (rO t ((items.size : Int) - 1)), toks := s.toks + 1 + 1 }) :
    codeAny (model prog w) A (.call (.builtin "reversed.__new__") ⟨[.type "reversed", .ref t], []⟩) (wants Q₁ E) s := by
  have e0 := F.newCall_reversed_1 (.ref t)
  refine codeAny_of_tree ?_
  show wpAny _ A.in1 (do checkBuiltinCall "reversed.__new__" ⟨[.type "reversed", .ref t], []⟩; again (.builtin "reversed.__new__" ⟨[.type "reversed", .ref t], []⟩)) _ _ s
  refine wpAny_bind (wpAny_of_eq e0 (wpAny_pure ⟨plainId_quiet F.plain_reversed_new _, codeAny_builtin F.entry_reversed_new ?_⟩))
  (rw [Around.under_plainId F.plain_reversed_new _])
  (unfold Builtin.«reversed.__new__»)
  (refine wpAny_bind (wpAny_of_eq (newClass_reversed _) ?_))
  try dsimp only
  (refine wpAny_bind (wpAny_of_eq (a := ()) (by first | rfl | kernel_rfl) ?_))
  (refine wpAny_bind (wpAny_of_eq (a := ()) (by first | rfl | kernel_rfl) ?_))
  try dsimp only
  refine wpAny_bind (wpAny_specialOf ht.typeIs tup_no_rev ?_)
  try dsimp only
  refine wpAny_bind ?_
  show wpAny _ _ (isInstance (.ref t) (.type "dict") >>= _) _ _ s
  refine wpAny_bind (wpAny_isInstance ht.typeIs tup_no_dict ?_)
  show wpAny _ _ (specialOf (.ref t) (Str.ofString "__getitem__") >>= _) _ _ s
  refine wpAny_bind (wpAny_specialOf ht.typeIs tup_item ?_)
  refine wpAny_of_eq (a := true) rfl ?_
  rw [if_neg (by decide)]
  refine wpAny_bind (len_tuple ht hz ?_)
  refine wpAny_bind (wpAny_of_eq (a := some (items.size : Int)) rfl ?_)
  show wpAny _ _ (Builtin.SmallTypes.newRecord (.type "reversed") [.ref t, rawInt ((items.size : Int) - 1)] >>= _) _ _ _
  refine wpAny_bind (wpAny_newObj_type (T := "reversed") (data := .fields #[.ref t, rawInt ((items.size : Int) - 1)]) (wpAny_pure ?_))
  exact h
theorem rev_item {it t : Addr} {i : Nat} {items : Array Value} {x : Value} {Q : Option Value → Shared → Prop} (hit : s.heap.get? it = some (rO t (i : Int))) (ht : IsTup s.heap t items) (hx : items[i]? = some x) (hz : (items.size : Int) < 2 ^ 63)
    (hQ : ∀ h' tk, h'.get? it = some (rO t ((i : Int) - 1)) → Heap.SameBut it s.heap h' → Q (some x) { s with heap := h', toks := tk }) : wpAny (model prog w) A (pyNext (.ref it)) Q E s := by
  have ty : s.TypeIs (.ref it) "reversed" := ⟨_, hit, rfl⟩
  have hlt : i < items.size := (Array.getElem?_eq_some_iff.mp hx).1
  unfold pyNext
  refine wpAny_bind (wpAny_attempt (wpAny_callSpecial?_slot (name := Str.ofString "__next__") ty slot_next (wpAny_call_entry slot_next ty entry_next ?_ (args_next _))))
  unfold Builtin.«reversed.__next__»
  (refine wpAny_bind (wpAny_of_eq (a := (Value.ref it, [])) rfl ?_))
  try dsimp only
  refine wpAny_bind (wpAny_field hit rfl (x := .ref t) rfl ?_)
  refine wpAny_bind (wpAny_field hit rfl (x := rawInt (i : Int)) rfl ?_)
  (show wpAny _ _ (if (i : Int) < 0 then _ else _) _ _ s)
  rw [if_neg (by lia)]
  show wpAny _ _ (specialOf (.ref t) (Str.ofString "__getitem__") >>= _) _ _ s
  refine wpAny_bind (wpAny_specialOf ht.typeIs tup_item ?_)
  rw [if_neg (by simp)]
  (refine wpAny_bind (wpAny_mkInt ?_))
  refine wpAny_bind (wpAny_attempt (getItem_tuple ht (by lia) (by lia) ((seqIndex_of (k := (i : Int)) (n := items.size) (by lia) (by lia)).trans (by simp)) hx ?_))
  show wpAny _ _ (field (.ref it) 1 >>= _) _ _ _
  refine wpAny_bind (wpAny_field hit rfl (x := rawInt (i : Int)) rfl ?_)
  show wpAny _ _ (setField (.ref it) 1 (rawInt ((i : Int) - 1)) >>= _) _ _ _
  refine wpAny_bind (wpAny_setField_rec hit (by simp) fun h1 z1 b1 => ?_)
  exact wpAny_pure ⟨_, rfl, wpAny_pure (hQ _ _ z1 b1)⟩
theorem rev_end {it t : Addr} {Q : Option Value → Shared → Prop} (hh : A.handled = none) (hit : s.heap.get? it = some (rO t (-1)))
    (hQ : ∀ g, Heap.ExtBut it s.heap g → Q none { s with heap := g }) : wpAny (model prog w) A (pyNext (.ref it)) Q E s := by
  have ty : s.TypeIs (.ref it) "reversed" := ⟨_, hit, rfl⟩
  unfold pyNext
  refine wpAny_bind (wpAny_attempt (wpAny_callSpecial?_slot (name := Str.ofString "__next__") ty slot_next (wpAny_call_entry slot_next ty entry_next ?_ (args_next _))))
  unfold Builtin.«reversed.__next__»
  (refine wpAny_bind (wpAny_of_eq (a := (Value.ref it, [])) rfl ?_))
  try dsimp only
  refine wpAny_bind (wpAny_field hit rfl (x := .ref t) rfl ?_)
  refine wpAny_bind (wpAny_field hit rfl (x := rawInt (-1)) rfl ?_)
  (show wpAny _ _ (if (-1 : Int) < 0 then _ else _) _ _ s)
  rw [if_pos (by decide)]
  refine wpAny_bind (wpAny_rule ?_)
  refine wpAny_bind ?_
  show wpAny _ _ (setField (.ref it) 1 (rawInt (-1)) >>= fun _ => setField (.ref it) 0 .none) _ _ _
  refine wpAny_bind (wpAny_setField_rec hit (by simp) fun h1 z1 b1 => wpAny_setField_rec z1 (by simp) fun h2 z2 b2 => ?_)
  refine wpAny_bind ?_
  (show wpAny _ _ (newExc (.type "StopIteration") [] >>= _) _ _ _)
  refine wpAny_bind ?_
  simp only [newExc, newTuple]
  (refine wpAny_bind (wpAny_newObj_type ?_ (by size_fits)))
  refine wpAny_bind (m := firstArgMember _ _) (wpAny_of_eq (a := Value.none) (by first | (simp only [firstArgMember]; rfl) | rfl) ?_)
  (refine wpAny_newObj_type ?_ (by size_fits))
  simp only [raiseNew]
  (refine wpAny_bind (wpAny_handled ?_))
  (rw [show A.in1.handled = none from hh])
  (refine wpAny_bind (wpAny_pure (wpAny_throw ?_)))
  refine wpAny_bind (wpAny_isInstance (T := "StopIteration") (b := true) ⟨_, Heap.get?_push_size _ rfl, rfl⟩ isSubtype_stop (wpAny_pure (hQ _ ?_)))
  exact fun b o hb e => Heap.get?_push_of_some _ (Heap.get?_push_of_some _ (b2.extBut b o hb (b1.extBut b o hb e)))
theorem rev_iter {it t : Addr} {i : Int} {Q : Value → Shared → Prop} (hit : s.heap.get? it = some (rO t i)) (h : Q (.ref it) s) : wpAny (model prog w) A (pyIter (.ref it)) Q E s := by
  have ty : s.TypeIs (.ref it) "reversed" := ⟨_, hit, rfl⟩
  refine wpAny_pyIter_slot ty slot_iter (wpAny_call_entry slot_iter ty entry_iter ?_ (args_iter _))
  (show wpAny _ _ (ret (.ref it)) _ _ s)
  exact wpAny_pure ⟨_, rfl, "reversed", _, ty, slot_next.lookup, h⟩
theorem rev_hint {it t : Addr} {items : Array Value} {Q : Bool → Shared → Prop} (hit : s.heap.get? it = some (rO t ((items.size : Int) - 1))) (ht : IsTup s.heap t items) (hz : (items.size : Int) < 2 ^ 63) (hs : items.size ≤ sizeLine) (hp : 0 < items.size)
    (hQ : ∀ tk, Q true { s with toks := tk }) : wpAny (model prog w) A (Builtin.List.listLengthHint (.ref it)) Q E s := by
  have ty : s.TypeIs (.ref it) "reversed" := ⟨_, hit, rfl⟩
  (unfold Builtin.List.listLengthHint)
  refine wpAny_bind (wpAny_specialOf ty rev_no_len ?_)
  show wpAny _ _ (specialOf (Value.ref it) (Str.ofString "__length_hint__") >>= _) _ _ _
  refine wpAny_bind (wpAny_specialOf ty slot_hint.lookup ?_)
  dsimp only
  rw [hint_split]
  dsimp only
  refine wpAny_bind (wpAny_isInstance ty F.sub_reversed_self ?_)
  rw [if_neg (by decide), if_neg (by decide +kernel)]
  refine wpAny_bind (wpAny_rule ?_)
  refine wpAny_bind (wpAny_of_eq (slot_hint.bind _) ?_)
  dsimp only
  refine wpAny_bind (wpAny_attempt (wpAny_call_entry slot_hint ty entry_hint ?_ (args_hint _)))
  unfold Builtin.«reversed.__length_hint__»
  refine wpAny_bind (wpAny_of_eq (a := Value.ref it) rfl ?_)
  refine wpAny_bind (wpAny_field hit rfl (x := .ref t) rfl ?_)
  (rw [if_neg (show ¬ ((Value.ref t == Value.none) = true) from Bool.false_ne_true)])
  refine wpAny_bind (len_tuple ht hz ?_)
  refine wpAny_bind (wpAny_of_eq (a := some (items.size : Int)) rfl ?_)
  show wpAny _ _ (field (.ref it) 1 >>= _) _ _ _
  refine wpAny_bind (wpAny_field hit rfl (x := rawInt ((items.size : Int) - 1)) rfl ?_)
  show wpAny _ _ (if (items.size : Int) < (items.size : Int) - 1 + 1 then _ else _) _ _ _
  rw [if_neg (by lia)]
  (refine wpAny_bind (wpAny_mkInt (wpAny_pure ⟨_, rfl, ?_⟩)))
  have e : (items.size : Int) - 1 + 1 = items.size := by lia
  rw [e]
  dsimp only
  generalize hn : (items.size : Int) = n
  refine wpAny_bind ?_
  refine wpAny_of_eq (a := some n) rfl ?_
  dsimp only
  have f1 : Builtin.List.listFitsIndex n = true := by
    (unfold Builtin.List.listFitsIndex)
    rw [Bool.and_eq_true, decide_eq_true_eq, decide_eq_true_eq]
    exact ⟨by lia, by rw [← hn]; exact hz⟩
  have f2 : Builtin.List.listTooLong n.toNat = false := by
    unfold Builtin.List.listTooLong
    exact decide_eq_false (by rw [← hn, Int.toNat_natCast]; lia)
  rw [if_neg (by rw [f1]; decide), if_neg (by lia), if_neg (by rw [f2]; decide)]
  refine wpAny_pure ?_
  have f3 : (n != 0) = true := by
    rw [bne_iff_ne]
    lia
  rw [f3]
  exact hQ _
end
theorem walks {prog : Program} {w : World} {A : Around} (hh : A.handled = none) (I t : Addr) (hne : t ≠ I) (items : Array Value) (hz : (items.size : Int) < 2 ^ 63) :
    Walks prog w A I [I, t] [I] items.size (fun i v => items[items.size - 1 - i]? = some v) (fun i h => i ≤ items.size ∧ h.get? I = some (rO t ((items.size : Int) - 1 - (i : Int))) ∧ IsTup h t items) where
  sub := fun b hb => by rw [List.mem_singleton.mp hb]; exact List.mem_cons_self
  frame := fun _ _ _ x hk => ⟨x.1, hk I (by simp) _ x.2.1, by
    obtain ⟨o, ho, r⟩ := x.2.2
    exact ⟨o, hk t (by simp) o ho, r⟩⟩
  item := fun i s Q' E' hi x hQ => by
    (have e : (items.size : Int) - 1 - (i : Int) = ((items.size - 1 - i : Nat) : Int) := by lia)
    have hit := x.2.1
    rw [e] at hit
    (have hx : items[items.size - 1 - i]? = some (items[items.size - 1 - i]'(by lia)) := Array.getElem?_eq_getElem (by lia))
    refine rev_item hit x.2.2 hx hz fun h' tk hit' hs' => ?_
    (have e2 : ((items.size - 1 - i : Nat) : Int) - 1 = (items.size : Int) - 1 - ((i + 1 : Nat) : Int) := by lia)
    rw [e2] at hit'
    obtain ⟨o, ho, r⟩ := x.2.2
    exact hQ _ h' tk hx ⟨hi, hit', o, (hs'.2 t hne).trans ho, r⟩ fun b o hb eo => hs'.extBut b o (fun h => hb (by simp [h])) eo
  done := fun s Q E x hQ => by
    (have e : (items.size : Int) - 1 - (items.size : Int) = -1 := by lia)
    have hit := x.2.1
    rw [e] at hit
    exact rev_end hh hit fun h' he' => hQ h' s.toks fun b o hb eo => he' b o (fun h => hb (by simp [h])) eo
  self := fun _ _ _ _ x hQ => rev_iter x.2.1 hQ
section
variable {prog : Program} {w : World} {A : Around} {E : Value → Shared → Prop} {s : Shared}
theorem rev_collect {it t : Addr} {items : Array Value} {Q : List Value → Shared → Prop} (hh : A.handled = none) (hit : s.heap.get? it = some (rO t ((items.size : Int) - 1))) (ht : IsTup s.heap t items) (hne : t ≠ it) (hz : (items.size : Int) < 2 ^ 63) (hs : items.size ≤ sizeLine) (hp : 0 < items.size)
    (hQ : ∀ h' tk acc, (∀ b o, b ≠ it → s.heap.get? b = some o → h'.get? b = some o) → ItemsOf (fun i v => items[items.size - 1 - i]? = some v) acc items.size → Q acc.toList { s with heap := h', toks := tk }) :
    (wpAny (model prog w) A (collect (.ref it)) Q E s) := by
  have ty : s.TypeIs (.ref it) "reversed" := ⟨_, hit, rfl⟩
  have hlt := Heap.lt_size hit
  have htl := ht.lt
  have hSI : s.heap.objs.size ≠ it := Nat.ne_of_gt hlt
  have hSf : s.heap.objs.size ∉ [it, t] := fun h => by
    simp only [List.mem_cons, List.not_mem_nil, or_false] at h
    rcases h with h | h
    · exact hSI h
    · exact Nat.ne_of_gt htl h
  unfold collect
  (refine wpAny_bind (wpAny_runValue (codeAny_builtin F.entry_proto_collect ?_)))
  (rw [Around.under_plainId F.plain_proto_collect _])
  (show wpAny _ A.in1 (newList [] >>= fun l => again (.builtin "list.__iadd__" ⟨[l, .ref it], []⟩)) _ _ s)
  (refine wpAny_bind (wpAny_newObj_type ?_))
  (refine wpAny_pure ⟨plainId_quiet F.plain_list_iadd _, codeAny_builtin F.entry_list_iadd ?_⟩)
  (rw [Around.under_plainId F.plain_list_iadd _])
  have p1 : ∀ b o, s.heap.get? b = some o → (s.heap.push { cls := .type "list", data := .seq ([] : List Value).toArray }).get? b = some o := fun b o e => Heap.get?_push_of_some _ e
  (show wpAny _ A.in1 (Builtin.List.listExtendWith (.ref s.heap.objs.size) (.ref it) (.ref s.heap.objs.size)) _ _ _)
  (unfold Builtin.List.listExtendWith)
  refine wpAny_bind (wpAny_typeOf (T := "reversed") ⟨_, p1 _ _ hit, rfl⟩ ?_)
  have h1 : Builtin.List.listSameRef (.ref s.heap.objs.size) (.ref it) = false := by simp [Builtin.List.listSameRef, hSI]
  have h2 : (Value.type "reversed" == Value.type "list") = false := by decide
  have h3 : (Value.type "reversed" == Value.type "tuple") = false := by decide
  (simp only [h1, h2, h3, Bool.or_false, Bool.false_eq_true, if_false])
  refine wpAny_bind (rev_iter (p1 _ _ hit) ?_)
  refine wpAny_bind (wpAny_holding (rev_hint (p1 _ _ hit) (ht.push _) hz hs hp fun tk => ?_))
  rw [if_pos (by rfl)]
  refine wpAny_bind (wpAny_rule ?_)
  (have hS₁ : (s.heap.push { cls := .type "list", data := .seq ([] : List Value).toArray }).get? s.heap.objs.size = some { cls := .type "list", data := .seq ([] : List Value).toArray } := Heap.get?_push_size _ rfl)
  refine wpAny_bind ?_
  (show wpAny _ A.in1 (updateSeq s.heap.objs.size (·.push .none) >>= fun _ => updateSeq s.heap.objs.size (·.pop)) _ _ _)
  (refine wpAny_bind (wpAny_updateSeq hS₁ rfl ?_))
  (have hS₂ := Heap.get?_update_self (Obj.mapSeq (·.push Value.none)) hS₁ rfl)
  (refine wpAny_updateSeq hS₂ rfl ?_)
  (have hS₃ := Heap.get?_update_self (Obj.mapSeq (·.pop)) hS₂ rfl)
  have oth : ∀ b o, b ≠ s.heap.objs.size → s.heap.get? b = some o → (((s.heap.push { cls := .type "list", data := .seq ([] : List Value).toArray }).update s.heap.objs.size (Obj.mapSeq (·.push Value.none))).update s.heap.objs.size (Obj.mapSeq (·.pop))).get? b = some o :=
    fun b o hb e => (Heap.get?_update_other _ _ (Ne.symm hb)).trans ((Heap.get?_update_other _ _ (Ne.symm hb)).trans (p1 b o e))
  have st : 0 ≤ items.size ∧ (((s.heap.push { cls := .type "list", data := .seq ([] : List Value).toArray }).update s.heap.objs.size (Obj.mapSeq (·.push Value.none))).update s.heap.objs.size (Obj.mapSeq (·.pop))).get? it = some (rO t ((items.size : Int) - 1 - ((0 : Nat) : Int))) ∧ IsTup (((s.heap.push { cls := .type "list", data := .seq ([] : List Value).toArray }).update s.heap.objs.size (Obj.mapSeq (·.push Value.none))).update s.heap.objs.size (Obj.mapSeq (·.pop))) t items := by
    refine ⟨Nat.zero_le _, ?_, ?_⟩
    · rw [show (items.size : Int) - 1 - ((0 : Nat) : Int) = items.size - 1 by lia]
      exact oth _ _ hSI.symm hit
    · obtain ⟨o, ho, r⟩ := ht
      exact ⟨o, oth _ _ (Nat.ne_of_lt htl) ho, r⟩
  refine wpAny_pure ⟨plainId_quiet F.plain_extend_loop _, codeAny_extend_loopS (walks (A := A.in1) hh it t hne items hz).toS hs _ hSf _ items.size 0 _ _ _ rfl (Nat.zero_le _) st hS₃ (ItemsOf.nil _) fun s' acc' c' hm hS' hacc => ?_⟩
  (show wpAny _ A (load s.heap.objs.size >>= _) _ _ s')
  refine wpAny_bind (wpAny_load hS' (wpAny_pure ?_))
  have kk : ∀ b o, b ≠ it → s.heap.get? b = some o → s'.heap.get? b = some o := fun b o hb e => by
    have hbl := Heap.lt_size e
    refine hm.heap b o (fun h => ?_) (oth b o (Nat.ne_of_lt hbl) e)
    rcases List.mem_cons.mp h with h | h
    · exact Nat.ne_of_lt hbl h
    · exact hb (List.mem_singleton.mp h)
  have g1 : s'.gens = s.gens := hm.gens
  have g2 : s'.drawn = s.drawn := hm.drawn
  have g3 : s'.os = s.os := hm.os
  (obtain ⟨h', g', d', tk', os'⟩ := s')
  cases g1
  cases g2
  cases g3
  exact hQ h' tk' acc' kk hacc
theorem tup_new {it t : Addr} {items : Array Value} {Q₁ : Value → Shared → Prop} (hh : A.handled = none) (hit : s.heap.get? it = some (rO t ((items.size : Int) - 1))) (ht : IsTup s.heap t items) (hne : t ≠ it) (hz : (items.size : Int) < 2 ^ 63) (hs : items.size ≤ sizeLine) (hp : 0 < items.size)
    (h : ∀ (h' : Heap) (tk : Nat) (acc : Array Value), (∀ b o, b ≠ it → s.heap.get? b = some o → h'.get? b = some o) → ItemsOf (fun i v => items[items.size - 1 - i]? = some v) acc items.size → Q₁ (.ref h'.objs.size) { s with heap := h'.push { cls := .type "tuple", data := .seq acc }, toks := tk }) :
    codeAny (model prog w) A (.call (.builtin "tuple.__new__") ⟨[.type "tuple", .ref it], []⟩) (wants Q₁ E) s := by
  have e0 := F.newCall_tuple_1 (.ref it)
  refine codeAny_of_tree ?_
  show wpAny _ A.in1 (do checkBuiltinCall "tuple.__new__" ⟨[.type "tuple", .ref it], []⟩; again (.builtin "tuple.__new__" ⟨[.type "tuple", .ref it], []⟩)) _ _ s
  refine wpAny_bind (wpAny_of_eq e0 (wpAny_pure ⟨plainId_quiet F.plain_tuple_new _, codeAny_builtin F.entry_tuple_new ?_⟩))
  (rw [Around.under_plainId F.plain_tuple_new _])
  have hsub := sub_tuple_self
  (have hinit := init_tuple_lookup)
  have hmh := madeHere_tuple
  have hTI : s.TypeIs (.ref it) "reversed" := ⟨_, hit, rfl⟩
  (have hh1 : A.in1.handled = none := hh)
  wp_walk using wpAny_typeOf hTI, rev_collect hh1 hit ht hne hz hs hp
  intro h' tk acc kk hacc
  (show wpAny _ _ (Builtin.Tuple.tupleExact acc.toList.toArray >>= fun v => ret v) _ _ _)
  (unfold Builtin.Tuple.tupleExact)
  (have e : acc.toList.toArray = acc := by simp)
  refine wpAny_bind (wpAny_newObj_type ?_ (show acc.toList.toArray.size ≤ sizeLine from by rw [e, hacc.1]; exact hs))
  refine wpAny_pure ?_
  rw [e]
  exact h h' tk acc kk hacc
theorem slot_init : Slot "reversed" "__init__" "object.__init__" := .of (owner := "object") (n := "__init__") (by rw [typeLookup_type, builtinLookup_eq_fast]; kernel_rfl) (by decide +kernel) (by decide +kernel) (by decide +kernel) (by first | exact .inl (by decide +kernel) | exact .inr (by decide +kernel)) (by rw [isSubtype_type]; kernel_rfl)
theorem called_rev : TypeCalled "reversed" "reversed.__new__" "object.__init__" := ⟨by decide +kernel, by decide +kernel, ⟨_, _, F.mro_reversed⟩, F.made_reversed, by decide +kernel, by rw [isSubtype_type]; kernel_rfl, slot_init⟩
theorem call_rev {t : Addr} {items : Array Value} {Q : Value → Shared → Prop} (ht : IsTup s.heap t items) (hz : (items.size : Int) < 2 ^ 63)
    (h : Q (.ref s.heap.objs.size) { s with heap := s.heap.push (rO t ((items.size : Int) - 1)), toks := s.toks + 1 + 1 }) : wpAny (model prog w) A (call (.type "reversed") [.ref t]) Q E s :=
  callType_codes (Q₁ := fun obj s₁ => s₁.TypeIs obj "reversed" ∧ Q obj s₁) called_rev (F.typeCall_reversed_1 _) F.entry_object_init (rev_new ht hz ⟨⟨_, Heap.get?_push_size _ rfl, rfl⟩, h⟩)
    fun obj s₁ h₁ => ⟨h₁.1, F.args_object_init_2 obj _, object_init_meets called_rev.init.lookup called_rev.made (by decide) prog w A.in1 _ s₁ ⟨h₁.1, rfl, h₁.2⟩⟩
theorem call_tup {it t : Addr} {items : Array Value} {Q : Value → Shared → Prop} (hh : A.handled = none) (hit : s.heap.get? it = some (rO t ((items.size : Int) - 1))) (ht : IsTup s.heap t items) (hne : t ≠ it) (hz : (items.size : Int) < 2 ^ 63) (hs : items.size ≤ sizeLine) (hp : 0 < items.size)
    (h : ∀ (h' : Heap) (tk : Nat) (acc : Array Value), (∀ b o, b ≠ it → s.heap.get? b = some o → h'.get? b = some o) → ItemsOf (fun i v => items[items.size - 1 - i]? = some v) acc items.size → Q (.ref h'.objs.size) { s with heap := h'.push { cls := .type "tuple", data := .seq acc }, toks := tk }) :
    wpAny (model prog w) A (call (.type "tuple") [.ref it]) Q E s :=
  callType_codes (Q₁ := fun obj s₁ => s₁.TypeIs obj "tuple" ∧ Q obj s₁) F.called_tuple (F.typeCall_tuple_1 _) F.entry_object_init (tup_new (A := A.in1) hh hit ht hne hz hs hp fun h' tk acc kk hacc => ⟨⟨_, Heap.get?_push_size _ rfl, rfl⟩, h h' tk acc kk hacc⟩)
    fun obj s₁ h₁ => ⟨h₁.1, F.args_object_init_2 obj _, object_init_meets F.called_tuple.init.lookup F.called_tuple.made (by decide) prog w A.in1 _ s₁ ⟨h₁.1, rfl, h₁.2⟩⟩
end
theorem rev_items {items acc : Array Value} (h : ItemsOf (fun i v => items[items.size - 1 - i]? = some v) acc items.size) : acc = items.toList.reverse.toArray := by
  apply Array.ext_getElem?
  intro i
  have hl := h.1
  by_cases hi : i < items.size
  · have h1 : acc[i]? = some (acc[i]'(by lia)) := Array.getElem?_eq_getElem (by lia)
    rw [← Array.getElem?_toList, ← Array.getElem?_toList, List.toList_toArray, List.getElem?_reverse (by simpa using hi), Array.getElem?_toList, Array.getElem?_toList, Array.length_toList, h.2 i _ h1, h1]
  · rw [Array.getElem?_eq_none (by lia), Array.getElem?_eq_none (by simp; lia)]
end RT
namespace LU
open PySem PyProof.Rows
section
variable {prog : Program} {w : World} {A : Around} {E : Value → Shared → Prop}
theorem draw {it l : Addr} {xs : Array Value} (hne : l ≠ it) : ∀ (n i : Nat) (s : Shared) (Q : List Value → Shared → Prop), s.heap.IsListIter it l i → s.heap.IsList l xs → i + n ≤ xs.size →
    (∀ h', h'.IsListIter it l (i + n) → Heap.SameBut it s.heap h' → Q ((xs.toList.drop i).take n) { s with heap := h' }) → wpAny (model prog w) A (PySem.draw (.ref it) n) Q E s
  | 0, i, s, Q', hit, _, _, hQ => by
    show wpAny _ _ (pure []) Q' E s
    (exact wpAny_pure (by simpa using hQ s.heap hit (Heap.SameBut.refl ..)))
  | n + 1, i, s, Q', hit, hl, hle, hQ => by
    have hlt : i < xs.size := by lia
    show wpAny _ _ (pyNext (.ref it) >>= _) Q' E s
    refine wpAny_bind (wpAny_pyNext_list_item hit hl (x := xs[i]) (by simp [hlt]) fun h1 hit1 hs1 => ?_)
    refine wpAny_bind (wpAny_holding (draw hne n (i + 1) _ _ hit1 (hl.extBut hs1.extBut hne) (by lia) fun h2 hit2 hs2 => wpAny_pure ?_))
    have hd : xs.toList.drop i = xs[i] :: xs.toList.drop (i + 1) := by simp [List.drop_eq_getElem_cons, hlt]
    have q := hQ h2 (by rw [show i + (n + 1) = i + 1 + n by lia]; exact hit2) (hs1.trans hs2)
    rw [hd, List.take_succ_cons] at q
    exact q
variable {s : Shared}
theorem items {l : Addr} {xs : Array Value} {Q : List Value → Shared → Prop} (hh : A.handled = none) (hl : s.heap.IsList l xs)
    (hQ : ∀ h', Heap.ExtBut s.heap.objs.size s.heap h' → Q xs.toList { s with heap := h' }) : wpAny (model prog w) A (unpackItems (.ref l) xs.size none) Q E s := by
  (have hlt : l ≠ s.heap.objs.size := by obtain ⟨o, ho, _⟩ := hl; exact Nat.ne_of_lt (Heap.lt_size ho))
  unfold unpackItems
  refine wpAny_bind ?_
  unfold notIterableAtAll
  refine wpAny_bind (wpAny_specialOf hl.typeIs F.slot_list_iter.lookup (wpAny_pure ?_))
  (simp only [Bool.false_eq_true, if_false])
  (refine wpAny_bind (wpAny_holding (wpAny_pyIter_list hl ?_)))
  refine wpAny_bind (wpAny_holding (draw hlt xs.size 0 _ _ ⟨_, Heap.get?_push_size _ rfl, rfl, rfl⟩ (hl.at fun o e => Heap.get?_push_of_some _ e) (by lia) fun h1 hit1 hs1 => ?_))
  rw [List.drop_zero, List.take_of_length_le (by simp), if_neg (by simp)]
  have hl1 : h1.IsList l xs := (hl.at fun o e => Heap.get?_push_of_some _ e).extBut hs1.extBut hlt
  refine wpAny_bind (wpAny_holding (wpAny_pyNext_list_end hh hit1 hl1 (by simp) fun h2 he2 => ?_))
  (simp only [Option.isSome_none, Bool.false_eq_true, if_false])
  exact wpAny_pure (hQ h2 fun b o hb e => he2 b o hb (hs1.extBut b o hb (Heap.get?_push_of_some _ e)))
theorem asg {env : Env} {elts : List Expr} {x1} {pos : Pos} {l : Addr} {xs : Array Value} {Q : Unit → Shared → Prop} (hh : A.handled = none) (hl : s.heap.IsList l xs) (hn : (assignEach elts env).length = xs.size) (hst : (assignEach elts env).findIdx? (·.1) = none)
    (h : ∀ h', Heap.ExtBut s.heap.objs.size s.heap h' → wpAny (model prog w) A (assignInOrder ((assignEach elts env).map (·.2)) xs.toList) Q E { s with heap := h' }) : wpAny (model prog w) A (assign (.Tuple elts x1 pos) env (.ref l)) Q E s := by
  rw [assign_Tuple]
  refine wpAny_bind (wpAny_standAt ?_)
  unfold unpack
  rw [hn, hst]
  exact wpAny_bind (wpAny_holding (items hh hl h))
end
end LU
namespace L2
open PySem PySem.Spec PyProof.Rows
theorem bt_reversed : bootBuiltins "reversed" = some (.type "reversed") := by decide +kernel
noncomputable def tTR (K : PySem.W.Frag) (ta : TA) : TE := fun σ H Q => ta σ H fun vs H1 => ∃ a xs, vs = [.ref a] ∧ SqT K H1 a xs ∧ xs ≠ [] ∧ ∀ p, H1 p = none → Q (.ref p) (upd H1 p (.tup xs.reverse))
theorem vals_rev : ∀ {xs : List V} {us : List Value}, Vals xs us → Vals xs.reverse us.reverse
  | _, _, .nil => .nil
  | _, _, .cons a b => by
    (rw [List.reverse_cons, List.reverse_cons])
    exact (vals_rev b).append (.cons a .nil)
theorem pe_trev {X : Cx} (hc : X.calm = true) {a : Expr} {ta : TA} {p1 p2 pos1 pos2 : Pos} (hgl : Gl X "tuple") (hml : X.mg "tuple" = none) (hvl : bootBuiltins "tuple" = some (.type "tuple")) (hg : Gl X "reversed") (hm : X.mg "reversed" = none) (hv : bootBuiltins "reversed" = some (.type "reversed")) (ha : PA X [a] ta)
    (hs : starEach [a] X.env = [(false, eval a X.env)] := by rfl)
    (hs0 : starEach [.Call (.Name "reversed" p2) [a] [] pos2] X.env = [(false, eval (.Call (.Name "reversed" p2) [a] [] pos2) X.env)] := by rfl) :
    PE X (.Call (.Name "tuple" p1) [.Call (.Name "reversed" p2) [a] [] pos2] [] pos1) (tTR X.K ta) := by
  intro pins s σ H Q I h
  refine wpAny_Call_Name_kw (ld_blt I hgl hml hvl ?_)
  refine PyProof.Rows.callWith_type1 ?_ (by rw [hs0]; rfl) rfl
  rw [hs0]
  show wpAny _ _ (spliced ((false, eval (.Call (.Name "reversed" p2) [a] [] pos2) X.env) :: backTo pos1 [])) _ _ s
  refine Calls.spliced_cons ?_
  refine Call_ (ld_blt I hg hm hv (PyProof.Rows.callWith_type1 (thn (ha pos2 pins s σ H _ I h) fun us s1 hp0 => ?_) (by rw [hs]; rfl) (by rfl)))
  obtain ⟨vs, H1, I1, r1, q1⟩ := hp0
  obtain ⟨x, xs, rfl, qa, hne, q⟩ := q1
  obtain ⟨u, rfl, ru⟩ := vals1 r1
  cases ru
  obtain ⟨its, r2, pa, hz⟩ := I1.tuple qa
  have hl := r2.length
  have hsl : sizeLine = 16777216 := sizeLine_eq
  have hpos := List.length_pos_iff.mpr hne
  have hsz : its.toArray.size = its.length := List.size_toArray
  have hi : ((its.toArray.size : Nat) : Int) < 2 ^ 63 := by lia
  have pt : IsTup s1.heap x its.toArray := pa
  have hx := pt.lt
  refine RT.call_rev pt hi ?_
  refine Calls.spliced_nil ?_
  refine RT.call_tup (A := X.A) (t := x) (items := its.toArray) (I1.ok.hd hc) (Heap.get?_push_size _ rfl) (pt.push _) (Nat.ne_of_lt hx) hi (by lia) (by lia) fun h' tk acc kk hacc => ?_
  have ea := RT.rev_items hacc
  rw [List.toList_toArray] at ea
  subst ea
  have Ih : Inv X pins σ H1 { s1 with heap := h', toks := tk } := I1.kept (t' := tk) fun b o e => kk b o (Nat.ne_of_lt (Heap.lt_size e)) (Heap.get?_push_of_some _ e)
  have I2 : Inv X pins σ (upd H1 h'.objs.size (.tup xs.reverse)) { s1 with heap := h'.push { cls := .type "tuple", data := .seq its.reverse.toArray }, toks := tk } :=
    Ih.laid (t' := tk) (fun b o e => Heap.get?_push_of_some _ e) (Nat.le_refl _) (show ObjOk X.prog X.w _ _ _ (.tup xs.reverse) from ⟨by rw [List.length_reverse]; lia, its.reverse, vals_rev r2, IsTup.new _ _⟩)
  exact ⟨.ref h'.objs.size, _, I2, rfl, q _ (Ih.hok.fresh (Nat.le_refl _))⟩
noncomputable def gUL (K : PySem.W.Frag) (n : Nat) (t : TGs) : TG := fun v σ H Q => ∃ a xs, v = .ref a ∧ SqL K H a xs ∧ xs.length = n ∧ t xs σ H Q
theorem pg_ul {X : Cx} {es : List Expr} {k : Nat} {t : TGs} {n : Nat} {pos : Pos} (hc : X.calm = true) (h : PGs X es t) (hn : (assignEach es X.env).length = n := by rfl) (hst : (assignEach es X.env).findIdx? (·.1) = none := by rfl) : PG X (.Tuple es k pos) (gUL X.K n t) := by
  intro pins s σ H v u Q I r hw
  obtain ⟨a, xs, e1, hq, hl, hw⟩ := hw
  subst e1
  cases r
  obtain ⟨its, rv, pl, hz⟩ := I.list hq
  have hlen := rv.length
  refine LU.asg (I.ok.hd hc) pl.isList (by rw [hn, ← hl, hlen]; simp) hst fun h' hx => ?_
  have I1 : Inv X pins σ H { s with heap := h' } := I.kept (t' := s.toks) fun b o e => hx b o (Nat.ne_of_lt (Heap.lt_size e)) e
  exact h pins _ σ H xs _ Q I1 (by simpa using rv) hw
end L2
namespace K07
open PySem L2 Tx Rk PyProof.Rows PySem.SeqAt
open PySem.PyData (strOk)
section
variable {P : Program} {w : World} {K : PySem.W.Frag} {mg : Str → Option Value} {base : Heap}
noncomputable def top (i : Nat) : Stmt := PySem.Challenge.pw_grope_k07_things_moved.main.body.getD i (.Pass ⟨0, 0, 0, 0⟩)
noncomputable abbrev sHeapIn : Stmt := top 7
noncomputable abbrev sLidOn : Stmt := top 8
noncomputable abbrev sTurns : Stmt := top 12
noncomputable abbrev sReadDeed : Stmt := top 13
noncomputable abbrev sMoveThings : Stmt := top 14
noncomputable abbrev sTake : Stmt := top 15
noncomputable abbrev sPut : Stmt := top 16
noncomputable abbrev sToss : Stmt := top 17
noncomputable abbrev sShake : Stmt := top 18
noncomputable abbrev sTip : Stmt := top 19
noncomputable abbrev sIsFree : Stmt := top 22
noncomputable abbrev sIsOpen : Stmt := top 23
noncomputable abbrev sCanPut : Stmt := top 24
noncomputable abbrev sLaid : Stmt := top 25
noncomputable abbrev sChanged : Stmt := top 26
noncomputable abbrev sIsName : Stmt := top 34
noncomputable abbrev sReadLine : Stmt := top 35
noncomputable abbrev sReadRows : Stmt := top 36
noncomputable abbrev sReadThings : Stmt := top 37
noncomputable abbrev sReadPlaces : Stmt := top 38
noncomputable abbrev sCheckKeys : Stmt := top 39
noncomputable abbrev sInit : Stmt := inClass (top 40) 0
noncomputable abbrev sPlaces : Stmt := inClass (top 40) 1
noncomputable abbrev sPick : Stmt := top 42
noncomputable abbrev sFixed : Stmt := top 43
noncomputable abbrev sNames : Stmt := top 44
noncomputable abbrev sLine : Stmt := top 45
noncomputable abbrev sRoom : Stmt := top 46
noncomputable abbrev sSizes : Stmt := top 47
noncomputable abbrev sLids : Stmt := top 48
noncomputable abbrev sWorld : Stmt := top 49
noncomputable abbrev sSame : Stmt := top 50
noncomputable abbrev sLHeap : Stmt := top 51
noncomputable abbrev sLLaid : Stmt := top 52
noncomputable abbrev sLTip : Stmt := top 53
noncomputable abbrev sLMoves : Stmt := top 54
noncomputable abbrev sLMeets : Stmt := top 55
noncomputable abbrev sLLine : Stmt := top 56
noncomputable abbrev sLaw : Stmt := top 57
structure Bl (mg : Str → Option Value) : Prop where
  len : mg "len" = none
  range : mg "range" = none
  tuple : mg "tuple" = none
  zip : mg "zip" = none
  isi : mg "isinstance" = none
  str : mg "str" = none
  list : mg "list" = none
  set : mg "set" = none
  all : mg "all" = none
  sorted : mg "sorted" = none
  int : mg "int" = none
  bool : mg "bool" = none
  reversed : mg "reversed" = none
noncomputable abbrev pPick : List Str := ["_law_script", "_law_k", "_law_many"]
noncomputable def cellV (ns : List Int) (k : Int) : Int := if 0 < ns.length then ns.getD (k % (ns.length : Int)).toNat 0 else 0
noncomputable def pk (ns : List Int) (k m : Int) : Int := (cellV ns k % 10 ^ (12 : Int).toNat + 104729) * (k * k + 48271 * k + 11) % 2147483647 * 742938285 % 2147483629 % m
theorem pk_lo (ns : List Int) (k : Int) {m : Int} (h : 0 < m) : 0 ≤ pk ns k m := Int.emod_nonneg _ (by lia)
theorem pk_hi (ns : List Int) (k : Int) {m : Int} (h : 0 < m) : pk ns k m < m := Int.emod_lt_of_pos _ h
inductive spPickD (K : PySem.W.Frag) (vs : List V) (H : Hp) (Q : VK) (E0_ : XK) : Prop
  | mk (a : Addr) (ns : List Int) (k m : Int) (c0 : vs = [.ref a, .int k, .int m]) (c1 : SqL K H a (ns.map V.int)) (c2 : ns.length ≤ 63) (c3 : 0 ≤ k) (c4 : k < 1000000) (c5 : 0 < m) (c6 : Q (.int (pk ns k m)) H) : spPickD K vs H Q E0_
inductive spPick (K : PySem.W.Frag) (vs : List V) (H : Hp) (Q : VK) (E0_ : XK) : Prop
  | mk (a : Addr) (ns : List Int) (k m : Int) (c0 : vs = [.ref a, .int k, .int m]) (c1 : SqL K H a (ns.map V.int)) (c2 : ns.length ≤ 63) (c3 : 0 ≤ k) (c4 : k < 1000000) (c5 : 0 < m) (c6 : ∀ r : Int, 0 ≤ r → r < m → Q (.int r) H) : spPick K vs H Q E0_
inductive spFixed (vs : List V) (H : Hp) (Q : VK) (E0_ : XK) : Prop
  | mk (x : Str) (c0 : vs = [.str x]) (c1 : ∀ (H' : Hp), Same H H' → Q (.bl (decide (x ∈ fixedS))) H') : spFixed  vs H Q E0_
inductive spNames (K : PySem.W.Frag) (vs : List V) (H : Hp) (Q : VK) (E0_ : XK) : Prop
  | mk (a : Addr) (ns : List Int) (k m : Int) (c0 : vs = [.ref a, .int k, .int m]) (c1 : SqL K H a (ns.map V.int)) (c2 : ns.length ≤ 63) (c3 : 0 ≤ k) (c4 : k < 1000) (c5 : 0 ≤ m) (c6 : m ≤ 12) (c7 : ∀ (l : Addr) (xs : List Str) (H' : Hp), Same H H' → H l = none → H' l = some (.lst (xs.map V.str)) → (xs.length : Int) = m → (∀ x ∈ xs, Nv x) → xs.Nodup → Q (.ref l) H') : spNames K vs H Q E0_
inductive spSizes (K : PySem.W.Frag) (vs : List V) (H : Hp) (Q : VK) (E0_ : XK) : Prop
  | mk (a : Addr) (ns : List Int) (c0 : vs = [.ref a]) (c1 : SqL K H a (ns.map V.int)) (c2 : ns.length ≤ 63) (c3 : ∀ (t : Addr) (p m : Int) (H' : Hp), Same H H' → H' t = some (.tup [.int p, .int m]) → 1 ≤ p → p ≤ 6 → 0 ≤ m → m ≤ 6 → Q (.ref t) H') : spSizes K vs H Q E0_
theorem cell_ok (c : Int) : -(2 ^ 64) < c % 10 ^ (12 : Int).toNat + 104729 ∧ c % 10 ^ (12 : Int).toNat + 104729 < 2 ^ 64 := by
  have e : (10 : Int) ^ (12 : Int).toNat = 1000000000000 := by decide +kernel
  rw [e]
  lia
theorem scPick : FnScope ["_law_script", "_law_k", "_law_many", "_law_cell", "_law_number"] pPick (defScope sPick) := ⟨rfl, rfl, rfl, by decide +kernel, rfl, by decide +kernel, by decide +kernel⟩
theorem scFixed : FnScope ["_law_text", "_law_words"] ["_law_text"] (defScope sFixed) := ⟨rfl, rfl, rfl, by decide +kernel, rfl, by decide +kernel, by decide +kernel⟩
theorem pa_strsE {X : Cx} {es : List Expr} (vs : List V) (h : es.all isStrC = true) (hv : es.map strC = vs) : PA X es (fun _ H Q => Q vs H) := by
  subst hv
  exact pa_strs h
noncomputable def wordsE : List Expr := match (defBody sFixed).getD 0 (.Pass ⟨0, 0, 0, 0⟩) with
  | .Assign _ (.List es _) _ => es
  | _ => []
noncomputable def fixedB (es : List Expr) : List Stmt := match defBody sFixed with
  | [.Assign a (.List _ p2) p3, r] => [.Assign a (.List es p2) p3, r]
  | l => l
theorem fixedB_eq : fixedB wordsE = defBody sFixed := by rfl
noncomputable abbrev nNames : List Str := ["_law_script", "_law_k", "_law_many", "_law_signs", "_law_at", "_law_i", "_law_size", "_law_alike", "_law_names_here", "_law_name", "_law_j", "_law_number"]
theorem scNames : FnScope nNames pPick (defScope sNames) := ⟨rfl, rfl, rfl, by decide +kernel, rfl, by decide +kernel, by decide +kernel⟩
theorem scSizes : FnScope ["_law_script"] ["_law_script"] (defScope sSizes) := ⟨rfl, rfl, rfl, by decide +kernel, rfl, by decide +kernel, by decide +kernel⟩
noncomputable def numF (ns : List Int) (k al at' : Int) (i j : Nat) : Int := if (j : Int) = at' then (pk ns (k + 12) 26 + 5 * (i : Int)) % 26 else pk ns (k + 3 + (j : Int) * al) 26
theorem numF_lo (ns : List Int) (k al at' : Int) (i j : Nat) : 0 ≤ numF ns k al at' i j ∧ numF ns k al at' i j < 26 := by
  unfold numF
  split
  · exact ⟨Int.emod_nonneg _ (by decide), Int.emod_lt_of_pos _ (by decide)⟩
  · exact ⟨pk_lo _ _ (by decide), pk_hi _ _ (by decide)⟩
noncomputable def signs (ns : List Int) (k al at' : Int) (i n : Nat) : List Nat := (List.range n).map fun j => 97 + (numF ns k al at' i j).toNat
noncomputable def nameF (ns : List Int) (k al at' : Int) (n i : Nat) : Str := zed ⟨(signs ns k al at' i n).toArray⟩
theorem signs_succ (ns : List Int) (k al at' : Int) (i n : Nat) : signs ns k al at' i (n + 1) = signs ns k al at' i n ++ [97 + (numF ns k al at' i n).toNat] := by
  unfold signs
  rw [List.range_succ, List.map_append]
  rfl
theorem cs_mk (l : List Nat) : cs ⟨l.toArray⟩ = l := rfl
theorem signs_low {ns : List Int} {k al at' : Int} {i n c : Nat} (h : c ∈ signs ns k al at' i n) : 97 ≤ c ∧ c ≤ 122 := by
  obtain ⟨j, _, rfl⟩ := List.mem_map.mp h
  have := numF_lo ns k al at' i j
  lia
theorem signs_len (ns : List Int) (k al at' : Int) (i n : Nat) : (signs ns k al at' i n).length = n := by
  unfold signs
  rw [List.length_map, List.length_range]
theorem mk_len (l : List Nat) : (Str.mk l.toArray).length = l.length := by
  rw [← cs_len, cs_mk]
theorem nameF_nv (ns : List Int) (k al at' : Int) {n : Nat} (i : Nat) (h1 : 1 ≤ n) (h2 : n ≤ 8) : Nv (nameF ns k al at' n i) :=
  zed_nv (fun c hc => signs_low (show c ∈ signs ns k al at' i n from hc)) (by rw [mk_len, signs_len]; exact h1) (by rw [mk_len, signs_len]; exact h2)
theorem nameF_inj {ns : List Int} {k al : Int} {n a i j : Nat} (ha : a < n) (hi : i < 26) (hj : j < 26) (h : nameF ns k al (a : Int) n i = nameF ns k al (a : Int) n j) : i = j := by
  have e := zed_inj (by rw [mk_len, mk_len, signs_len, signs_len]) h
  have e2 : signs ns k al a i n = signs ns k al a j n := by
    have := congrArg cs e
    rwa [cs_mk, cs_mk] at this
  have e3 : (signs ns k al a i n)[a]? = (signs ns k al a j n)[a]? := by rw [e2]
  unfold signs at e3
  rw [List.getElem?_map, List.getElem?_map, List.getElem?_range ha] at e3
  have e4 : 97 + (numF ns k al a i a).toNat = 97 + (numF ns k al a j a).toNat := Option.some.inj e3
  have l1 := numF_lo ns k al a i a
  have l2 := numF_lo ns k al a j a
  have e5 : numF ns k al a i a = numF ns k al a j a := by lia
  unfold numF at e5
  rw [if_pos rfl, if_pos rfl] at e5
  exact five_inj hi hj e5
noncomputable def repF (at' : Int) (i : Nat) : Str := Txt.mul ⟨#[97 + ((at' + (i : Int) / 8) % 23).toNat]⟩ (1 + (i : Int) % 8)
theorem cs_mul {c : Nat} {i : Int} (h1 : 1 ≤ i) : cs (Txt.mul ⟨#[c]⟩ i) = List.replicate i.toNat c := by
  have e0 : ¬ i < 1 := by lia
  unfold Txt.mul
  rw [if_neg e0]
  by_cases he : (i == 1 || (⟨#[c]⟩ : Str).length == 0) = true
  · rw [if_pos he]
    have : i = 1 := by
      rw [Bool.or_eq_true] at he
      rcases he with q | q
      · exact eq_of_beq q
      · cases q
    subst this
    rfl
  · rw [if_neg he]
    have el := foldl_app #[c] i.toNat #[]
    show (List.foldl (fun x y => x ++ y) #[] (List.replicate i.toNat #[c])).toList = _
    rw [el]
    have : ∀ n : Nat, (List.replicate n [c]).flatten = List.replicate n c := fun n => by
      induction n with
      | zero => rfl
      | succ n ih => rw [List.replicate_succ, List.flatten_cons, ih, List.replicate_succ]; rfl
    simpa using this i.toNat
theorem repF_cs (at' : Int) (i : Nat) : cs (repF at' i) = List.replicate (1 + (i : Int) % 8).toNat (97 + ((at' + (i : Int) / 8) % 23).toNat) := cs_mul (by lia)
theorem repF_nv (at' : Int) (i : Nat) : Nv (repF at' i) := nv_rep (repF_cs at' i) (by lia) (by lia) (by lia) (by lia)
theorem repF_inj {at' : Int} {i j : Nat} (hi : i < 16) (hj : j < 16) (h : repF at' i = repF at' j) : i = j := by
  have e := congrArg cs h
  rw [repF_cs, repF_cs] at e
  have l := congrArg List.length e
  rw [List.length_replicate, List.length_replicate] at l
  have hm : 97 + ((at' + (i : Int) / 8) % 23).toNat ∈ List.replicate (1 + (j : Int) % 8).toNat (97 + ((at' + (j : Int) / 8) % 23).toNat) := by
    rw [← e]
    exact List.mem_replicate.mpr ⟨by lia, rfl⟩
  have e2 := (List.mem_replicate.mp hm).2
  lia
theorem nodup_range {f : Nat → Str} {n : Nat} (inj : ∀ i j, i < n → j < n → f i = f j → i = j) : ((List.range n).map f).Nodup := by
  rw [List.nodup_iff_pairwise_ne, List.pairwise_map]
  refine List.Pairwise.imp_of_mem (R := fun a b => a ≠ b) (fun {a b} ha hb ne e => ne (inj a b (List.mem_range.mp ha) (List.mem_range.mp hb) e)) (List.nodup_range)
end
end K07
namespace K07
open PySem L2 Tx Rk PyProof.Rows PySem.SeqAt
open PySem.PyData (strOk)
section
variable {P : Program} {w : World} {K : PySem.W.Frag} {mg : Str → Option Value} {base : Heap}
theorem ok_pickD {f : Addr} {fd : FuncData} (F : Fun K "_law_pick" "_law_pick" sPick f fd) (T : Bl mg) : FnOk P w K mg base CX0 1 f fd pPick (spPickD K) := by
  refine F.ok scPick (fun vs H Q E h => ?_) (fun cdv A outer s H vs Q E hr h => ?_)
  · obtain ⟨a, ns, k, m, rfl, _⟩ := h
    rfl
  · obtain ⟨a, ns, k, m, rfl, hS, hn, k0, k1, m0, q⟩ := h
    refine ⟨_, pss_cons (ps_set (i := 3) scPick.nd rfl (Or.inl rfl) pe_int)
      (pss_cons (ps_if (pt_cmpR op_gt (pe_callB call_len (by rfl) T.len PySem.boot_len (pa_cons (pv 0) pa_nil)) pe_int (nomark _))
        (pss_one (ps_set (i := 3) scPick.nd rfl (Or.inl rfl) (pe_ix ix_list (pv 0) (pe_op op_mod (pv 1) (pe_callB call_len (by rfl) T.len PySem.boot_len (pa_cons (pv 0) pa_nil))) (fun _ _ => rfl)))) pss_nil)
      (pss_cons (ps_set (i := 4) scPick.nd rfl (Or.inl rfl) (pe_op op_mod (pe_op op_mul (pe_op op_add (pe_op op_mod (pv 3) (pe_op op_pow pe_int pe_int)) pe_int)
        (pe_op op_add (pe_op op_add (pe_op op_mul (pv 1) (pv 1)) (pe_op op_mul pe_int (pv 1))) pe_int)) pe_int))
      (pss_one (ps_ret (pe_op op_mod (pe_op op_mod (pe_op op_mul (pv 4) pe_int) pe_int) (pv 2)))))), ?_⟩
    refine ⟨_, rfl, _, _, rfl, .inl ⟨_, hS, rfl⟩, _, _, rfl, rfl, _, rfl, ?_⟩
    have hl : (ns.map V.int).length = ns.length := List.length_map ..
    refine ite2 (fun hp => ?_) (fun hp => ?_)
    · have hp' : 0 < ns.length := by
        have := of_decide_eq_true hp
        rw [hl] at this
        lia
      have hpi : (0 : Int) < ((ns.map V.int).length : Int) := by rw [hl]; lia
      obtain ⟨j, hj⟩ : ∃ j : Nat, (j : Int) = k % ((ns.map V.int).length : Int) := ⟨(k % ((ns.map V.int).length : Int)).toNat, Int.toNat_of_nonneg (Int.emod_nonneg _ (by lia))⟩
      have hjl : j < ns.length := by
        have := Int.emod_lt_of_pos k hpi
        rw [hl] at this hj
        lia
      have hat : atI (ns.map V.int) (k % ((ns.map V.int).length : Int)) = some (.int ns[j]) := by
        rw [← hj]
        exact atI_nat (by simp [hjl])
      have hcv : cellV ns k = ns[j] := by
        unfold cellV
        rw [if_pos hp', ← hl, ← hj, Int.toNat_natCast]
        simp [List.getD, hjl]
      unfold pk at q
      rw [hcv] at q
      refine ⟨_, rfl, _, rfl, _, rfl, _, _, rfl, .inl ⟨_, hS, rfl⟩, _, _, rfl, rfl, hpi, _, _, _, _, rfl, rfl, hS, hat, ?_⟩
      refine ⟨_, rfl, _, _, rfl, rfl, ⟨by decide, by decide, by decide⟩, _, _, rfl, rfl, (by show (0 : Int) < _; decide +kernel), _, _, rfl, rfl, _, rfl, _, rfl, _, _, rfl, rfl, .inl ⟨by lia, by lia⟩, _, rfl, _, _, rfl, rfl, .inl ⟨by decide, by decide⟩,
        _, _, rfl, rfl, _, _, rfl, rfl, _, _, rfl, rfl, .inl (cell_ok _), _, _, rfl, rfl, (by show (0 : Int) < _; decide), ?_⟩
      exact ⟨_, rfl, _, _, rfl, rfl, .inr ⟨by decide, by decide⟩, _, _, rfl, rfl, (by show (0 : Int) < _; decide), _, rfl, _, _, rfl, rfl, m0, q⟩
    · have hcv : cellV ns k = 0 := by
        unfold cellV
        rw [if_neg]
        intro z
        exact hp (decide_eq_true (by rw [hl]; lia))
      unfold pk at q
      rw [hcv] at q
      refine ⟨_, rfl, _, _, rfl, rfl, ⟨by decide, by decide, by decide⟩, _, _, rfl, rfl, (by show (0 : Int) < _; decide +kernel), _, _, rfl, rfl, _, rfl, _, rfl, _, _, rfl, rfl, .inl ⟨by lia, by lia⟩, _, rfl, _, _, rfl, rfl, .inl ⟨by decide, by decide⟩,
        _, _, rfl, rfl, _, _, rfl, rfl, _, _, rfl, rfl, .inl (cell_ok _), _, _, rfl, rfl, (by show (0 : Int) < _; decide), ?_⟩
      exact ⟨_, rfl, _, _, rfl, rfl, .inr ⟨by decide, by decide⟩, _, _, rfl, rfl, (by show (0 : Int) < _; decide), _, rfl, _, _, rfl, rfl, m0, q⟩
end
end K07
namespace K07
open PySem L2 Tx Rk PyProof.Rows PySem.SeqAt
open PySem.PyData (strOk)
section
variable {P : Program} {w : World} {K : PySem.W.Frag} {mg : Str → Option Value} {base : Heap}
theorem ok_pick {f : Addr} {fd : FuncData} (G : FnOk P w K mg base CX0 1 f fd pPick (spPickD K)) : FnOk P w K mg base CX0 1 f fd pPick (spPick K) :=
  G.imp fun vs H Q E h => by
    obtain ⟨a, ns, k, m, e, hS, hn, k0, k1, m0, q⟩ := h
    exact ⟨a, ns, k, m, e, hS, hn, k0, k1, m0, q _ (pk_lo _ _ m0) (pk_hi _ _ m0)⟩
end
end K07
namespace K07
open PySem L2 Tx Rk PyProof.Rows PySem.SeqAt
open PySem.PyData (strOk)
section
variable {P : Program} {w : World} {K : PySem.W.Frag} {mg : Str → Option Value} {base : Heap}
theorem fixedB_ok {f : Addr} {cdv : Value} {A : Around} {outer : List Env} {s : Shared} {H : Hp} {E : XK} {es : List Expr} (vs : List V) (h : es.all isStrC = true) (hv : es.map strC = vs) (hl : vs.length ≤ sizeLine) (hf : vs.all flatV = true) :
    ∃ t, PSs (cxOf CX0 P w K mg base ["_law_text", "_law_words"] "_law_fixed" (defScope sFixed) f cdv A outer s H E).nox (fixedB es) t ∧
      ∀ (x : Str) (Q : VK), (∀ (H' : Hp), Same H H' → Q (.bl (inV (.str x) vs)) H') → t { nx := fun _ H' => Q .non H', rt := Q } [some (.str x), none] H := by
  refine ⟨_, pss_cons (ps_set (i := 1) scFixed.nd rfl (Or.inl rfl) (pe_lst (pa_strsE vs h hv))) (pss_one (ps_ret (pe_cmpR op_in_seq (pv 0) (pv 1) (by rfl)))), ?_⟩
  intro x Q q
  refine ⟨hl, fun l hl => ?_⟩
  exact ⟨_, rfl, _, rfl, l, _, rfl, .inl (SqL.of upd_same), rfl, hf, q _ (Same.new hl)⟩
theorem ok_fixed {f : Addr} {fd : FuncData} (F : Fun K "_law_fixed" "_law_fixed" sFixed f fd) : FnOk P w K mg base CX0 1 f fd ["_law_text"] spFixed := by
  refine F.ok scFixed (fun vs H Q E h => ?_) (fun cdv A outer s H vs Q E hr h => ?_)
  · obtain ⟨x, rfl, _⟩ := h
    rfl
  · obtain ⟨x, rfl, q⟩ := h
    obtain ⟨t, ht, rt⟩ := fixedB_ok (P := P) (w := w) (K := K) (mg := mg) (base := base) (f := f) (cdv := cdv) (A := A) (outer := outer) (s := s) (H := H) (E := E) (es := wordsE) (fixedS.map V.str) (by decide +kernel) (by rfl) (by rw [sizeLine_eq]; decide +kernel) (flat_strs _)
    rw [fixedB_eq] at ht
    refine ⟨t, ?_, rt x Q fun H' s' => ?_⟩
    · assumption
    · rw [inV_strs]
      exact q H' s'
end
end K07
namespace K07
open PySem L2 Tx Rk PyProof.Rows PySem.SeqAt
open PySem.PyData (strOk)
section
variable {P : Program} {w : World} {K : PySem.W.Frag} {mg : Str → Option Value} {base : Heap}
theorem ok_names {f fP fX : Addr} {fd fdP fdX : FuncData} (F : Fun K "_law_names" "_law_names" sNames f fd) (DP : Df K mg "_law_pick" sPick pPick fP fdP) (DX : Df K mg "_law_fixed" sFixed ["_law_text"] fX fdX) (T : Bl mg)
    (GP : FnOk P w K mg base CX0 1 fP fdP pPick (spPickD K)) (GX : FnOk P w K mg base CX0 1 fX fdX ["_law_text"] spFixed) :
    FnOk P w K mg base CX0 2 f fd pPick (spNames K) := by
  refine F.ok scNames (fun vs H Q E h => ?_) (fun cdv A outer s H vs Q E hr h => ?_)
  · obtain ⟨a, ns, k, m, rfl, _⟩ := h
    rfl
  · obtain ⟨a, ns, k, m, rfl, hS, hn, k0, k1, m0, m1, q⟩ := h
    refine ⟨_, (pss_cons (ps_set (i := 3) scNames.nd rfl (Or.inr rfl) pe_str)
      (pss_cons (ps_if (pt_cmpR op_eq (pe_call GP hr (by rfl) DP.m DP.F.kp DP.b .nil pass0 (pa_cons (pv 0) (pa_cons (pe_op op_add (pv 1) pe_int) (pa_cons pe_int pa_nil)))) pe_int (nomark _)) (pss_cons (ps_set (i := 4) scNames.nd rfl (Or.inr rfl) (pe_call GP hr (by rfl) DP.m DP.F.kp DP.b .nil pass0 (pa_cons (pv 0) (pa_cons (pv 1) (pa_cons pe_int pa_nil)))))
      (pss_one (ps_ret (pe_lc (N := ["_law_i", "_law_signs", "_law_at"]) (sc := defScope sNames) (own := ["_law_i"]) (fr := ["_law_signs", "_law_at"]) (js := [3, 4]) ⟨rfl, rfl, rfl, rfl, by decide +kernel, by decide +kernel, by decide +kernel, rfl, by decide +kernel⟩ rfl (pi_range1 (by rfl) T.range (pa_cons (pv 2) pa_nil)) (fun _ _ _ _ => pg_name (i := 0) (show List.Nodup (["_law_i", "_law_signs", "_law_at"] : List Str) by decide +kernel) rfl (Or.inl rfl)) (fun _ _ _ _ => pif_nil) (fun _ _ _ _ => (pe_op op_mulS (pe_ix ix_str (pv 1) (pe_op op_mod (pe_op op_add (pv 2) (pe_op op_fdiv (pv 0) pe_int)) pe_int) (fun _ _ => rfl)) (pe_op op_add pe_int (pe_op op_mod (pv 0) pe_int)))))))) pss_nil)
      (pss_cons (ps_set (i := 6) scNames.nd rfl (Or.inl rfl) (pe_op op_add pe_int (pe_call GP hr (by rfl) DP.m DP.F.kp DP.b .nil pass0 (pa_cons (pv 0) (pa_cons (pv 1) (pa_cons pe_int pa_nil))))))
      (pss_cons (ps_set (i := 4) scNames.nd rfl (Or.inr rfl) (pe_call GP hr (by rfl) DP.m DP.F.kp DP.b .nil pass0 (pa_cons (pv 0) (pa_cons (pe_op op_add (pv 1) pe_int) (pa_cons (pv 6) pa_nil)))))
      (pss_cons (ps_set (i := 7) scNames.nd rfl (Or.inl rfl) (pe_call GP hr (by rfl) DP.m DP.F.kp DP.b .nil pass0 (pa_cons (pv 0) (pa_cons (pe_op op_add (pv 1) pe_int) (pa_cons pe_int pa_nil)))))
      (pss_cons (ps_set (i := 8) scNames.nd rfl (Or.inl rfl) (pe_lst pa_nil))
      (pss_cons (ps_for PassesOwn.never rfl (pi_range1 (by rfl) T.range (pa_cons (pv 2) pa_nil)) (pg_name (i := 5) scNames.nd rfl (Or.inl rfl)) (pss_cons (ps_set (i := 9) scNames.nd rfl (Or.inl rfl) pe_str)
      (pss_cons (ps_for PassesOwn.never rfl (pi_range1 (by rfl) T.range (pa_cons (pv 6) pa_nil)) (pg_name (i := 10) scNames.nd rfl (Or.inl rfl)) (pss_cons (ps_set (i := 11) scNames.nd rfl (Or.inl rfl) (pe_call GP hr (by rfl) DP.m DP.F.kp DP.b .nil pass0 (pa_cons (pv 0) (pa_cons (pe_op op_add (pe_op op_add (pv 1) pe_int) (pe_op op_mul (pv 10) (pv 7))) (pa_cons pe_int pa_nil)))))
      (pss_cons (ps_if (pt_cmpR op_eq (pv 10) (pv 4) (nomark _)) (pss_one (ps_set (i := 11) scNames.nd rfl (Or.inl rfl) (pe_op op_mod (pe_op op_add (pe_call GP hr (by rfl) DP.m DP.F.kp DP.b .nil pass0 (pa_cons (pv 0) (pa_cons (pe_op op_add (pv 1) pe_int) (pa_cons pe_int pa_nil)))) (pe_op op_mul pe_int (pv 5))) pe_int))) pss_nil)
      (pss_one (ps_set (i := 9) scNames.nd rfl (Or.inl rfl) (pe_op op_add_str (pv 9) (pe_ix ix_str (pv 3) (pv 11) (fun _ _ => rfl))))))))
      (pss_cons (ps_if (pt_val (pe_call GX hr (by rfl) DX.m DX.F.kp DX.b .nil pass0 (pa_cons (pv 9) pa_nil))) (pss_one (ps_set (i := 9) scNames.nd rfl (Or.inl rfl) (pe_op op_add_str pe_str (pv 9)))) pss_nil)
      (pss_one (ps_expr (pe_bm PySem.F.plainAttrs_list PySem.F.slot_list_append PySem.F.type_list_append mt_append (pv 8) (pa_cons (pv 9) pa_nil))))))))
      (pss_one (ps_ret (pv 8)))))))))), ?_⟩
    have abc_e : (Str.ofString "abcdefghijklmnopqrstuvwxyz") = abc := rfl
    have hsl : sizeLine = 16777216 := sizeLine_eq
    -- the first draw
    refine ⟨_, rfl, _, rfl, _, _, rfl, rfl, a, ns, _, _, rfl, hS, hn, by lia, by lia, by decide, ⟨rfl, _, rfl, ?_⟩⟩
    refine ite2 (fun _ => ?_) (fun _ => ?_)
    · -- beginnings of one another
      refine ⟨_, rfl, _, rfl, a, ns, _, _, rfl, hS, hn, by lia, by lia, by decide, ?_⟩
      have a0 := pk_lo ns k (m := 23) (by decide)
      have a1 := pk_hi ns k (m := 23) (by decide)
      generalize pk ns k 23 = at' at a0 a1 ⊢
      refine ⟨_, rfl, m, rfl, by lia, by lia, fun D hD => ?_⟩
      refine lcJ (n := m.toNat) (fun i ys H2 => ys = ((List.range i).map (repF at')).map V.str ∧ Same H H2 ∧ H2 D = some (.lst ys)) ⟨rfl, Same.new hD, upd_same⟩
        (fun i _ _ hi _ => hi) (fun _ _ _ => Nat.le_refl _) ?_ ?_
      · rintro i ys H2 x H3 hi ⟨rfl, sm, hD2⟩ ⟨rfl, rfl⟩
        refine lc_yes ?_
        have b0 := Int.emod_nonneg (at' + (0 + (i : Int)) / 8) (b := 23) (by decide)
        have b1 := Int.emod_lt_of_pos (at' + (0 + (i : Int)) / 8) (b := 23) (by decide)
        have hc := abc_num b0 (by lia)
        have d0 := Int.emod_nonneg (0 + (i : Int)) (b := 8) (by decide)
        have d1 := Int.emod_lt_of_pos (0 + (i : Int)) (b := 8) (by decide)
        refine ⟨_, rfl, _, rfl, _, rfl, _, _, rfl, rfl, ⟨by decide, by decide⟩, _, _, rfl, rfl, _, _, rfl, rfl, (by show (0 : Int) < _; decide), abc, _, _, rfl, rfl, abc_len, hc, _, rfl, _, _, rfl, rfl, (by show (0 : Int) < _; decide), _, _, rfl, rfl, _, _, rfl, rfl, by lia, by lia, (by show 1 ≤ 1000; decide), ?_⟩
        refine ⟨_, hD2, by rw [List.length_map, List.length_map, List.length_range]; lia, ?_, sm.put hD, upd_same⟩
        rw [List.range_succ, List.map_append, List.map_append]
        show _ = _ ++ [V.str (repF at' i)]
        unfold repF
        rw [Int.zero_add]
      · rintro ys H2 ⟨rfl, sm, hD2⟩
        refine q D _ H2 sm hD hD2 (by rw [List.length_map, List.length_range]; lia) (fun x hx => ?_) (nodup_range fun i j hi hj e => repF_inj (by lia) (by lia) e)
        obtain ⟨i, _, rfl⟩ := List.mem_map.mp hx
        exact repF_nv at' i
    · -- names that differ at one place
      refine ⟨_, rfl, _, rfl, a, ns, _, _, rfl, hS, hn, by lia, by lia, by decide, ⟨_, _, rfl, rfl, ?_⟩⟩
      have s0 := pk_lo ns k (m := 8) (by decide)
      have s1 := pk_hi ns k (m := 8) (by decide)
      generalize pk ns k 8 = sz at s0 s1 ⊢
      refine ⟨_, rfl, _, rfl, _, _, rfl, rfl, _, rfl, a, ns, _, _, rfl, hS, hn, by lia, by lia, by lia, ?_⟩
      have a0 := pk_lo ns (k + 1) (m := 1 + sz) (by lia)
      have a1 := pk_hi ns (k + 1) (m := 1 + sz) (by lia)
      generalize pk ns (k + 1) (1 + sz) = at' at a0 a1 ⊢
      refine ⟨_, rfl, _, rfl, _, _, rfl, rfl, a, ns, _, _, rfl, hS, hn, by lia, by lia, by decide, ?_⟩
      have l0 := pk_lo ns (k + 2) (m := 2) (by decide)
      have l1 := pk_hi ns (k + 2) (m := 2) (by decide)
      generalize pk ns (k + 2) 2 = al at l0 l1 ⊢
      refine ⟨Nat.zero_le _, fun l hl => ?_⟩
      obtain ⟨n, hn'⟩ : ∃ n : Nat, (n : Int) = 1 + sz := ⟨(1 + sz).toNat, Int.toNat_of_nonneg (by lia)⟩
      obtain ⟨a', ha'⟩ : ∃ n : Nat, (n : Int) = at' := ⟨at'.toNat, Int.toNat_of_nonneg (by lia)⟩
      refine ⟨_, rfl, m, rfl, by lia, by lia, for_range (n := m.toNat) (fun i σ H2 => ∃ (v5 v9 v10 v11 : Option V),
        σ = [some (.ref a), some (.int k), some (.int m), some (.str abc), some (.int at'), v5, some (.int (1 + sz)), some (.int al), some (.ref l), v9, v10, v11] ∧
        Same H H2 ∧ H2 l = some (.lst (((List.range i).map (nameF ns k al at' n)).map V.str))) ⟨none, none, none, none, rfl, Same.new hl, upd_same⟩ ?_ ?_⟩
      · rintro i σ H2 hi ⟨v5, v9, v10, v11, rfl, sm, hl2⟩
        have hS2 := sm.seq hS
        refine ⟨_, rfl, _, rfl, by lia, by lia, for_range (n := (1 + sz).toNat) (fun j σ H3 => ∃ (v10 v11 : Option V),
          σ = [some (.ref a), some (.int k), some (.int m), some (.str abc), some (.int at'), some (.int (0 + (i : Int))), some (.int (1 + sz)), some (.int al), some (.ref l), some (.str ⟨(signs ns k al at' i j).toArray⟩), v10, v11] ∧
          H3 = H2) ⟨v10, v11, rfl, rfl⟩ ?_ ?_⟩
        · rintro j σ H3 hj ⟨w10, w11, rfl, rfl⟩
          have hjl : (j : Int) < 1 + sz := by lia
          have hja : 0 ≤ (0 + (j : Int)) * al ∧ (0 + (j : Int)) * al ≤ 8 := by
            have : al = 0 ∨ al = 1 := by lia
            rcases this with e | e
            · subst e; lia
            · subst e; lia
          refine ⟨_, rfl, _, rfl, _, _, rfl, rfl, _, rfl, _, rfl, _, _, rfl, rfl, .inl ⟨by lia, by lia⟩, _, _, rfl, rfl, a, ns, _, _, rfl, hS2, hn, by lia, by lia, by decide, ?_⟩
          refine ⟨_, rfl, _, rfl, rfl, _, rfl, ?_⟩
          have hnl := numF_lo ns k al at' i j
          have hc := abc_num hnl.1 hnl.2
          have hsg : (⟨(signs ns k al at' i j).toArray⟩ : Str) ++ ⟨#[97 + (numF ns k al at' i j).toNat]⟩ = ⟨(signs ns k al at' i (j + 1)).toArray⟩ := by
            apply cs_inj
            rw [cs_app, cs_one]
            show signs ns k al at' i j ++ [97 + (numF ns k al at' i j).toNat] = signs ns k al at' i (j + 1)
            rw [signs_succ]
          have hlen : (⟨(signs ns k al at' i j).toArray⟩ : Str).length = j := by rw [mk_len, signs_len]
          refine ite2 (fun he => ?_) (fun he => ?_)
          · have he' : (j : Int) = at' := by
              have := V.int.inj (of_decide_eq_true he)
              lia
            have hnu : numF ns k al at' i j = (pk ns (k + 12) 26 + 5 * (0 + (i : Int))) % 26 := by
              unfold numF
              rw [if_pos he', Int.zero_add]
            rw [hnu] at hc hsg
            refine ⟨_, rfl, _, rfl, _, _, rfl, rfl, a, ns, _, _, rfl, hS2, hn, by lia, by lia, by decide, ?_⟩
            refine ⟨_, rfl, _, _, rfl, rfl, .inl ⟨by decide, by decide⟩, _, _, rfl, rfl, _, _, rfl, rfl, (by show (0 : Int) < _; decide), ?_⟩
            refine ⟨_, rfl, _, rfl, _, rfl, abc, _, _, rfl, rfl, abc_len, hc, _, _, rfl, rfl, by show (⟨(signs ns k al at' i j).toArray⟩ : Str).length + 1 ≤ sizeLine; lia, some (.int (0 + (j : Int))), some (.int ((pk ns (k + 12) 26 + 5 * (0 + (i : Int))) % 26)), ?_, rfl⟩
            rw [← hsg]
            all_goals rfl
          · have he' : ¬ (j : Int) = at' := fun z => he (decide_eq_true (by rw [← z, Int.zero_add]))
            have hnu : numF ns k al at' i j = pk ns (k + 3 + (0 + (j : Int)) * al) 26 := by
              unfold numF
              rw [if_neg he', Int.zero_add]
            rw [hnu] at hc hsg
            refine ⟨_, rfl, _, rfl, _, rfl, abc, _, _, rfl, rfl, abc_len, hc, _, _, rfl, rfl, by show (⟨(signs ns k al at' i j).toArray⟩ : Str).length + 1 ≤ sizeLine; lia, some (.int (0 + (j : Int))), some (.int (pk ns (k + 3 + (0 + (j : Int)) * al) 26)), ?_, rfl⟩
            rw [← hsg]
            all_goals rfl
        · rintro σ H3 ⟨w10, w11, rfl, rfl⟩
          have en : (1 + sz).toNat = n := by lia
          rw [en]
          refine ⟨_, rfl, _, rfl, fun H4 s4 => ⟨_, rfl, ?_⟩⟩
          have hl4 := s4 _ _ hl2
          have hlen : (⟨(signs ns k al at' i n).toArray⟩ : Str).length = n := by rw [mk_len, signs_len]
          have hz : ((List.range i).map (nameF ns k al at' n)).map V.str ++ [V.str (nameF ns k al at' n i)] = ((List.range (i + 1)).map (nameF ns k al at' n)).map V.str := by
            rw [List.range_succ, List.map_append, List.map_append]
            rfl
          have hll : (((List.range i).map (nameF ns k al at' n)).map V.str).length < sizeLine := by rw [List.length_map, List.length_map, List.length_range]; lia
          refine ite2 (fun hx => ?_) (fun hx => ?_)
          · have hx' := of_decide_eq_true hx
            refine ⟨_, rfl, _, _, rfl, rfl, by show 1 + (⟨(signs ns k al at' i n).toArray⟩ : Str).length ≤ sizeLine; lia, ?_⟩
            refine ⟨_, rfl, .inl ⟨rfl, _, SqL.of hl4⟩, _, rfl, l, _, _, rfl, rfl, hl4, hll, _, _, _, _, rfl, (sm.trans s4).put hl, ?_⟩
            rw [upd_same, ← hz]
            unfold nameF zed
            rw [if_pos hx']
            all_goals rfl
          · have hx' : ¬ (⟨(signs ns k al at' i n).toArray⟩ : Str) ∈ fixedS := fun z => hx (decide_eq_true z)
            refine ⟨_, rfl, .inl ⟨rfl, _, SqL.of hl4⟩, _, rfl, l, _, _, rfl, rfl, hl4, hll, _, _, _, _, rfl, (sm.trans s4).put hl, ?_⟩
            rw [upd_same, ← hz]
            unfold nameF zed
            rw [if_neg hx']
      · rintro σ H2 ⟨v5, v9, v10, v11, rfl, sm, hl2⟩
        refine ⟨_, rfl, q l _ H2 sm hl hl2 (by rw [List.length_map, List.length_range]; lia) (fun x hx => ?_) (nodup_range fun i j hi hj e => ?_)⟩
        · obtain ⟨i, _, rfl⟩ := List.mem_map.mp hx
          exact nameF_nv ns k al at' i (by lia) (by lia)
        · rw [← ha'] at e
          exact nameF_inj (by lia) (by lia) (by lia) e
end
end K07
namespace K07
open PySem L2 Tx Rk PyProof.Rows PySem.SeqAt
open PySem.PyData (strOk)
section
variable {P : Program} {w : World} {K : PySem.W.Frag} {mg : Str → Option Value} {base : Heap}
theorem ok_sizes {f fP : Addr} {fd fdP : FuncData} (F : Fun K "_law_sizes" "_law_sizes" sSizes f fd) (DP : Df K mg "_law_pick" sPick pPick fP fdP) (T : Bl mg) (GP : FnOk P w K mg base CX0 1 fP fdP pPick (spPick K)) : FnOk P w K mg base CX0 2 f fd ["_law_script"] (spSizes K) := by
  refine F.ok scSizes (fun vs H Q E h => ?_) (fun cdv A outer s H vs Q E hr h => ?_)
  · obtain ⟨a, ns, rfl, _⟩ := h
    rfl
  · obtain ⟨a, ns, rfl, hS, hn, q⟩ := h
    refine ⟨_, pss_one (ps_ret (pe_tup (pa_cons (pe_op op_add pe_int (pe_call GP hr (by rfl) DP.m DP.F.kp DP.b .nil pass0 (pa_cons (pv 0) (pa_cons pe_int (pa_cons pe_int pa_nil)))))
      (pa_cons (pe_call GP hr (by rfl) DP.m DP.F.kp DP.b .nil pass0 (pa_cons (pv 0) (pa_cons pe_int (pa_cons pe_int pa_nil)))) pa_nil)))), ?_⟩
    refine ⟨_, rfl, a, ns, _, _, rfl, hS, hn, by decide, by decide, by decide, fun r r0 r1 => ⟨_, _, rfl, rfl, ?_⟩⟩
    refine ⟨_, rfl, a, ns, _, _, rfl, hS, hn, by decide, by decide, by decide, fun r' r2 r3 => ⟨by show 2 ≤ sizeLine; decide, fun t ht => ?_⟩⟩
    exact q t _ _ _ (Same.new ht) upd_same (by lia) (by lia) r2 (by lia)
end
end K07
namespace K07
open PySem L2 Tx Rk PyProof.Rows PySem.SeqAt
open PySem.PyData (strOk)
section
variable {P : Program} {w : World} {K : PySem.W.Frag} {mg : Str → Option Value} {base : Heap}
noncomputable abbrev Sk (x : Str) : Prop := strOk x = true ∧ x.length ≤ 16
theorem dget {H : Hp} {a : Addr} {kvs : List (Key × V)} {x : Str} {v : V} (e : H a = some (.dK kvs)) (h : valV kvs (Sum.inr x : Key) = some v) : DGet H a (.str x) (some v) := by
  have q := DGet.k (k := (Sum.inr x : Key)) e
  rw [h] at q
  exact q
noncomputable abbrev pLids : List Str := ["_law_room_here", "_law_place"]
noncomputable def Ad (L1 L2 : List (Key × V)) (x l : Str) : Prop := l = "open" ∨ (l = "shut" ∧ (valV L1 (Sum.inr x : Key)).isSome = true) ∨ (l = "locked" ∧ (valV L2 (Sum.inr x : Key)).isSome = true)
inductive spLids (vs : List V) (H : Hp) (Q : VK) (E0_ : XK) : Prop
  | mk (r d1 d2 : Addr) (x : Str) (kvs L1 L2 : List (Key × V)) (c0 : vs = [.ref r, .str x]) (c1 : H r = some (.dK kvs)) (c2 : valV kvs (Sum.inr "lids" : Key) = some (.ref d1)) (c3 : valV kvs (Sum.inr "keys" : Key) = some (.ref d2)) (c4 : H d1 = some (.dK L1)) (c5 : H d2 = some (.dK L2)) (c6 : ∀ (l : Addr) (ys : List Str) (H' : Hp), Same H H' → H l = none → H' l = some (.lst (ys.map V.str)) → 1 ≤ ys.length → (∀ y ∈ ys, Ad L1 L2 x y) → Q (.ref l) H') : spLids  vs H Q E0_
theorem scLids : FnScope ["_law_room_here", "_law_place", "_law_some"] pLids (defScope sLids) := ⟨rfl, rfl, rfl, by decide +kernel, rfl, by decide +kernel, by decide +kernel⟩
theorem kne {x y : Str} (h : ¬ x = y) : ¬ (Sum.inr x : Key) = Sum.inr y := fun e => h (Sum.inr.inj e)
noncomputable def room0 (p t d1 d2 d3 : Addr) : List (Key × V) := [(Sum.inr "places", .ref p), (Sum.inr "things", .ref t), (Sum.inr "lids", .ref d1), (Sum.inr "keys", .ref d2), (Sum.inr "shapes", .ref d3)]
theorem room0_things (p t d1 d2 d3 : Addr) : valV (room0 p t d1 d2 d3) (Sum.inr "things" : Key) = some (.ref t) := by
  unfold room0
  rw [valV_neg (kne (by decide +kernel)), valV_pos rfl]
theorem room0_lids (p t d1 d2 d3 : Addr) : valV (room0 p t d1 d2 d3) (Sum.inr "lids" : Key) = some (.ref d1) := by
  unfold room0
  rw [valV_neg (kne (by decide +kernel)), valV_neg (kne (by decide +kernel)), valV_pos rfl]
theorem room0_keys (p t d1 d2 d3 : Addr) : valV (room0 p t d1 d2 d3) (Sum.inr "keys" : Key) = some (.ref d2) := by
  unfold room0
  rw [valV_neg (kne (by decide +kernel)), valV_neg (kne (by decide +kernel)), valV_neg (kne (by decide +kernel)), valV_pos rfl]
theorem room0_shapes (p t d1 d2 d3 : Addr) : valV (room0 p t d1 d2 d3) (Sum.inr "shapes" : Key) = some (.ref d3) := by
  unfold room0
  rw [valV_neg (kne (by decide +kernel)), valV_neg (kne (by decide +kernel)), valV_neg (kne (by decide +kernel)), valV_neg (kne (by decide +kernel)), valV_pos rfl]
theorem room0_places (p t d1 d2 d3 : Addr) : valV (room0 p t d1 d2 d3) (Sum.inr "places" : Key) = some (.ref p) := by
  unfold room0
  rw [valV_pos rfl]
noncomputable abbrev pLine : List Str := ["_law_script", "_law_k", "_law_room_here", "_law_name"]
inductive spLine (K : PySem.W.Frag) (vs : List V) (H : Hp) (Q : VK) (E0_ : XK) : Prop
  | mk (a : Addr) (ns : List Int) (k : Int) (r p t d1 d2 d3 : Addr) (x : Str) (ts : List Str) (L1 L2 : List (Key × V)) (c0 : vs = [.ref a, .int k, .ref r, .str x]) (c1 : SqL K H a (ns.map V.int)) (c2 : ns.length ≤ 63) (c3 : 0 ≤ k) (c4 : k < 100) (c5 : Nv x) (c6 : H r = some (.dK (room0 p t d1 d2 d3))) (c7 : H t = some (.lst (ts.map V.str))) (c8 : (∀ y ∈ ts, Nv y)) (c9 : ts.length ≤ 12) (c10 : H d1 = some (.dK L1)) (c11 : H d2 = some (.dK L2)) (c12 : L1.length ≤ 100) (c13 : L2.length ≤ 100) (c14 : r ≠ d1) (c15 : r ≠ d2) (c16 : d1 ≠ d2) (c17 : valV L1 (Sum.inr x : Key) = none) (c18 : valV L2 (Sum.inr x : Key) = none) (c19 : ∀ (ro : Ro) (H' : Hp), ro.name = x → ro.isP = true → ro.nv → (k = 0 → ro = .pl x) → (∀ y, ro = .lk x y → y ∈ ts) → H' d1 = some (.dK (L1 ++ lidsK [ro])) → H' d2 = some (.dK (L2 ++ keysK [ro])) → (∀ b o, H b = some o → b ≠ d1 → b ≠ d2 → H' b = some o) → Q (.str ro.txt) H') : spLine K vs H Q E0_
theorem scLine : FnScope ["_law_script", "_law_k", "_law_room_here", "_law_name", "_law_way", "_law_key"] pLine (defScope sLine) := ⟨rfl, rfl, rfl, by decide +kernel, rfl, by decide +kernel, by decide +kernel⟩
theorem seq_keep {H H' : Hp} {a d1 : Addr} {xs : List V} (h : SqL K H a xs) (k : ∀ b o, H b = some o → b ≠ d1 → H' b = some o) {L : List (Key × V)} (hd : H d1 = some (.dK L)) : SqL K H' a xs := by
  rcases h with (h | ⟨o, h⟩) | h
  · exact .inl (.inl (k _ _ h (ne_of h hd (by intro z; cases z))))
  · exact .inl (.inr ⟨o, k _ _ h (ne_of h hd (by intro z; cases z))⟩)
  · exact .inr h
end
end K07
namespace K07
open PySem L2 Tx Rk PyProof.Rows PySem.SeqAt
open PySem.PyData (strOk)
section
variable {P : Program} {w : World} {K : PySem.W.Frag} {mg : Str → Option Value} {base : Heap}
theorem ok_lids {f : Addr} {fd : FuncData} (F : Fun K "_law_lids" "_law_lids" sLids f fd) : FnOk P w K mg base CX0 1 f fd pLids spLids := by
  refine F.ok scLids (fun vs H Q E h => ?_) (fun cdv A outer s H vs Q E hr h => ?_)
  · obtain ⟨r, d1, d2, x, kvs, L1, L2, rfl, _⟩ := h
    rfl
  · obtain ⟨r, d1, d2, x, kvs, L1, L2, rfl, h1, h4, h5, h8, h9, q⟩ := h
    have hu := hu_of hr
    refine ⟨_, pss_cons (ps_set (i := 2) scLids.nd rfl (Or.inl rfl) (pe_lst (pa_cons pe_str pa_nil)))
      (pss_cons (ps_if (pt_cmp (pc_din hu (pv 1) (pe_dget hu (pv 0) pe_str (fun _ _ => rfl)))) (pss_one (ps_expr (pe_bm PySem.F.plainAttrs_list PySem.F.slot_list_append PySem.F.type_list_append mt_append (pv 2) (pa_cons pe_str pa_nil)))) pss_nil)
      (pss_cons (ps_if (pt_cmp (pc_din hu (pv 1) (pe_dget hu (pv 0) pe_str (fun _ _ => rfl)))) (pss_one (ps_expr (pe_bm PySem.F.plainAttrs_list PySem.F.slot_list_append PySem.F.type_list_append mt_append (pv 2) (pa_cons pe_str pa_nil)))) pss_nil)
      (pss_one (ps_ret (pv 2))))), ?_⟩
    refine ⟨by show 1 ≤ sizeLine; decide, fun l hl => ?_⟩
    have hsl : sizeLine = 16777216 := sizeLine_eq
    have s0 : Same H (upd H l (.lst [V.str "open"])) := Same.new hl
    refine ⟨_, rfl, _, rfl, r, _, rfl, dget (s0 _ _ h1) h4, _, _, rfl, DGet.k (k := (Sum.inr x : Key)) (s0 _ _ h8), _, rfl, ?_⟩
    have s1 : ∀ o, Same H (upd (upd H l (.lst [V.str "open"])) l o) := fun o => s0.put hl
    refine ite2 (fun c1 => ?_) (fun _ => ?_)
    · refine ⟨_, rfl, .inl ⟨rfl, _, SqL.of upd_same⟩, l, _, _, rfl, rfl, upd_same, by show 1 < sizeLine; decide, ?_⟩
      refine ⟨_, rfl, _, rfl, r, _, rfl, dget (s1 _ _ _ h1) h5, _, _, rfl, DGet.k (k := (Sum.inr x : Key)) (s1 _ _ _ h9), _, rfl, ?_⟩
      refine ite2 (fun c2 => ?_) (fun _ => ?_)
      · refine ⟨_, rfl, .inl ⟨rfl, _, SqL.of upd_same⟩, l, _, _, rfl, rfl, upd_same, by show 2 < sizeLine; decide, ?_⟩
        refine ⟨_, rfl, q l ["open", "shut", "locked"] _ ((s1 _).put hl) hl upd_same (by decide) fun y hy => ?_⟩
        simp only [List.mem_cons, List.not_mem_nil, or_false] at hy
        rcases hy with e | e | e
        · exact .inl e
        · exact .inr (.inl ⟨e, c1⟩)
        · exact .inr (.inr ⟨e, c2⟩)
      · refine ⟨_, rfl, q l ["open", "shut"] _ (s1 _) hl upd_same (by decide) fun y hy => ?_⟩
        simp only [List.mem_cons, List.not_mem_nil, or_false] at hy
        rcases hy with e | e
        · exact .inl e
        · exact .inr (.inl ⟨e, c1⟩)
    · refine ⟨_, rfl, _, rfl, r, _, rfl, dget (s0 _ _ h1) h5, _, _, rfl, DGet.k (k := (Sum.inr x : Key)) (s0 _ _ h9), _, rfl, ?_⟩
      refine ite2 (fun c2 => ?_) (fun _ => ?_)
      · refine ⟨_, rfl, .inl ⟨rfl, _, SqL.of upd_same⟩, l, _, _, rfl, rfl, upd_same, by show 1 < sizeLine; decide, ?_⟩
        refine ⟨_, rfl, q l ["open", "locked"] _ (s1 _) hl upd_same (by decide) fun y hy => ?_⟩
        simp only [List.mem_cons, List.not_mem_nil, or_false] at hy
        rcases hy with e | e
        · exact .inl e
        · exact .inr (.inr ⟨e, c2⟩)
      · refine ⟨_, rfl, q l ["open"] _ s0 hl upd_same (by decide) fun y hy => ?_⟩
        simp only [List.mem_cons, List.not_mem_nil, or_false] at hy
        exact .inl hy
end
end K07
namespace K07
open PySem L2 Tx Rk PyProof.Rows PySem.SeqAt
open PySem.PyData (strOk)
section
variable {P : Program} {w : World} {K : PySem.W.Frag} {mg : Str → Option Value} {base : Heap}
theorem ok_line {f fP : Addr} {fd fdP : FuncData} (F : Fun K "_law_place_line" "_law_place_line" sLine f fd) (DP : Df K mg "_law_pick" sPick pPick fP fdP) (T : Bl mg) (GP : FnOk P w K mg base CX0 1 fP fdP pPick (spPick K)) : FnOk P w K mg base CX0 2 f fd pLine (spLine K) := by
  refine F.ok scLine (fun vs H Q E h => ?_) (fun cdv A outer s H vs Q E hr h => ?_)
  · obtain ⟨a, ns, k, r, p, t, d1, d2, d3, x, ts, L1, L2, rfl, _⟩ := h
    rfl
  · obtain ⟨a, ns, k, r, p, t, d1, d2, d3, x, ts, L1, L2, rfl, hS, hn, k0, k1, hx, hr0, ht, hts, htl, h1, h2, z1, z2, n1, n2, n3, v1, v2, q⟩ := h
    have hu := hu_of hr
    have hsl : sizeLine = 16777216 := sizeLine_eq
    have hxl := hx.len
    refine ⟨_, pss_cons (ps_set (i := 4) scLine.nd rfl (Or.inl rfl) (pe_call GP hr (by rfl) DP.m DP.F.kp DP.b .nil pass0 (pa_cons (pv 0) (pa_cons (pe_op op_add pe_int (pv 1)) (pa_cons pe_int pa_nil)))))
      (pss_cons (ps_if (PW.pt (pw_or (pt_cmpR op_eq (pv 1) pe_int (nomark _)) (pw_or1 (pt_cmpR op_eq (pv 4) pe_int (nomark _))))) (pss_one (ps_ret (pe_op op_add_str pe_str (pv 3)))) pss_nil)
      (pss_cons (ps_dput hu (pe_dget hu (pv 2) pe_str (fun _ _ => rfl)) (pv 3) pe_bl rfl)
      (pss_cons (ps_if (PW.pt (pw_or (pt_cmpR op_eq (pv 4) pe_int (nomark _)) (pw_or1 (pt_cmpR op_eq (pe_callB call_len (by rfl) T.len PySem.boot_len (pa_cons (pe_dget hu (pv 2) pe_str (fun _ _ => rfl)) pa_nil)) pe_int (nomark _)))))
        (pss_one (ps_ret (pe_op op_add_str pe_str (pv 3)))) pss_nil)
      (pss_cons (ps_set (i := 5) scLine.nd rfl (Or.inl rfl) (pe_ix ix_list (pe_dget hu (pv 2) pe_str (fun _ _ => rfl)) (pe_call GP hr (by rfl) DP.m DP.F.kp DP.b .nil pass0 (pa_cons (pv 0) (pa_cons (pe_op op_add pe_int (pv 1))
        (pa_cons (pe_callB call_len (by rfl) T.len PySem.boot_len (pa_cons (pe_dget hu (pv 2) pe_str (fun _ _ => rfl)) pa_nil)) pa_nil)))) (fun _ _ => rfl)))
      (pss_cons (ps_dput hu (pe_dget hu (pv 2) pe_str (fun _ _ => rfl)) (pv 3) (pv 5) rfl)
      (pss_one (ps_ret (pe_op op_add_str (pe_op op_add_str (pe_op op_add_str pe_str (pv 3)) pe_str) (pv 5))))))))), ?_⟩
    have plain : Q (.str (("place " : Str) ++ x)) H := q (.pl x) H rfl rfl hx (fun _ => rfl) (fun y e => nomatch e) (by show H d1 = some (.dK (L1 ++ [])); rw [List.append_nil]; exact h1) (by show H d2 = some (.dK (L2 ++ [])); rw [List.append_nil]; exact h2) fun b o e _ _ => e
    refine ⟨_, rfl, _, rfl, _, _, rfl, rfl, a, ns, _, _, rfl, hS, hn, by lia, by lia, by decide, fun way w0 w1 => ?_⟩
    refine ⟨_, rfl, rfl, _, rfl, ?_⟩
    refine ite2 (fun _ => ?_) (fun hk0 => ?_)
    · refine iteT ?_
      exact ⟨_, rfl, _, _, rfl, rfl, by show 6 + x.length ≤ sizeLine; lia, plain⟩
    have hk : k ≠ 0 := fun z => hk0 (decide_eq_true (by rw [z]))
    refine ⟨_, rfl, rfl, _, rfl, ?_⟩
    refine ite2 (fun _ => ?_) (fun _ => ?_)
    · exact ⟨_, rfl, _, _, rfl, rfl, by show 6 + x.length ≤ sizeLine; lia, plain⟩
    -- a lid
    refine ⟨_, rfl, r, _, rfl, dget hr0 (room0_lids _ _ _ _ _), _, rfl, d1, _, rfl, DPut.k (k := (Sum.inr x : Key)) h1 (by lia), ?_⟩
    rw [putK_new _ v1]
    have k1' : ∀ (u : HO) b o, H b = some o → b ≠ d1 → upd H d1 u b = some o := fun u b o e hb => by rw [upd_ne hb]; exact e
    have rK := k1' (.dK (L1 ++ [(Sum.inr x, V.bl true)])) _ _ hr0 n1
    have tK := k1' (.dK (L1 ++ [(Sum.inr x, V.bl true)])) _ _ ht (ne_of ht h1 (by intro z; cases z))
    have dK := k1' (.dK (L1 ++ [(Sum.inr x, V.bl true)])) _ _ h2 (Ne.symm n3)
    have sK := seq_keep (K := K) hS (fun b o e hb => k1' (.dK (L1 ++ [(Sum.inr x, V.bl true)])) b o e hb) h1
    have box : Q (.str (("box " : Str) ++ x)) (upd H d1 (.dK (L1 ++ [(Sum.inr x, V.bl true)]))) :=
      q (.bx x) _ rfl rfl hx (fun z => absurd z hk) (fun y e => nomatch e) upd_same (by show (upd H d1 (.dK (L1 ++ [(Sum.inr x, V.bl true)]))) d2 = some (HO.dK (L2 ++ [])); rw [List.append_nil]; exact dK) fun b o e hb _ => k1' _ b o e hb
    refine ⟨_, rfl, rfl, _, rfl, ?_⟩
    refine ite2 (fun _ => ?_) (fun _ => ?_)
    · refine iteT ?_
      exact ⟨_, rfl, _, _, rfl, rfl, by show 4 + x.length ≤ sizeLine; lia, box⟩
    refine ⟨_, rfl, r, _, rfl, dget rK (room0_things _ _ _ _ _), _, _, rfl, .inl ⟨_, SqL.of tK, rfl⟩, rfl, _, rfl, ?_⟩
    refine ite2 (fun _ => ?_) (fun hne => ?_)
    · exact ⟨_, rfl, _, _, rfl, rfl, by show 4 + x.length ≤ sizeLine; lia, box⟩
    have hlm : (ts.map V.str).length = ts.length := List.length_map ..
    have tpos : 0 < ts.length := by
      rcases Nat.eq_zero_or_pos ts.length with z | z
      · exact absurd (decide_eq_true (by rw [hlm, z]; rfl)) hne
      · exact z
    refine ⟨_, rfl, r, _, rfl, dget rK (room0_things _ _ _ _ _), _, rfl, _, rfl, _, _, rfl, rfl, _, rfl, r, _, rfl, dget rK (room0_things _ _ _ _ _), _, _, rfl, .inl ⟨_, SqL.of tK, rfl⟩, a, ns, _, _, rfl, sK, hn, by lia, by lia, by rw [hlm]; lia, fun j j0 j1 => ?_⟩
    have hj : j.toNat < ts.length := by rw [hlm] at j1; lia
    have hat : atI (ts.map V.str) j = some (.str ts[j.toNat]) := by
      have q := atI_nat (xs := ts.map V.str) (j := j.toNat) (v := .str ts[j.toNat]) (by simp [hj])
      rw [Int.toNat_of_nonneg j0] at q
      exact q
    have hym := List.getElem_mem hj
    have hy := hts _ hym
    have hyl := hy.len
    refine ⟨_, _, _, _, rfl, rfl, SqL.of tK, hat, ?_⟩
    generalize ts[j.toNat] = y at hym hy hyl
    refine ⟨_, rfl, _, rfl, r, _, rfl, dget rK (room0_keys _ _ _ _ _), _, rfl, d2, _, rfl, DPut.k (k := (Sum.inr x : Key)) dK (by lia), ?_⟩
    rw [putK_new _ v2]
    have e1 : ("box " : Str).length = 4 := by decide +kernel
    have e2 : (" " : Str).length = 1 := by decide +kernel
    refine ⟨_, rfl, _, _, rfl, rfl, by show 4 + x.length ≤ sizeLine; lia, _, _, rfl, rfl, by rw [len_app, e1, e2]; lia, _, rfl, _, _, rfl, rfl, by rw [len_app, len_app, e1, e2]; lia, ?_⟩
    refine q (.lk x y) _ rfl rfl ⟨hx, hy⟩ (fun z => absurd z hk) (fun y' e => by cases e; exact hym) ?_ upd_same fun b o e hb hb' => ?_
    · rw [upd_ne n3]
      exact upd_same
    · rw [upd_ne hb']
      exact k1' _ b o e hb
end
end K07
namespace K07
open PySem L2 Tx Rk PyProof.Rows PySem.SeqAt
open PySem.PyData (strOk)
section
variable {P : Program} {w : World} {K : PySem.W.Frag} {mg : Str → Option Value} {base : Heap}
noncomputable abbrev pRoom : List Str := ["_law_script", "_law_places", "_law_things"]
inductive RmSE (H : Hp) (r : Addr) (rs : List Ro) : Prop
  | mk (kvs L3 : List (Key × V)) (p t d1 d2 d3 D : Addr) (c0 : H r = some (.dK kvs)) (c1 : valV kvs (Sum.inr "places" : Key) = some (.ref p)) (c2 : valV kvs (Sum.inr "things" : Key) = some (.ref t)) (c3 : valV kvs (Sum.inr "lids" : Key) = some (.ref d1)) (c4 : valV kvs (Sum.inr "keys" : Key) = some (.ref d2)) (c5 : valV kvs (Sum.inr "shapes" : Key) = some (.ref d3)) (c6 : valV kvs (Sum.inr "lines" : Key) = some (.ref D)) (c7 : H p = some (.lst (((plc rs).map (·.1)).map V.str))) (c8 : H t = some (.lst (((ths rs).map (·.1)).map V.str))) (c9 : H d1 = some (.dK (lidsK rs))) (c10 : H d2 = some (.dK (keysK rs))) (c11 : H d3 = some (.dK L3)) (c12 : H D = some (.lst ((rs.map Ro.txt).map V.str))) (c13 : ∀ x ∈ ths rs, valV L3 (Sum.inr x.1 : Key) = some (.str x.2)) : RmSE H r rs
structure RmS (H : Hp) (r : Addr) (rs : List Ro) : Prop where
  ex : RmSE H r rs
  good : Good rs
theorem RmS.same {H H' : Hp} {r : Addr} {rs : List Ro} (R : RmS H r rs) (s : Same H H') : RmS H' r rs := by
  obtain ⟨⟨kvs, L3, p, t, d1, d2, d3, D, h1, h2, h3, h4, h5, h6, h7, g1, g2, g3, g4, g5, g6, g7⟩, g⟩ := R
  exact ⟨⟨kvs, L3, p, t, d1, d2, d3, D, s _ _ h1, h2, h3, h4, h5, h6, h7, s _ _ g1, s _ _ g2, s _ _ g3, s _ _ g4, s _ _ g5, s _ _ g6, g7⟩, g⟩
theorem good_nv {rs : List Ro} (g : Good rs) {x : Str} (h : x ∈ rs.map Ro.name) : Nv x := by
  obtain ⟨r, hr, rfl⟩ := List.mem_map.mp h
  exact Ro.nv_name (g.nv r hr)
theorem nv_sk {x : Str} (h : Nv x) : Sk x := ⟨h.ok, by have := h.len; lia⟩
inductive spRoom (K : PySem.W.Frag) (vs : List V) (H : Hp) (Q : VK) (E0_ : XK) : Prop
  | mk (a : Addr) (ns : List Int) (p m : Int) (c0 : vs = [.ref a, .int p, .int m]) (c1 : SqL K H a (ns.map V.int)) (c2 : ns.length ≤ 63) (c3 : 1 ≤ p) (c4 : p ≤ 6) (c5 : 0 ≤ m) (c6 : m ≤ 6) (c7 : ∀ (r : Addr) (rs : List Ro) (H' : Hp), Same H H' → RmS H' r rs → ((plc rs).length : Int) = p → ((ths rs).length : Int) = m → rs.length ≤ 12 → Q (.ref r) H') : spRoom K vs H Q E0_
noncomputable abbrev nRoom : List Str := ["_law_script", "_law_places", "_law_things", "_law_names_here", "_law_room_here", "_law_k", "_law_lines", "_law_shapes", "_law_thing", "_law_at"]
structure Mk (H H2 : Hp) (r p t d1 d2 d3 l D : Addr) (xs : List Str) (n : Nat) (rs : List Ro) (i : Nat) : Prop where
  sm : Same H H2
  room : H2 r = some (.dK (room0 p t d1 d2 d3))
  pl : H2 p = some (.lst ((xs.take n).map V.str))
  th : H2 t = some (.lst ((xs.drop n).map V.str))
  l1 : H2 d1 = some (.dK (lidsK rs))
  l2 : H2 d2 = some (.dK (keysK rs))
  l3 : ∃ L, H2 d3 = some (.dK L) ∧ L.length ≤ i ∧ ∀ x ∈ ths rs, valV L (Sum.inr x.1 : Key) = some (.str x.2)
  nm : H2 l = some (.lst (xs.map V.str))
  ln : H2 D = some (.lst ((rs.map Ro.txt).map V.str))
  ok : ∀ x ∈ rs, x.nv
  len : rs.length = i
  ks : ∀ x y, Ro.lk x y ∈ rs → y ∈ xs.drop n
structure Ap (H : Hp) (r p t d1 d2 d3 l D : Addr) : Prop where
  fr : H r = none
  f1 : H d1 = none
  f2 : H d2 = none
  f3 : H d3 = none
  fl : H l = none
  fD : H D = none
  r1 : r ≠ d1
  r2 : r ≠ d2
  r3 : r ≠ d3
  n12 : d1 ≠ d2
  n13 : d1 ≠ d3
  n23 : d2 ≠ d3
  Dp : D ≠ p
  Dt : D ≠ t
  Dl : D ≠ l
theorem scRoom : FnScope nRoom pRoom (defScope sRoom) := ⟨rfl, rfl, rfl, by decide +kernel, rfl, by decide +kernel, by decide +kernel⟩
theorem kind_ne {H : Hp} {a b : Addr} {xs : List V} {L : List (Key × V)} (h : H a = some (.lst xs)) (h' : H b = some (.dK L)) : a ≠ b := ne_of h h' (by intro z; cases z)
theorem upd_none {H : Hp} {a b : Addr} {o : HO} (h : upd H a o b = none) : b ≠ a ∧ H b = none := by
  by_cases e : b = a
  · subst e
    rw [upd_same] at h
    cases h
  · rw [upd_ne e] at h
    exact ⟨e, h⟩
theorem at_mapI {xs : List Str} {j : Int} (h0 : 0 ≤ j) (h1 : j < (xs.length : Int)) : ∃ x ∈ xs, xs[j.toNat]? = some x ∧ atI (xs.map V.str) j = some (.str x) := by
  have hj : j.toNat < xs.length := by lia
  refine ⟨xs[j.toNat], List.getElem_mem hj, List.getElem?_eq_getElem hj, ?_⟩
  have q := atI_nat (xs := xs.map V.str) (j := j.toNat) (v := .str xs[j.toNat]) (by simp [hj])
  rw [Int.toNat_of_nonneg h0] at q
  exact q
theorem at_map {xs : List Str} {j : Int} (h0 : 0 ≤ j) (h1 : j < (xs.length : Int)) : ∃ x ∈ xs, atI (xs.map V.str) j = some (.str x) := by
  obtain ⟨x, a, _, b⟩ := at_mapI h0 h1
  exact ⟨x, a, b⟩
theorem room0_merge (p t d1 d2 d3 : Addr) : mergeK [] (room0 p t d1 d2 d3) = room0 p t d1 d2 d3 := by
  with_unfolding_all rfl
theorem plc_names : ∀ {rs : List Ro}, (∀ r ∈ rs, r.isP = true) → (plc rs).map (·.1) = rs.map Ro.name ∧ ths rs = []
  | [], _ => ⟨rfl, rfl⟩
  | .th n s :: r, h => nomatch h _ List.mem_cons_self
  | .pl n :: r, h => by
    obtain ⟨a, b⟩ := plc_names (rs := r) fun x hx => h x (List.mem_cons_of_mem _ hx)
    exact ⟨by rw [show plc (.pl n :: r) = (n, false, none) :: plc r from rfl, List.map_cons, List.map_cons, a]; rfl, b⟩
  | .bx n :: r, h => by
    obtain ⟨a, b⟩ := plc_names (rs := r) fun x hx => h x (List.mem_cons_of_mem _ hx)
    exact ⟨by rw [show plc (.bx n :: r) = (n, true, none) :: plc r from rfl, List.map_cons, List.map_cons, a]; rfl, b⟩
  | .lk n k :: r, h => by
    obtain ⟨a, b⟩ := plc_names (rs := r) fun x hx => h x (List.mem_cons_of_mem _ hx)
    exact ⟨by rw [show plc (.lk n k :: r) = (n, true, some k) :: plc r from rfl, List.map_cons, List.map_cons, a]; rfl, b⟩
theorem plc_key : ∀ {rs : List Ro} {p : Str × Bool × Option Str} {k : Str}, p ∈ plc rs → p.2.2 = some k → ∃ n, Ro.lk n k ∈ rs
  | [], _, _, h, _ => nomatch h
  | .th n s :: r, p, k, h, e => by
    obtain ⟨n, z⟩ := plc_key (rs := r) h e
    exact ⟨n, List.mem_cons_of_mem _ z⟩
  | .pl n :: r, p, k, h, e => by
    rcases List.mem_cons.mp (show p ∈ (n, false, none) :: plc r from h) with z | z
    · rw [z] at e; cases e
    · obtain ⟨n, z⟩ := plc_key (rs := r) z e
      exact ⟨n, List.mem_cons_of_mem _ z⟩
  | .bx n :: r, p, k, h, e => by
    rcases List.mem_cons.mp (show p ∈ (n, true, none) :: plc r from h) with z | z
    · rw [z] at e; cases e
    · obtain ⟨n, z⟩ := plc_key (rs := r) z e
      exact ⟨n, List.mem_cons_of_mem _ z⟩
  | .lk n k' :: r, p, k, h, e => by
    rcases List.mem_cons.mp (show p ∈ (n, true, some k') :: plc r from h) with z | z
    · rw [z] at e
      cases e
      exact ⟨n, List.mem_cons_self⟩
    · obtain ⟨n, z⟩ := plc_key (rs := r) z e
      exact ⟨n, List.mem_cons_of_mem _ z⟩
theorem len_rows (rs : List Ro) : rs.length = (plc rs).length + (ths rs).length := by
  have h := (names_perm rs).length_eq
  rw [List.length_map, List.length_append, List.length_map, List.length_map] at h
  exact h
theorem good_of {rs : List Ro} {xs : List Str} {n : Nat} (nd : xs.Nodup) (hn : n ≤ 6) (hl : xs.length ≤ n + 6) (ok : ∀ x ∈ rs, x.nv) (hp : (plc rs).map (·.1) = xs.take n) (ht : ((ths rs).map (·.1)).Perm (xs.drop n)) (fl : ∃ m t, plc rs = (m, false, none) :: t)
    (ks : ∀ x y, Ro.lk x y ∈ rs → y ∈ xs.drop n) : Good rs := by
  have hpl : (plc rs).length ≤ n := by
    have := congrArg List.length hp
    rw [List.length_map, List.length_take] at this
    lia
  have htl : (ths rs).length ≤ 6 := by
    have := ht.length_eq
    rw [List.length_map, List.length_drop] at this
    lia
  refine ⟨ok, ?_, fl, by lia, htl, fun p h k e => ?_⟩
  · refine (names_perm rs).nodup_iff.mpr ?_
    rw [hp]
    refine (List.Perm.append_left _ ht).nodup_iff.mpr ?_
    rw [List.take_append_drop]
    exact nd
  · obtain ⟨m, z⟩ := plc_key h e
    exact ht.mem_iff.mpr (ks m k z)
end
end K07
namespace K07
open PySem L2 Tx Rk PyProof.Rows PySem.SeqAt
open PySem.PyData (strOk)
section
variable {P : Program} {w : World} {K : PySem.W.Frag} {mg : Str → Option Value} {base : Heap}
theorem ok_room {f fP fN fL : Addr} {fd fdP fdN fdL : FuncData} (F : Fun K "_law_room" "_law_room" sRoom f fd) (DP : Df K mg "_law_pick" sPick pPick fP fdP)
    (DN : Df K mg "_law_names" sNames pPick fN fdN) (DL : Df K mg "_law_place_line" sLine pLine fL fdL) (T : Bl mg)
    (GP : FnOk P w K mg base CX0 1 fP fdP pPick (spPick K)) (GN : FnOk P w K mg base CX0 2 fN fdN pPick (spNames K)) (GL : FnOk P w K mg base CX0 2 fL fdL pLine (spLine K)) : FnOk P w K mg base CX0 3 f fd pRoom (spRoom K) := by
  refine F.ok scRoom (fun vs H Q E h => ?_) (fun cdv A outer s H vs Q E hr h => ?_)
  · obtain ⟨a, ns, p, m, rfl, _⟩ := h
    rfl
  · obtain ⟨a, ns, p, m, rfl, hS, hn, p0, p1, m0, m1, q⟩ := h
    have hr1 : Room 1 _ := hr.mono (by decide)
    have hu := hu_of hr
    have hsl : sizeLine = 16777216 := sizeLine_eq
    -- all behind the reversal
    have tail : ∃ t, PSs (cxOf CX0 P w K mg base nRoom "_law_room" (defScope sRoom) f cdv A outer s H E).nox ((defBody sRoom).drop 2) t ∧
        ∀ (l : Addr) (xs : List Str) (H2 : Hp), Same H H2 → H l = none → H2 l = some (.lst (xs.map V.str)) → (xs.length : Int) = p + m → (∀ x ∈ xs, Nv x) → xs.Nodup →
          t { nx := fun _ H' => Q .non H', rt := Q } [some (.ref a), some (.int p), some (.int m), some (.ref l), none, none, none, none, none, none] H2 := by
      refine ⟨_, (pss_cons (ps_set (i := 4) scRoom.nd rfl (Or.inr rfl) (pe_disp (pps_cons pe_str (pe_slice sl_list (pv 3) po_none (po_some (pv 1))) (pps_cons pe_str (pe_slice sl_list (pv 3) (po_some (pv 1)) po_none) (pps_cons pe_str pe_dnewK (pps_cons pe_str pe_dnewK (pps_cons pe_str pe_dnewK pps_nil))))) rfl rfl (by decide) (by decide)))
      (pss_cons (ps_lc (i := 6) (N := ["_law_k", "_law_script", "_law_room_here", "_law_names_here"]) (sc := defScope sRoom) (own := ["_law_k"]) (fr := ["_law_script", "_law_room_here", "_law_names_here"]) (js := [0, 4, 3]) scRoom.nd rfl rfl ⟨rfl, rfl, rfl, rfl, by decide +kernel, by decide +kernel, by decide +kernel, rfl, by decide +kernel⟩ rfl (pi_range1 (by rfl) T.range (pa_cons (pv 1) pa_nil)) (fun _ _ _ _ => pg_name (i := 0) (show List.Nodup (["_law_k", "_law_script", "_law_room_here", "_law_names_here"] : List Str) by decide +kernel) rfl (Or.inl rfl)) (fun _ _ _ _ => pif_nil) (fun _ _ _ _ => (pe_call GL hr (by rfl) DL.m DL.F.kp DL.b .nil pass0 (pa_cons (pv 1) (pa_cons (pv 0) (pa_cons (pv 2) (pa_cons (pe_ix (ix_listK K rfl) (pv 3) (pv 0) (fun _ _ => rfl)) pa_nil)))))))
      (pss_cons (ps_set (i := 7) scRoom.nd rfl (Or.inl rfl) (pe_op op_cat (pe_call GN hr (by rfl) DN.m DN.F.kp DN.b .nil pass0 (pa_cons (pv 0) (pa_cons pe_int (pa_cons pe_int pa_nil)))) (pe_lst (pa_cons (pe_ix ix_list (pv 3) pe_int (fun _ _ => rfl)) pa_nil))))
      (pss_cons (ps_for PassesOwn.never rfl (pi_range1 (by rfl) T.range (pa_cons (pv 2) pa_nil)) (pg_name (i := 5) scRoom.nd rfl (Or.inl rfl)) (pss_cons (ps_set (i := 8) scRoom.nd rfl (Or.inl rfl) (pe_ix ix_list (pv 3) (pe_op op_add (pv 1) (pv 5)) (fun _ _ => rfl)))
      (pss_cons (ps_dput hu (pe_dget hu (pv 4) pe_str (fun _ _ => rfl)) (pv 8) (pe_ix ix_list (pv 7) (pe_call GP hr1 (by rfl) DP.m DP.F.kp DP.b .nil pass0 (pa_cons (pv 0) (pa_cons (pe_op op_add pe_int (pv 5)) (pa_cons pe_int pa_nil)))) (fun _ _ => rfl)) rfl)
      (pss_cons (ps_set (i := 9) scRoom.nd rfl (Or.inl rfl) (pe_call GP hr1 (by rfl) DP.m DP.F.kp DP.b .nil pass0 (pa_cons (pv 0) (pa_cons (pe_op op_add pe_int (pv 5)) (pa_cons (pe_op op_add (pe_callB call_len (by rfl) T.len PySem.boot_len (pa_cons (pv 6) pa_nil)) pe_int) pa_nil)))))
      (pss_one (ps_expr (pe_bm PySem.F.plainAttrs_list PySem.F.slot_list_insert PySem.F.type_list_insert mt_insert (pv 6) (pa_cons (pv 9) (pa_cons (pe_op op_add_str (pe_op op_add_str (pe_op op_add_str pe_str (pv 8)) pe_str) (pe_dget hu (pe_dget hu (pv 4) pe_str (fun _ _ => rfl)) (pv 8) (fun _ _ => rfl))) pa_nil)))))))))
      (pss_cons (ps_dput hu (pv 4) pe_str (pe_lc (N := ["_law_line_here"]) (sc := defScope sRoom) (own := ["_law_line_here"]) (fr := []) (js := []) ⟨rfl, rfl, rfl, rfl, by decide +kernel, by decide +kernel, by decide +kernel, rfl, by decide +kernel⟩ rfl (pi_list (pv 6)) (fun _ _ _ _ => pg_name (i := 0) (show List.Nodup (["_law_line_here"] : List Str) by decide +kernel) rfl (Or.inl rfl)) (fun _ _ _ _ => pif_one (pt_val (bmK K rfl (pe_bm PySem.F.plainAttrs_str PySem.F.slot_str_startswith PySem.F.type_str_startswith mt_starts (pv 0) (pa_cons pe_str pa_nil))))) (fun _ _ _ _ => (pe_ix (ix_listK K rfl) (bmK K rfl (pe_bm PySem.F.plainAttrs_str PySem.F.slot_str_split PySem.F.type_str_split mt_split (pv 0) (pa_cons pe_str pa_nil))) pe_int (fun _ _ => rfl)))) rfl)
      (pss_cons (ps_dput hu (pv 4) pe_str (pv 6) rfl)
      (pss_one (ps_ret (pv 4))))))))), ?_⟩
      intro l xs H2 sm hl hl2 hxl hxs hnd
      have hml : (xs.map V.str).length = xs.length := List.length_map ..
      obtain ⟨pn, hpn⟩ : ∃ pn : Nat, (pn : Int) = p := ⟨p.toNat, Int.toNat_of_nonneg (by lia)⟩
      obtain ⟨mn, hmn⟩ : ∃ mn : Nat, (mn : Int) = m := ⟨m.toNat, Int.toNat_of_nonneg (by lia)⟩
      have hS2 := sm.seq hS
      -- the dict
      intro r hr2
      refine ⟨_, rfl, _, rfl, _, rfl, l, _, rfl, SqL.of (by rw [upd_ne (ne_of_none hl2 hr2)]; exact hl2), fun pl hpl => ?_⟩
      obtain ⟨a1, a2⟩ := upd_none hpl
      refine ⟨_, rfl, _, rfl, _, rfl, l, _, rfl, SqL.of (by rw [upd_ne (ne_of_none hl2 a2), upd_ne (ne_of_none hl2 hr2)]; exact hl2), fun th hth => ?_⟩
      obtain ⟨b1, b2⟩ := upd_none hth
      obtain ⟨b3, b4⟩ := upd_none b2
      intro d1 hd1
      obtain ⟨c1, c2⟩ := upd_none hd1
      obtain ⟨c3, c4⟩ := upd_none c2
      obtain ⟨c5, c6⟩ := upd_none c4
      intro d2 hd2
      obtain ⟨e1, e2⟩ := upd_none hd2
      obtain ⟨e3, e4⟩ := upd_none e2
      obtain ⟨e5, e6⟩ := upd_none e4
      obtain ⟨e7, e8⟩ := upd_none e6
      intro d3 hd3
      obtain ⟨g1, g2⟩ := upd_none hd3
      obtain ⟨g3, g4⟩ := upd_none g2
      obtain ⟨g5, g6⟩ := upd_none g4
      obtain ⟨g7, g8⟩ := upd_none g6
      obtain ⟨g9, g10⟩ := upd_none g8
      have cut1 : cutV (xs.map V.str) none (some p) = (xs.take pn).map V.str := by
        rw [← hpn]
        unfold cutV
        rw [HT.sIx_none, HT.sIx_nat, List.drop_zero, Nat.sub_zero, hml, List.map_take]
        congr 1
        lia
      have cut2 : cutV (xs.map V.str) (some p) none = (xs.drop pn).map V.str := by
        rw [← hpn]
        unfold cutV
        rw [HT.sIx_none, HT.sIx_nat, hml, List.map_drop, Nat.min_eq_left (by lia)]
        refine List.take_of_length_le ?_
        simp
      refine ⟨by rw [upd_ne g9.symm, upd_ne e7.symm, upd_ne c5.symm, upd_ne b3.symm, upd_ne a1.symm]; exact upd_same, room0 pl th d1 d2 d3, rfl, by show 5 ≤ 15; decide, ?_⟩
      rw [room0_merge]
      have frH : ∀ {b : Addr}, H2 b = none → H b = none := fun e => sm.free e
      -- the heap with the room in it
      have sm3 : ∀ b o, H2 b = some o → (upd (upd (upd (upd (upd (upd (upd H2 r (.dK [])) pl (.lst (cutV (xs.map V.str) none (some p)))) th (.lst (cutV (xs.map V.str) (some p) none))) d1 (.dK [])) d2 (.dK [])) d3 (.dK [])) r (.dK (room0 pl th d1 d2 d3))) b = some o := fun b o e => by
        rw [upd_ne (ne_of_none e hr2), upd_ne (ne_of_none e g10), upd_ne (ne_of_none e e8), upd_ne (ne_of_none e c6), upd_ne (ne_of_none e b4), upd_ne (ne_of_none e a2), upd_ne (ne_of_none e hr2)]
        exact e
      have M0 : ∀ D, (upd (upd (upd (upd (upd (upd (upd H2 r (.dK [])) pl (.lst (cutV (xs.map V.str) none (some p)))) th (.lst (cutV (xs.map V.str) (some p) none))) d1 (.dK [])) d2 (.dK [])) d3 (.dK [])) r (.dK (room0 pl th d1 d2 d3))) D = none →
          Ap H r pl th d1 d2 d3 l D ∧ Mk H (upd (upd (upd (upd (upd (upd (upd (upd H2 r (.dK [])) pl (.lst (cutV (xs.map V.str) none (some p)))) th (.lst (cutV (xs.map V.str) (some p) none))) d1 (.dK [])) d2 (.dK [])) d3 (.dK [])) r (.dK (room0 pl th d1 d2 d3))) D (.lst [])) r pl th d1 d2 d3 l D xs pn [] 0 := fun D hD => by
        obtain ⟨k1, k2⟩ := upd_none hD
        obtain ⟨k3, k4⟩ := upd_none k2
        obtain ⟨k5, k6⟩ := upd_none k4
        obtain ⟨k7, k8⟩ := upd_none k6
        obtain ⟨k9, k10⟩ := upd_none k8
        obtain ⟨k11, k12⟩ := upd_none k10
        obtain ⟨k13, k14⟩ := upd_none k12
        refine ⟨⟨frH hr2, frH c6, frH e8, frH g10, hl, frH k14, c5.symm, e7.symm, g9.symm, e1.symm, g3.symm, g1.symm, k11, k9, fun z => by rw [z] at k14; rw [k14] at hl2; cases hl2⟩, ?_⟩
        refine ⟨fun b o e => by rw [upd_ne (ne_of_none (sm b o e) k14)]; exact sm3 b o (sm b o e), by rw [upd_ne k1.symm]; exact upd_same, ?_, ?_, ?_, ?_, ⟨[], ?_, Nat.le_refl _, fun _ z => nomatch z⟩, by rw [upd_ne (ne_of_none hl2 k14)]; exact sm3 _ _ hl2, upd_same, (fun _ z => nomatch z), rfl, fun _ _ z => nomatch z⟩
        · rw [upd_ne k11.symm, upd_ne a1, upd_ne g7.symm, upd_ne e5.symm, upd_ne c3.symm, upd_ne b1.symm, upd_same, cut1]
        · rw [upd_ne k9.symm, upd_ne b3, upd_ne g5.symm, upd_ne e3.symm, upd_ne c1.symm, upd_same, cut2]
        · rw [upd_ne k7.symm, upd_ne c5, upd_ne g3.symm, upd_ne e1.symm, upd_same]
          rfl
        · rw [upd_ne k5.symm, upd_ne e7, upd_ne g1.symm, upd_same]
          rfl
        · rw [upd_ne k3.symm, upd_ne g9, upd_same]
      generalize (upd (upd (upd (upd (upd (upd (upd H2 r (.dK [])) pl (.lst (cutV (xs.map V.str) none (some p)))) th (.lst (cutV (xs.map V.str) (some p) none))) d1 (.dK [])) d2 (.dK [])) d3 (.dK [])) r (.dK (room0 pl th d1 d2 d3))) = H3 at M0 sm3 ⊢
      -- the lines of the places
      refine ⟨_, rfl, p, rfl, by lia, by lia, fun D hD => ?_⟩
      obtain ⟨ap, m0'⟩ := M0 D hD
      refine lcJ (n := p.toNat) (fun i ys H4 => ∃ rs : List Ro, ys = (rs.map Ro.txt).map V.str ∧ rs.map Ro.name = xs.take i ∧ (∀ ro ∈ rs, ro.isP = true) ∧ (rs = [] ∨ ∃ x t, rs = .pl x :: t) ∧ Mk H H4 r pl th d1 d2 d3 l D xs pn rs i) ⟨[], rfl, rfl, (fun _ z => nomatch z), .inl rfl, m0'⟩ (fun i _ _ hi _ => hi) (fun _ _ _ => Nat.le_refl _) ?_ ?_
      · rintro i ys H4 x H5 hi ⟨rs, rfl, hnm, hisP, hfl, M⟩ ⟨rfl, rfl⟩
        refine lc_yes ?_
        obtain ⟨x, hxm, hxi, hat⟩ := at_mapI (xs := xs) (j := 0 + (i : Int)) (by lia) (by lia)
        have hxi' : xs[i]? = some x := by
          rw [show (0 + (i : Int)).toNat = i by lia] at hxi
          exact hxi
        have hil : i < xs.length := (List.getElem?_eq_some_iff.mp hxi').1
        have htk : xs.take (i + 1) = xs.take i ++ [x] := by
          rw [List.take_succ_eq_append_getElem hil]
          congr 2
          exact (List.getElem?_eq_some_iff.mp hxi').2
        have hxn : x ∉ rs.map Ro.name := by
          rw [hnm]
          have nd2 : (xs.take (i + 1)).Nodup := List.Sublist.nodup (List.take_sublist _ _) hnd
          rw [htk] at nd2
          intro z
          exact ((List.nodup_append.mp nd2).2.2 x z x (List.mem_singleton.mpr rfl)) rfl
        obtain ⟨L3, q3, z3, w3⟩ := M.l3
        have b1 := lidsK_len rs
        have b2 := keysK_len rs
        have bl := M.len
        refine ⟨_, rfl, _, rfl, _, rfl, _, rfl, _, rfl, l, _, _, _, rfl, rfl, SqL.of M.nm, hat, ?_⟩
        refine ⟨a, ns, _, r, pl, th, d1, d2, d3, x, xs.drop pn, lidsK rs, keysK rs, rfl, M.sm.seq hS, hn, by lia, by lia, hxs x hxm, M.room, M.th, fun y hy => hxs y (List.mem_of_mem_drop hy), by rw [List.length_drop]; lia, M.l1, M.l2, by lia, by lia, ap.r1, ap.r2, ap.n12, lidsK_none hxn, keysK_none hxn, fun ro H6 hro hP hnv hk0 hkt u1 u2 kp => ?_⟩
        have nD1 : D ≠ d1 := kind_ne M.ln M.l1
        have nD2 : D ≠ d2 := kind_ne M.ln M.l2
        have nD3 : D ≠ d3 := kind_ne M.ln q3
        have nDr : D ≠ r := kind_ne M.ln M.room
        have th0 := (plc_names hisP).2
        have th1 : ths (rs ++ [ro]) = [] := by
          rw [ths_app, th0]
          cases ro with
          | th n s => cases hP
          | _ => rfl
        refine ⟨_, kp D _ M.ln nD1 nD2, by rw [List.length_map, List.length_map]; lia, rs ++ [ro], by simp, by rw [List.map_append, hnm, htk]; show _ ++ [ro.name] = _; rw [hro], fun y hy => ?_, ?_, ?_⟩
        · rcases List.mem_append.mp hy with z | z
          · exact hisP y z
          · rw [List.mem_singleton.mp z]; exact hP
        · refine .inr ?_
          rcases hfl with z | ⟨x0, t, z⟩
          · rw [z]
            have hi0 : i = 0 := by
              have := congrArg List.length hnm
              rw [z, List.length_map, List.length_take] at this
              simp at this
              lia
            exact ⟨x, [], by rw [hk0 (by lia)]; rfl⟩
          · exact ⟨x0, t ++ [ro], by rw [z]; rfl⟩
        refine ⟨fun b o e => ?_, ?_, ?_, ?_, ?_, ?_, ⟨L3, by rw [upd_ne nD3.symm]; exact kp _ _ q3 ap.n13.symm ap.n23.symm, by lia, by rw [th1]; exact fun _ z => nomatch z⟩, ?_, by rw [upd_same]; simp, fun z hz => ?_, by rw [List.length_append, bl]; rfl, fun y z hz => ?_⟩
        · rw [upd_ne (ne_of_none e ap.fD)]
          exact kp b o (M.sm b o e) (ne_of_none e ap.f1) (ne_of_none e ap.f2)
        · rw [upd_ne nDr.symm]
          exact kp _ _ M.room ap.r1 ap.r2
        · rw [upd_ne ap.Dp.symm]
          exact kp _ _ M.pl (kind_ne M.pl M.l1) (kind_ne M.pl M.l2)
        · rw [upd_ne ap.Dt.symm]
          exact kp _ _ M.th (kind_ne M.th M.l1) (kind_ne M.th M.l2)
        · rw [upd_ne nD1.symm, lidsK_app]
          exact u1
        · rw [upd_ne nD2.symm, keysK_app]
          exact u2
        · rw [upd_ne ap.Dl.symm]
          exact kp _ _ M.nm (kind_ne M.nm M.l1) (kind_ne M.nm M.l2)
        · rcases List.mem_append.mp hz with hz | hz
          · exact M.ok z hz
          · rw [List.mem_singleton.mp hz]; exact hnv
        · rcases List.mem_append.mp hz with hz | hz
          · exact M.ks y z hz
          · have e := List.mem_singleton.mp hz
            have ey : y = x := by rw [← hro, ← e]; rfl
            subst ey
            exact hkt z e.symm
      · rintro ys H4 ⟨rs, rfl, hnm, hisP, hfl, M⟩
        have hpt : p.toNat = pn := by lia
        rw [hpt] at hnm M
        -- the shapes
        refine ⟨_, rfl, a, ns, _, _, rfl, M.sm.seq hS, hn, by decide, by decide, by decide, by decide, fun l2 zs H5 s5 f5 e5 hz5 hzn hznd => ?_⟩
        obtain ⟨x0, hx0, _, hat0⟩ := at_mapI (xs := xs) (j := 0) (by decide) (by lia)
        refine ⟨_, rfl, l, _, _, _, rfl, rfl, SqL.of (s5 _ _ M.nm), hat0, by show 1 ≤ sizeLine; decide, fun l3 hl3 => ?_⟩
        refine ⟨l2, l3, _, _, rfl, rfl, by rw [upd_ne (ne_of_none e5 hl3)]; exact e5, upd_same, by rw [List.length_map]; show zs.length + 1 ≤ sizeLine; lia, fun sh hsh => ?_⟩
        obtain ⟨y1, y2⟩ := upd_none hsh
        have s6 : ∀ b o, H4 b = some o → (upd (upd H5 l3 (.lst [V.str x0])) sh (.lst (zs.map V.str ++ [V.str x0]))) b = some o := fun b o e => by
          rw [upd_ne (ne_of_none (s5 b o e) y2), upd_ne (ne_of_none (s5 b o e) hl3)]
          exact s5 b o e
        have M6 : Mk H (upd (upd H5 l3 (.lst [V.str x0])) sh (.lst (zs.map V.str ++ [V.str x0]))) r pl th d1 d2 d3 l D xs pn rs (pn + 0) := by
          obtain ⟨L3, q3, z3, w3⟩ := M.l3
          exact ⟨fun b o e => s6 b o (M.sm b o e), s6 _ _ M.room, s6 _ _ M.pl, s6 _ _ M.th, s6 _ _ M.l1, s6 _ _ M.l2, ⟨L3, s6 _ _ q3, by lia, w3⟩, s6 _ _ M.nm, s6 _ _ M.ln, M.ok, M.len, M.ks⟩
        have hsh6 : (upd (upd H5 l3 (.lst [V.str x0])) sh (.lst (zs.map V.str ++ [V.str x0]))) sh = some (.lst ((zs ++ [x0]).map V.str)) := by rw [upd_same]; simp
        have hss : ∀ z ∈ zs ++ [x0], Nv z := fun z hz => by
          rcases List.mem_append.mp hz with hz | hz
          · exact hzn z hz
          · rw [List.mem_singleton.mp hz]; exact hxs x0 hx0
        have hsl4 : (zs ++ [x0]).length = 4 := by rw [List.length_append]; show zs.length + 1 = 4; lia
        generalize (upd (upd H5 l3 (.lst [V.str x0])) sh (.lst (zs.map V.str ++ [V.str x0]))) = H6 at M6 hsh6 ⊢
        generalize zs ++ [x0] = ss at hsh6 hss hsl4
        have fsh : sh ≠ D := fun z => by
          have := s5 _ _ M.ln
          rw [← z, y2] at this
          cases this
        have fsd : sh ≠ d3 := fun z => by
          obtain ⟨L3, q3, _⟩ := M.l3
          have := s5 _ _ q3
          rw [← z, y2] at this
          cases this
        have plN := plc_names hisP
        have hfl' : ∃ n t, plc rs = (n, false, none) :: t := by
          rcases hfl with z | ⟨x, t, z⟩
          · have := M.len
            rw [z] at this
            simp at this
            lia
          · exact ⟨x, plc t, by rw [z]; rfl⟩
        -- the lines of the things
        refine ⟨_, rfl, m, rfl, by lia, by lia, for_range (n := m.toNat) (fun i σ H7 => ∃ (v5 v8 v9 : Option V) (rs' : List Ro),
          σ = [some (.ref a), some (.int p), some (.int m), some (.ref l), some (.ref r), v5, some (.ref D), some (.ref sh), v8, v9] ∧ plc rs' = plc rs ∧ ((ths rs').map (·.1)).Perm ((xs.drop pn).take i) ∧ Mk H H7 r pl th d1 d2 d3 l D xs pn rs' (pn + i) ∧ H7 sh = some (.lst (ss.map V.str)))
          ⟨none, none, none, rs, rfl, rfl, by rw [plN.2]; exact .nil, M6, hsh6⟩ ?_ ?_⟩
        · rintro i σ H7 hi ⟨v5, v8, v9, rs', rfl, hpl', hth', M, hsh7⟩
          obtain ⟨x, hxm, hxi, hat⟩ := at_mapI (xs := xs) (j := p + (0 + (i : Int))) (by lia) (by lia)
          have hxN := hxs x hxm
          have hxL := hxN.len
          have hxi' : (xs.drop pn)[i]? = some x := by
            rw [List.getElem?_drop]
            rw [show (p + (0 + (i : Int))).toNat = pn + i by lia] at hxi
            exact hxi
          have hil : i < (xs.drop pn).length := (List.getElem?_eq_some_iff.mp hxi').1
          have htk : (xs.drop pn).take (i + 1) = (xs.drop pn).take i ++ [x] := by
            rw [List.take_succ_eq_append_getElem hil]
            congr 2
            exact (List.getElem?_eq_some_iff.mp hxi').2
          have hxn : x ∉ (xs.drop pn).take i := by
            have nd2 : ((xs.drop pn).take (i + 1)).Nodup := List.Sublist.nodup ((List.take_sublist _ _).trans (List.drop_sublist _ _)) hnd
            rw [htk] at nd2
            intro z
            exact ((List.nodup_append.mp nd2).2.2 x z x (List.mem_singleton.mpr rfl)) rfl
          obtain ⟨L3, q3, z3, w3⟩ := M.l3
          have bl := M.len
          have hS7 := M.sm.seq hS
          refine ⟨_, rfl, _, rfl, _, rfl, _, _, rfl, rfl, l, _, _, _, rfl, rfl, SqL.of M.nm, hat, ?_⟩
          refine ⟨_, rfl, _, rfl, _, rfl, _, _, rfl, rfl, a, ns, _, _, rfl, hS7, hn, by lia, by lia, by decide, fun j j0 j1 => ?_⟩
          obtain ⟨y, hym, _, hay⟩ := at_mapI (xs := ss) (j := j) j0 (by lia)
          have hyN := hss y hym
          have hyL := hyN.len
          refine ⟨sh, _, _, _, rfl, rfl, SqL.of hsh7, hay, _, rfl, r, _, rfl, dget M.room (room0_shapes _ _ _ _ _), _, rfl, d3, _, rfl, DPut.k (k := (Sum.inr x : Key)) q3 (by lia), ?_⟩
          have kp : ∀ b o, H7 b = some o → b ≠ d3 → (upd H7 d3 (.dK (putK L3 (Sum.inr x) (V.str y)))) b = some o := fun b o e hb => by rw [upd_ne hb]; exact e
          have nD3 : D ≠ d3 := kind_ne M.ln q3
          have lnK := kp _ _ M.ln nD3
          have sK := seq_keep (K := K) hS7 kp q3
          have z3' := length_putK L3 (Sum.inr x : Key) (V.str y)
          have hlm : ((rs'.map Ro.txt).map V.str).length = rs'.length := by rw [List.length_map, List.length_map]
          refine ⟨_, rfl, _, rfl, _, _, rfl, rfl, _, rfl, _, _, rfl, .inl ⟨_, SqL.of lnK, rfl⟩, _, _, rfl, rfl, a, ns, _, _, rfl, sK, hn, by lia, by lia, by lia, fun at' a0 a1 => ?_⟩
          rw [hlm] at a1
          have t1 : ("thing " : Str).length = 6 := by decide +kernel
          have t2 : (" " : Str).length = 1 := by decide +kernel
          have hv : valV (putK L3 (Sum.inr x : Key) (V.str y)) (Sum.inr x : Key) = some (V.str y) := by rw [valV_put, if_pos rfl]
          refine ⟨_, rfl, .inl ⟨rfl, _, SqL.of lnK⟩, _, rfl, _, rfl, _, _, rfl, rfl, by rw [t1]; lia, _, _, rfl, rfl, by rw [len_app, t1, t2]; lia, _, rfl, r, _, rfl, dget (kp _ _ M.room ap.r3) (room0_shapes _ _ _ _ _), _, rfl, d3, _, rfl, dget upd_same hv,
            _, _, rfl, rfl, by rw [len_app, len_app, t1, t2]; lia, D, _, _, _, rfl, rfl, a0, by rw [hlm]; lia, lnK, by rw [hlm]; lia, ?_⟩
          have nDr : D ≠ r := kind_ne M.ln M.room
          have thp := ths_ins rs' at'.toNat x y
          refine ⟨_, _, _, rs'.take at'.toNat ++ (.th x y :: rs'.drop at'.toNat), rfl, by rw [plc_ins]; exact hpl', ?_, ?_, ?_⟩
          · rw [htk]
            refine (thp.map (·.1)).trans ?_
            rw [List.map_cons]
            exact (List.Perm.cons x hth').trans (List.perm_append_singleton x _).symm
          · refine ⟨fun b o e => ?_, ?_, ?_, ?_, ?_, ?_, ⟨_, by rw [upd_ne nD3.symm]; exact upd_same, by lia, fun z hz => ?_⟩, ?_, ?_, fun z hz => ?_, ?_, fun u v huv => ?_⟩
            · rw [upd_ne (ne_of_none e ap.fD)]
              exact kp b o (M.sm b o e) (ne_of_none e ap.f3)
            · rw [upd_ne nDr.symm]
              exact kp _ _ M.room ap.r3
            · rw [upd_ne ap.Dp.symm]
              exact kp _ _ M.pl (kind_ne M.pl q3)
            · rw [upd_ne ap.Dt.symm]
              exact kp _ _ M.th (kind_ne M.th q3)
            · rw [upd_ne (kind_ne M.ln M.l1).symm, lidsK_ins]
              exact kp _ _ M.l1 ap.n13
            · rw [upd_ne (kind_ne M.ln M.l2).symm, keysK_ins]
              exact kp _ _ M.l2 ap.n23
            · rcases List.mem_cons.mp (thp.mem_iff.mp hz) with e | e
              · rw [e]
                exact hv
              · have hne : z.1 ≠ x := fun ez => hxn (hth'.mem_iff.mp (List.mem_map.mpr ⟨z, e, ez⟩))
                rw [valV_put, if_neg (kne hne)]
                exact w3 z e
            · rw [upd_ne ap.Dl.symm]
              exact kp _ _ M.nm (kind_ne M.nm q3)
            · rw [upd_same]
              simp [List.map_take, List.map_drop]
              rfl
            · rcases List.mem_append.mp hz with hz | hz
              · exact M.ok z (List.mem_of_mem_take hz)
              · rcases List.mem_cons.mp hz with hz | hz
                · rw [hz]
                  exact ⟨hxN, hyN⟩
                · exact M.ok z (List.mem_of_mem_drop hz)
            · rw [List.length_append, List.length_cons, List.length_take, List.length_drop]
              lia
            · rcases List.mem_append.mp huv with hz | hz
              · exact M.ks u v (List.mem_of_mem_take hz)
              · rcases List.mem_cons.mp hz with hz | hz
                · cases hz
                · exact M.ks u v (List.mem_of_mem_drop hz)
          · rw [upd_ne fsh]
            exact kp _ _ hsh7 fsd
        · rintro σ H7 ⟨v5, v8, v9, rs', rfl, hpl', hth', M, hsh7⟩
          have hdl : (xs.drop pn).length ≤ m.toNat := by rw [List.length_drop]; lia
          rw [List.take_of_length_le hdl] at hth'
          have G : Good rs' := good_of hnd (by lia) (by lia) M.ok (by rw [hpl', plN.1]; exact hnm) hth' (by rw [hpl']; exact hfl') M.ks
          -- the things, read off the lines
          refine ⟨_, rfl, D, rfl, ⟨_, SqL.of M.ln⟩, fun D2 hD2 => ?_⟩
          have hll : ((rs'.map Ro.txt).map V.str).length = rs'.length := by rw [List.length_map, List.length_map]
          have bl := M.len
          refine lcJ (n := rs'.length) (fun i ys H8 => ys = ((ths (rs'.take i)).map (·.1)).map V.str ∧ Same H7 H8 ∧ H8 D2 = some (.lst ys)) ⟨rfl, Same.new hD2, upd_same⟩
            (fun i ys H8 hi hh0 => by obtain ⟨_, s8, _⟩ := hh0; exact ⟨_, .str rs'[i].txt, SqL.of (s8 _ _ M.ln), by simp [hi]⟩) (fun ys H8 hh0 => by obtain ⟨_, s8, _⟩ := hh0; exact ⟨_, SqL.of (s8 _ _ M.ln), by simp⟩) ?_ ?_
          · rintro i ys H8 x H9 hi ⟨rfl, s8, hD8⟩ ⟨rfl, hx⟩
            have hx1 := hx _ (SqL.of (s8 _ _ M.ln))
            have hx2 : x = .str rs'[i].txt := by
              rw [List.getElem?_map, List.getElem?_map, List.getElem?_eq_getElem hi] at hx1
              exact (Option.some.inj hx1).symm
            subst hx2
            have hnv := M.ok _ (List.getElem_mem hi)
            have hLl := txt_len hnv
            have htk : rs'.take (i + 1) = rs'.take i ++ [rs'[i]] := List.take_succ_eq_append_getElem hi
            have hle : (((ths (rs'.take i)).map (·.1)).map V.str).length < sizeLine := by
              have h1 := len_rows (rs'.take i)
              rw [List.length_take] at h1
              rw [List.length_map, List.length_map]
              lia
            generalize rs'[i] = ro at hnv hLl htk
            refine ⟨_, rfl, rfl, _, _, rfl, rfl, _, rfl, ?_⟩
            have hst := starts_txt ro
            refine ite2 (fun hs => ?_) (fun hs => ⟨?_, s8, hD8⟩)
            · rw [show Txt.startswith ro.txt (Str.ofString "thing ") = !ro.isP from hst] at hs
              refine ⟨_, rfl, rfl, _, _, rfl, rfl, by decide +kernel, by lia, fun p3 hp3 => ?_⟩
              have hsp := split_txt hnv
              obtain ⟨n, sh', rfl⟩ : ∃ n s, ro = .th n s := by
                cases ro with
                | th n s => exact ⟨n, s, rfl⟩
                | _ => exact absurd (show false = true from hs) Bool.false_ne_true
              have hay : atI ((Txt.split (Ro.th n sh').txt blank).map V.str) ((1 : Nat) : Int) = some (.str n) := atI_nat (by rw [hsp]; rfl)
              refine ⟨p3, _, _, _, rfl, rfl, SqL.of upd_same, hay, _, by rw [upd_ne (ne_of_none hD8 hp3)]; exact hD8, hle, ?_, (s8.trans (Same.new hp3)).put hD2, upd_same⟩
              rw [htk, ths_app, List.map_append, List.map_append]
              rfl
            · rw [show Txt.startswith ro.txt (Str.ofString "thing ") = !ro.isP from hst] at hs
              have : ths (rs'.take (i + 1)) = ths (rs'.take i) := by
                rw [htk, ths_app]
                cases ro with
                | th n s => exact absurd rfl hs
                | _ => exact List.append_nil _
              rw [this]
          · rintro ys H8 ⟨rfl, s8, hD8⟩
            rw [List.take_length] at hD8
            refine ⟨_, rfl, r, _, rfl, DPut.k (k := (Sum.inr "things" : Key)) (s8 _ _ M.room) (by show 5 < sizeLine; decide), ?_⟩
            have z9 := length_putK (room0 pl th d1 d2 d3) (Sum.inr "things" : Key) (V.ref D2)
            refine ⟨_, rfl, _, rfl, r, _, rfl, DPut.k (k := (Sum.inr "lines" : Key)) upd_same (by show _ < sizeLine; have : (room0 pl th d1 d2 d3).length = 5 := rfl; lia), ?_⟩
            obtain ⟨L3, q3, z3, w3⟩ := M.l3
            have nr2 : D2 ≠ r := fun z => by rw [z] at hD2; rw [M.room] at hD2; cases hD2
            have up : ∀ (u v : HO) b o, H7 b = some o → b ≠ r → upd (upd H8 r u) r v b = some o := fun u v b o e hb => by rw [upd_ne hb, upd_ne hb]; exact s8 b o e
            have hplr : (plc rs').map (·.1) = xs.take pn := by rw [hpl', plN.1]; exact hnm
            have hc1 := congrArg List.length hplr
            rw [List.length_map, List.length_take] at hc1
            have hc2 := hth'.length_eq
            rw [List.length_map, List.length_drop] at hc2
            refine ⟨_, rfl, q r rs' _ (fun b o e => up _ _ b o (M.sm b o e) (ne_of_none e ap.fr)) ⟨⟨_, L3, pl, D2, d1, d2, d3, D, upd_same, ?_, ?_, ?_, ?_, ?_, ?_, ?_, ?_, up _ _ _ _ M.l1 ap.r1.symm, up _ _ _ _ M.l2 ap.r2.symm, up _ _ _ _ q3 ap.r3.symm, up _ _ _ _ M.ln (kind_ne M.ln M.room), w3⟩, G⟩ (by lia) (by lia) (by lia)⟩
            · rw [valV_put, if_neg (kne (by decide +kernel)), valV_put, if_neg (kne (by decide +kernel))]
              exact room0_places _ _ _ _ _
            · rw [valV_put, if_neg (kne (by decide +kernel)), valV_put, if_pos rfl]
            · rw [valV_put, if_neg (kne (by decide +kernel)), valV_put, if_neg (kne (by decide +kernel))]
              exact room0_lids _ _ _ _ _
            · rw [valV_put, if_neg (kne (by decide +kernel)), valV_put, if_neg (kne (by decide +kernel))]
              exact room0_keys _ _ _ _ _
            · rw [valV_put, if_neg (kne (by decide +kernel)), valV_put, if_neg (kne (by decide +kernel))]
              exact room0_shapes _ _ _ _ _
            · rw [valV_put, if_pos rfl]
            · rw [hplr]
              exact up _ _ _ _ M.pl (kind_ne M.pl M.room)
            · rw [upd_ne nr2, upd_ne nr2]
              exact hD8
    obtain ⟨tt, ht, rt⟩ := tail
    refine ⟨_, pss_cons (ps_set (i := 3) scRoom.nd rfl (Or.inr rfl) (pe_call GN hr (by rfl) DN.m DN.F.kp DN.b .nil pass0 (pa_cons (pv 0) (pa_cons pe_int (pa_cons (pe_op op_add (pv 1) (pv 2)) pa_nil)))))
      (pss_cons (ps_if (pt_cmpR op_eq (pe_call GP hr1 (by rfl) DP.m DP.F.kp DP.b .nil pass0 (pa_cons (pv 0) (pa_cons pe_int (pa_cons pe_int pa_nil)))) pe_int (nomark _))
        (pss_one (ps_expr (pe_bm0 PySem.F.plainAttrs_list PySem.F.slot_list_reverse PySem.F.type_list_reverse mt_reverse (pv 3)))) pss_nil) ht), ?_⟩
    refine ⟨_, rfl, _, rfl, _, rfl, _, _, rfl, rfl, a, ns, _, _, rfl, hS, hn, by decide, by decide, by lia, by lia, fun l xs H2 sm hl hl2 hxl hxs hnd => ?_⟩
    refine ⟨_, rfl, a, ns, _, _, rfl, sm.seq hS, hn, by decide, by decide, by decide, fun b b0 b1 => ⟨rfl, _, rfl, ?_⟩⟩
    refine ite2 (fun _ => ?_) (fun _ => ?_)
    · refine ⟨_, rfl, .inl ⟨rfl, _, SqL.of hl2⟩, l, _, rfl, rfl, hl2, ?_⟩
      exact rt l xs.reverse _ (sm.put hl) hl (by rw [upd_same, List.map_reverse]) (by rw [List.length_reverse]; lia) (fun x hx => hxs x (List.mem_reverse.mp hx)) ((List.reverse_perm xs).nodup_iff.mpr hnd)
    · exact rt l xs H2 sm hl hl2 hxl hxs hnd
end
end K07
namespace K07
open PySem L2 Tx Rk PyProof.Rows PySem.SeqAt
open PySem.PyData (strOk)
section
variable {P : Program} {w : World} {K : PySem.W.Frag} {mg : Str → Option Value} {base : Heap}
structure Wl where
  hand : Option Str
  heaps : List (List Str)
  lids : List Str
  deriving DecidableEq
noncomputable def dO : Option Str → PyData
  | none => .none
  | some x => .str x
noncomputable def dH (xs : List Str) : PyData := .tuple (xs.map PyData.str)
noncomputable def dW (W : Wl) : PyData := .tuple [dO W.hand, .tuple (W.heaps.map dH), .tuple (W.lids.map PyData.str)]
noncomputable def Sz (W : Wl) (n : Nat) : Prop := W.heaps.length = n ∧ W.lids.length = n
structure Ok (W : Wl) : Prop where
  hand : ∀ x ∈ W.hand, Sk x
  heaps : ∀ h ∈ W.heaps, ∀ x ∈ h, Sk x
  lids : ∀ x ∈ W.lids, Sk x
  few : ∀ h ∈ W.heaps, h.length ≤ 100
theorem parts {H : Hp} {v : V} {W : Wl} (h : RdV H v (dW W)) : ∃ (a : Addr) (v0 : V) (b c : Addr) (xs ys : List V), v = .ref a ∧ H a = some (.tup [v0, .ref b, .ref c]) ∧ RdV H v0 (dO W.hand) ∧
    H b = some (.tup xs) ∧ RdVs H xs (W.heaps.map dH) ∧ H c = some (.tup ys) ∧ RdVs H ys (W.lids.map PyData.str) := by
  unfold dW at h
  cases h with
  | tup e rs =>
    cases rs with
    | cons r0 rs =>
      cases rs with
      | cons r1 rs =>
        cases rs with
        | cons r2 rs =>
          cases rs
          cases r1 with
          | tup e1 s1 =>
            cases r2 with
            | tup e2 s2 => exact ⟨_, _, _, _, _, _, rfl, e, r0, e1, s1, e2, s2⟩
theorem whole {H : Hp} {a b c : Addr} {v0 : V} {xs ys : List V} {W : Wl} (e : H a = some (.tup [v0, .ref b, .ref c])) (r0 : RdV H v0 (dO W.hand)) (e1 : H b = some (.tup xs)) (s1 : RdVs H xs (W.heaps.map dH)) (e2 : H c = some (.tup ys)) (s2 : RdVs H ys (W.lids.map PyData.str)) :
    RdV H (.ref a) (dW W) := .tup e (.cons r0 (.cons (.tup e1 s1) (.cons (.tup e2 s2) .nil)))
theorem at0 {α : Type} {xs : List α} {i : Nat} {v : α} (h : xs[i]? = some v) : atI xs (0 + (i : Int)) = some v := by
  rw [Int.zero_add]
  exact atI_nat h
noncomputable def oV : Option Str → V
  | none => .non
  | some x => .str x
theorem rd_oV {H : Hp} : ∀ o : Option Str, RdV H (oV o) (dO o)
  | none => .non
  | some x => .str x
noncomputable abbrev pWorld : List Str := ["_law_script", "_law_k", "_law_room_here"]
structure Fw (rs : List Ro) (W : Wl) : Prop where
  perm : (W.hand.toList ++ W.heaps.flatten).Perm ((ths rs).map (·.1))
  lids : ∀ (i : Nat) p l, (plc rs)[i]? = some p → W.lids[i]? = some l → Lo p l
theorem lo_sk {p : Str × Bool × Option Str} {l : Str} (h : Lo p l) : Sk l := by
  rcases h with h | ⟨h, _⟩ | ⟨h, _⟩ <;> (rw [h]; exact ⟨by decide +kernel, by decide +kernel⟩)
theorem Fw.ok {rs : List Ro} {W : Wl} (g : Good rs) (f : Fw rs W) (sz : Sz W (plc rs).length) : Ok W := by
  have hm : ∀ x ∈ W.hand.toList ++ W.heaps.flatten, Sk x := fun x hx => nv_sk (good_nv g (mem_ths_name (f.perm.mem_iff.mp hx)))
  refine ⟨fun x hx => hm x (List.mem_append_left _ (by rw [Option.mem_toList]; exact hx)), fun h hh x hx => hm x (List.mem_append_right _ (List.mem_flatten.mpr ⟨h, hh, hx⟩)), fun l hl => ?_, fun h hh => ?_⟩
  · obtain ⟨i, hi⟩ := List.getElem?_of_mem hl
    have hlt := (List.getElem?_eq_some_iff.mp hi).1
    exact lo_sk (f.lids i _ l (List.getElem?_eq_getElem (by have := sz.2; lia)) hi)
  · have h1 := len_flat hh
    have h2 := f.perm.length_eq
    rw [List.length_append, List.length_map] at h2
    have := g.fewT
    lia
inductive spWorld (K : PySem.W.Frag) (vs : List V) (H : Hp) (Q : VK) (E0_ : XK) : Prop
  | mk (a : Addr) (ns : List Int) (k : Int) (r : Addr) (rs : List Ro) (c0 : vs = [.ref a, .int k, .ref r]) (c1 : SqL K H a (ns.map V.int)) (c2 : ns.length ≤ 63) (c3 : 0 ≤ k) (c4 : k < 100000) (c5 : RmS H r rs) (c6 : 1 ≤ (plc rs).length) (c7 : ∀ (v : V) (W : Wl) (H' : Hp), Same H H' → RdV H' v (dW W) → Sz W (plc rs).length → Fw rs W → Q v H') : spWorld K vs H Q E0_
structure Hs (H H2 : Hp) (D : Addr) (hs : List Addr) (xss : List (List Str)) : Prop where
  len : hs.length = xss.length
  lst : H2 D = some (.lst (hs.map V.ref))
  nd : hs.Nodup
  fr : ∀ h ∈ hs, H h = none ∧ h ≠ D
  at' : ∀ (i : Nat) h xs, hs[i]? = some h → xss[i]? = some xs → H2 h = some (.lst (xs.map V.str))
theorem Hs.same {H H2 H3 : Hp} {D : Addr} {hs : List Addr} {xss : List (List Str)} (S : Hs H H2 D hs xss) (s : Same H2 H3) : Hs H H3 D hs xss :=
  ⟨S.len, s _ _ S.lst, S.nd, S.fr, fun i h xs a b => s _ _ (S.at' i h xs a b)⟩
theorem Hs.has {H H2 : Hp} {D : Addr} {hs : List Addr} {xss : List (List Str)} (S : Hs H H2 D hs xss) {h : Addr} (hh : h ∈ hs) : ∃ o, H2 h = some o := by
  obtain ⟨i, hi⟩ := List.getElem?_of_mem hh
  have hlt := (List.getElem?_eq_some_iff.mp hi).1
  exact ⟨_, S.at' i h _ hi (List.getElem?_eq_getElem (by have := S.len; lia))⟩
theorem Hs.off {H H2 : Hp} {D l : Addr} {o : HO} {hs : List Addr} {xss : List (List Str)} (S : Hs H H2 D hs xss) (n1 : l ≠ D) (n2 : ∀ h ∈ hs, l ≠ h) : Hs H (upd H2 l o) D hs xss :=
  ⟨S.len, by rw [upd_ne n1.symm]; exact S.lst, S.nd, S.fr, fun i h xs a b => by rw [upd_ne (n2 h (List.mem_of_getElem? a)).symm]; exact S.at' i h xs a b⟩
theorem Hs.put {H H2 : Hp} {D : Addr} {hs : List Addr} {xss : List (List Str)} (S : Hs H H2 D hs xss) {j : Nat} {h : Addr} {new : List Str} (hj : hs[j]? = some h) : Hs H (upd H2 h (.lst (new.map V.str))) D hs (xss.set j new) := by
  have hne := (S.fr h (List.mem_of_getElem? hj)).2
  refine ⟨by rw [List.length_set]; exact S.len, by rw [upd_ne hne.symm]; exact S.lst, S.nd, S.fr, fun i g xs a b => ?_⟩
  have hjl := (List.getElem?_eq_some_iff.mp hj).1
  by_cases e : j = i
  · subst e
    rw [hj] at a
    cases a
    rw [List.getElem?_set_self (by have := S.len; lia)] at b
    cases b
    exact upd_same
  · rw [List.getElem?_set_ne e] at b
    have hgh : g ≠ h := fun z => by
      subst z
      have hil := (List.getElem?_eq_some_iff.mp a).1
      have e1 := (List.getElem?_eq_some_iff.mp a).2
      have e2 := (List.getElem?_eq_some_iff.mp hj).2
      exact e ((List.getElem_inj S.nd).mp (e2.trans e1.symm))
    rw [upd_ne hgh]
    exact S.at' i g xs a b
noncomputable abbrev nWorld : List Str := ["_law_script", "_law_k", "_law_room_here", "_law_heaps", "_law_hand", "_law_i", "_law_thing", "_law_where", "_law_heap_here", "_law_lids_here", "_law_some"]
theorem scWorld : FnScope nWorld pWorld (defScope sWorld) := ⟨rfl, rfl, rfl, by decide +kernel, rfl, by decide +kernel, by decide +kernel⟩
end
end K07
namespace K07
open PySem L2 Tx Rk PyProof.Rows PySem.SeqAt
open PySem.PyData (strOk)
section
variable {P : Program} {w : World} {K : PySem.W.Frag} {mg : Str → Option Value} {base : Heap}
theorem ok_world {f fP fL : Addr} {fd fdP fdL : FuncData} (F : Fun K "_law_world" "_law_world" sWorld f fd) (DP : Df K mg "_law_pick" sPick pPick fP fdP) (DL : Df K mg "_law_lids" sLids pLids fL fdL) (T : Bl mg) (GP : FnOk P w K mg base CX0 1 fP fdP pPick (spPick K)) (GL : FnOk P w K mg base CX0 1 fL fdL pLids spLids) :
    FnOk P w K mg base CX0 2 f fd pWorld (spWorld K) := by
  refine F.ok scWorld (fun vs H Q E h => ?_) (fun cdv A outer s H vs Q E hr h => ?_)
  · obtain ⟨a, ns, k, r, rs, rfl, _⟩ := h
    rfl
  · obtain ⟨a, ns, k, r, rs, rfl, hS, hn, k0, k1, R, p0', q⟩ := h
    have hu := hu_of hr
    have hsl : sizeLine = 16777216 := sizeLine_eq
    refine ⟨_, (pss_cons (ps_lc (i := 3) (N := ["_law_place"]) (sc := defScope sWorld) (own := ["_law_place"]) (fr := []) (js := []) scWorld.nd rfl rfl ⟨rfl, rfl, rfl, rfl, by decide +kernel, by decide +kernel, by decide +kernel, rfl, by decide +kernel⟩ rfl (pi_list (pe_dget hu (pv 2) pe_str (fun _ _ => rfl))) (fun _ _ _ _ => pg_name (i := 0) (show List.Nodup (["_law_place"] : List Str) by decide +kernel) rfl (Or.inl rfl)) (fun _ _ _ _ => pif_nil) (fun _ _ _ _ => pe_lst pa_nil))
      (pss_cons (ps_set (i := 4) scWorld.nd rfl (Or.inl rfl) pe_non)
      (pss_cons (ps_for PassesOwn.never rfl (pi_range1 (by rfl) T.range (pa_cons (pe_callB call_len (by rfl) T.len PySem.boot_len (pa_cons (pe_dget hu (pv 2) pe_str (fun _ _ => rfl)) pa_nil)) pa_nil)) (pg_name (i := 5) scWorld.nd rfl (Or.inl rfl)) (pss_cons (ps_set (i := 6) scWorld.nd rfl (Or.inl rfl) (pe_ix ix_list (pe_dget hu (pv 2) pe_str (fun _ _ => rfl)) (pv 5) (fun _ _ => rfl)))
      (pss_cons (ps_set (i := 7) scWorld.nd rfl (Or.inl rfl) (pe_call GP hr (by rfl) DP.m DP.F.kp DP.b .nil pass0 (pa_cons (pv 0) (pa_cons (pe_op op_add (pv 1) (pv 5)) (pa_cons (pe_op op_add (pe_callB call_len (by rfl) T.len PySem.boot_len (pa_cons (pv 3) pa_nil)) pe_int) pa_nil)))))
      (pss_one (ps_if (PW.pt (pw_and (pt_cmpR op_eq (pv 7) (pe_callB call_len (by rfl) T.len PySem.boot_len (pa_cons (pv 3) pa_nil)) (nomark _)) (pw_and1 (pt_cmpR op_isN (pv 4) pe_non (nomark _))))) (pss_one (ps_set (i := 4) scWorld.nd rfl (Or.inl rfl) (pv 6))) (pss_cons (ps_set (i := 8) scWorld.nd rfl (Or.inl rfl) (pe_ix ix_list (pv 3) (pe_op op_mod (pv 7) (pe_callB call_len (by rfl) T.len PySem.boot_len (pa_cons (pv 3) pa_nil))) (fun _ _ => rfl)))
      (pss_one (ps_expr (pe_bm PySem.F.plainAttrs_list PySem.F.slot_list_insert PySem.F.type_list_insert mt_insert (pv 8) (pa_cons (pe_call GP hr (by rfl) DP.m DP.F.kp DP.b .nil pass0 (pa_cons (pv 0) (pa_cons (pe_op op_add (pe_op op_add (pv 1) pe_int) (pv 5)) (pa_cons (pe_op op_add (pe_callB call_len (by rfl) T.len PySem.boot_len (pa_cons (pv 8) pa_nil)) pe_int) pa_nil)))) (pa_cons (pv 6) pa_nil)))))))))))
      (pss_cons (ps_set (i := 9) scWorld.nd rfl (Or.inl rfl) (pe_lst pa_nil))
      (pss_cons (ps_for PassesOwn.never rfl (pi_range1 (by rfl) T.range (pa_cons (pe_callB call_len (by rfl) T.len PySem.boot_len (pa_cons (pv 3) pa_nil)) pa_nil)) (pg_name (i := 5) scWorld.nd rfl (Or.inl rfl)) (pss_cons (ps_set (i := 10) scWorld.nd rfl (Or.inl rfl) (pe_call GL hr (by rfl) DL.m DL.F.kp DL.b .nil pass0 (pa_cons (pv 2) (pa_cons (pe_ix ix_list (pe_dget hu (pv 2) pe_str (fun _ _ => rfl)) (pv 5) (fun _ _ => rfl)) pa_nil))))
      (pss_one (ps_expr (pe_bm PySem.F.plainAttrs_list PySem.F.slot_list_append PySem.F.type_list_append mt_append (pv 9) (pa_cons (pe_ix ix_list (pv 10) (pe_call GP hr (by rfl) DP.m DP.F.kp DP.b .nil pass0 (pa_cons (pv 0) (pa_cons (pe_op op_add (pe_op op_add (pv 1) pe_int) (pv 5)) (pa_cons (pe_callB call_len (by rfl) T.len PySem.boot_len (pa_cons (pv 10) pa_nil)) pa_nil)))) (fun _ _ => rfl)) pa_nil))))))
      (pss_one (ps_ret (pe_tup (pa_cons (pv 4) (pa_cons (pe_callTy call_tuple_of (by rfl) T.tuple bt_tuple (pa_cons (pe_lc (N := ["_law_heap_here"]) (sc := defScope sWorld) (own := ["_law_heap_here"]) (fr := []) (js := []) ⟨rfl, rfl, rfl, rfl, by decide +kernel, by decide +kernel, by decide +kernel, rfl, by decide +kernel⟩ rfl (pi_list (pv 3)) (fun _ _ _ _ => pg_name (i := 0) (show List.Nodup (["_law_heap_here"] : List Str) by decide +kernel) rfl (Or.inl rfl)) (fun _ _ _ _ => pif_nil) (fun _ _ _ _ => (pe_callTy (call_tupK K rfl) (by rfl) T.tuple bt_tuple (pa_cons (pv 0) pa_nil)))) pa_nil)) (pa_cons (pe_callTy call_tuple_of (by rfl) T.tuple bt_tuple (pa_cons (pv 9) pa_nil)) pa_nil))))))))))), ?_⟩
    have g := R.good
    obtain ⟨kvs, L3, pl, th, d1, d2, d3, DD, h1, h2, h3, h4, h5, hb1, hb2, h6, h7, h8, h9, hb3, hb4, hb5⟩ := R.ex
    obtain ⟨ps, hps⟩ : ∃ ps, ps = (plc rs).map (·.1) := ⟨_, rfl⟩
    obtain ⟨ts, hts⟩ : ∃ ts, ts = (ths rs).map (·.1) := ⟨_, rfl⟩
    have hpl : ps.length = (plc rs).length := by rw [hps, List.length_map]
    have htl : ts.length = (ths rs).length := by rw [hts, List.length_map]
    have p0 : 1 ≤ ps.length := by lia
    have p1 : ps.length ≤ 6 := by have := g.fewP; lia
    have t1 : ts.length ≤ 6 := by have := g.fewT; lia
    rw [← hps] at h6
    rw [← hts] at h7
    have hpm : (ps.map V.str).length = ps.length := List.length_map ..
    have htm : (ts.map V.str).length = ts.length := List.length_map ..
    -- the empty heaps
    refine ⟨_, rfl, r, _, rfl, dget h1 h2, pl, rfl, ⟨_, SqL.of h6⟩, fun D hD => ?_⟩
    refine lcJ (n := ps.length) (fun i ys H2 => ∃ hs : List Addr, ys = hs.map V.ref ∧ Same H H2 ∧ hs.length = i ∧ Hs H H2 D hs (List.replicate i [])) ⟨[], rfl, Same.new hD, rfl, rfl, upd_same, .nil, (fun _ z => nomatch z), fun i h xs z => by simp at z⟩
      (fun i ys H2 hi hh0 => by obtain ⟨hs, _, sm, _⟩ := hh0; exact ⟨_, .str ps[i], SqL.of (sm _ _ h6), by simp [hi]⟩) (fun ys H2 hh0 => by obtain ⟨hs, _, sm, _⟩ := hh0; exact ⟨_, SqL.of (sm _ _ h6), by simp⟩) ?_ ?_
    · rintro i ys H2 x H3 hi ⟨hs, rfl, sm, hl, S⟩ ⟨rfl, _⟩
      refine lc_yes ?_
      refine ⟨Nat.zero_le _, fun p hp => ⟨_, by rw [upd_ne (ne_of_none S.lst hp)]; exact S.lst, by rw [List.length_map, hl]; lia, hs ++ [p], by simp, ?_, ?_, ?_⟩⟩
      · exact (sm.put (sm.free hp)).put hD
      · rw [List.length_append, hl]; rfl
      · have pD : p ≠ D := (ne_of_none S.lst hp).symm
        have hold : ∀ h ∈ hs, h ≠ p ∧ H3 h = some (.lst []) := fun h hh => by
          obtain ⟨j, hj⟩ := List.getElem?_of_mem hh
          have hlt := (List.getElem?_eq_some_iff.mp hj).1
          have e := S.at' j h [] hj (by rw [List.getElem?_replicate, if_pos (by lia)])
          exact ⟨ne_of_none e hp, e⟩
        refine ⟨by rw [List.length_append, hl, List.length_replicate]; rfl, by rw [upd_same]; simp, nodup_snoc S.nd (fun z => (hold p z).1 rfl), fun h hh => ?_, fun j h xs ha hb => ?_⟩
        · rcases List.mem_append.mp hh with hh | hh
          · exact S.fr h hh
          · rw [List.mem_singleton.mp hh]
            exact ⟨sm.free hp, pD⟩
        · have hx : xs = [] := List.eq_of_mem_replicate (List.mem_of_getElem? hb)
          subst hx
          rcases List.mem_append.mp (List.mem_of_getElem? ha) with hh | hh
          · rw [upd_ne (S.fr h hh).2, upd_ne (hold h hh).1]
            exact (hold h hh).2
          · rw [List.mem_singleton.mp hh, upd_ne pD]
            exact upd_same
    rintro ys H2 ⟨hs, rfl, sm, hl, S⟩
    -- the things, one by one
    have hrm : (hs.map V.ref).length = ps.length := by rw [List.length_map, hl]
    refine ⟨_, rfl, r, _, rfl, dget (sm _ _ h1) h3, _, _, rfl, .inl ⟨_, SqL.of (sm _ _ h7), rfl⟩, _, rfl, by lia, by rw [htm]; lia, for_range (n := (((ts.map V.str).length : Nat) : Int).toNat) (fun i σ H3 => ∃ (v5 v6 v7 v8 : Option V) (o : Option Str) (xss : List (List Str)),
      σ = [some (.ref a), some (.int k), some (.ref r), some (.ref D), some (oV o), v5, v6, v7, v8, none, none] ∧ Same H H3 ∧ Hs H H3 D hs xss ∧ (o.toList ++ xss.flatten).Perm (ts.take i)) ⟨none, none, none, none, none, _, rfl, sm, S, by simp⟩ ?_ ?_⟩
    · rintro i σ H3 hi ⟨v5, v6, v7, v8, o, xss, rfl, sm3, S3, pm⟩
      have hi' : i < ts.length := by rw [Int.toNat_natCast, htm] at hi; exact hi
      have hat : atI (ts.map V.str) (0 + (i : Int)) = some (.str ts[i]) := at0 (by simp [hi'])
      have htk : ts.take (i + 1) = ts.take i ++ [ts[i]] := List.take_succ_eq_append_getElem hi'
      generalize ts[i] = x at hat htk
      refine ⟨_, rfl, r, _, rfl, dget (sm3 _ _ h1) h3, _, rfl, _, _, _, _, rfl, rfl, SqL.of (sm3 _ _ h7), hat, ?_⟩
      refine ⟨_, rfl, _, rfl, _, rfl, _, _, rfl, rfl, _, rfl, _, _, rfl, .inl ⟨_, SqL.of S3.lst, rfl⟩, _, _, rfl, rfl, a, ns, _, _, rfl, sm3.seq hS, hn, by lia, by lia, by lia, fun wh w0 w1 => ?_⟩
      rw [hrm] at w1
      -- into a heap
      have hpos : (0 : Int) < ((hs.map V.ref).length : Int) := by lia
      obtain ⟨j, hj⟩ : ∃ j : Nat, (j : Int) = wh % ((hs.map V.ref).length : Int) := ⟨(wh % ((hs.map V.ref).length : Int)).toNat, Int.toNat_of_nonneg (Int.emod_nonneg _ (by lia))⟩
      have hjl : j < hs.length := by
        have := Int.emod_lt_of_pos wh hpos
        rw [List.length_map] at this hj
        lia
      have hjx : j < xss.length := by have := S3.len; lia
      have hah : atI (hs.map V.ref) (wh % ((hs.map V.ref).length : Int)) = some (.ref hs[j]) := by
        rw [← hj]
        exact atI_nat (by simp [hjl])
      have hhj : hs[j]? = some hs[j] := List.getElem?_eq_getElem hjl
      have hxj : xss[j]? = some xss[j] := List.getElem?_eq_getElem hjx
      have hxl : (xss[j]).length ≤ 6 := by
        have e1 := len_flat (List.getElem_mem hjx)
        have e2 := pm.length_eq
        rw [List.length_append, List.length_take] at e2
        lia
      generalize hs[j] = h at hah hhj
      generalize xss[j] = xs at hxj hxl
      have z3 := S3.at' j h xs hhj hxj
      have z1 := (S3.fr h (List.mem_of_getElem? hhj)).1
      have hxm' : (xs.map V.str).length = xs.length := List.length_map ..
      have ins : ∀ at' : Int, Same H (upd H3 h (.lst ((xs.map V.str).take at'.toNat ++ V.str x :: (xs.map V.str).drop at'.toNat))) ∧ Hs H (upd H3 h (.lst ((xs.map V.str).take at'.toNat ++ V.str x :: (xs.map V.str).drop at'.toNat))) D hs (xss.set j (xs.take at'.toNat ++ x :: xs.drop at'.toNat)) ∧
          (o.toList ++ (xss.set j (xs.take at'.toNat ++ x :: xs.drop at'.toNat)).flatten).Perm (ts.take (i + 1)) := fun at' => by
        have e : (xs.map V.str).take at'.toNat ++ V.str x :: (xs.map V.str).drop at'.toNat = (xs.take at'.toNat ++ x :: xs.drop at'.toNat).map V.str := by simp [List.map_take, List.map_drop]
        rw [e]
        refine ⟨sm3.put z1, S3.put hhj, ?_⟩
        have e1 := set_flat (a := xs.take at'.toNat) (b := xs.drop at'.toNat) (x := x) (xss := xss) (j := j) (by rw [List.take_append_drop]; exact hxj)
        rw [htk]
        refine (List.Perm.append_left _ e1).trans (List.perm_middle.trans ?_)
        exact (List.Perm.cons x pm).trans (List.perm_append_singleton x _).symm
      refine ⟨_, rfl, _, rfl, _, _, rfl, .inl ⟨_, SqL.of S3.lst, rfl⟩, rfl, _, rfl, ?_⟩
      refine ite2 (fun _ => ?_) (fun _ => ?_)
      · refine ⟨_, rfl, rfl, _, rfl, ?_⟩
        refine ite2 (fun ho => ?_) (fun _ => ?_)
        · have ho' : o = none := by
            cases o with
            | none => rfl
            | some y => exact absurd (of_decide_eq_true ho) (by intro z; cases z)
          subst ho'
          refine ⟨_, rfl, _, _, _, _, some x, xss, rfl, sm3, S3, ?_⟩
          rw [htk]
          exact (List.Perm.cons x pm).trans (List.perm_append_singleton x _).symm
        · refine ⟨_, rfl, _, rfl, _, rfl, _, _, rfl, .inl ⟨_, SqL.of S3.lst, rfl⟩, _, _, rfl, rfl, hpos, D, _, _, _, rfl, rfl, SqL.of S3.lst, hah, ?_⟩
          refine ⟨_, rfl, .inl ⟨rfl, _, SqL.of z3⟩, _, rfl, _, rfl, _, _, rfl, rfl, _, rfl, _, _, rfl, rfl, _, rfl, _, _, rfl, .inl ⟨_, SqL.of z3, rfl⟩, _, _, rfl, rfl, a, ns, _, _, rfl, sm3.seq hS, hn, by lia, by lia, by lia, fun at' a0 a1 => ?_⟩
          rw [hxm'] at a1
          obtain ⟨i1, i2, i3⟩ := ins at'
          exact ⟨_, rfl, h, _, _, _, rfl, rfl, a0, by rw [hxm']; lia, z3, by rw [hxm']; lia, _, _, _, _, o, _, rfl, i1, i2, i3⟩
      · refine iteF ?_
        refine ⟨_, rfl, _, rfl, _, rfl, _, _, rfl, .inl ⟨_, SqL.of S3.lst, rfl⟩, _, _, rfl, rfl, hpos, D, _, _, _, rfl, rfl, SqL.of S3.lst, hah, ?_⟩
        refine ⟨_, rfl, .inl ⟨rfl, _, SqL.of z3⟩, _, rfl, _, rfl, _, _, rfl, rfl, _, rfl, _, _, rfl, rfl, _, rfl, _, _, rfl, .inl ⟨_, SqL.of z3, rfl⟩, _, _, rfl, rfl, a, ns, _, _, rfl, sm3.seq hS, hn, by lia, by lia, by lia, fun at' a0 a1 => ?_⟩
        rw [hxm'] at a1
        obtain ⟨i1, i2, i3⟩ := ins at'
        exact ⟨_, rfl, h, _, _, _, rfl, rfl, a0, by rw [hxm']; lia, z3, by rw [hxm']; lia, _, _, _, _, o, _, rfl, i1, i2, i3⟩
    rintro σ H3 ⟨v5, v6, v7, v8, o, xss, rfl, sm3, S3, pm⟩
    rw [Int.toNat_natCast, htm, List.take_length] at pm
    -- the lids
    refine ⟨Nat.zero_le _, fun ll hll => ?_⟩
    have nD : ll ≠ D := (ne_of_none S3.lst hll).symm
    have nH : ∀ h ∈ hs, ll ≠ h := fun h hh => by
      obtain ⟨oo, z3⟩ := S3.has hh
      exact (ne_of_none z3 hll).symm
    have f0 : H ll = none := sm3.free hll
    have S4 := S3.same (Same.new (o := .lst []) hll)
    refine ⟨_, rfl, _, _, rfl, .inl ⟨_, SqL.of S4.lst, rfl⟩, _, rfl, by lia, by lia, for_range (n := (((hs.map V.ref).length : Nat) : Int).toNat) (fun i σ H4 => ∃ (v5 v10 : Option V) (ls : List Str),
      σ = [some (.ref a), some (.int k), some (.ref r), some (.ref D), some (oV o), v5, v6, v7, v8, some (.ref ll), v10] ∧ ls.length = i ∧ (∀ (j : Nat) p l, (plc rs)[j]? = some p → ls[j]? = some l → Lo p l) ∧ Same H H4 ∧ Hs H H4 D hs xss ∧ H4 ll = some (.lst (ls.map V.str)))
      ⟨_, none, [], rfl, rfl, (fun _ _ _ _ z => by simp at z), sm3.put f0, S4, upd_same⟩ ?_ ?_⟩
    · rintro i σ H4 hi ⟨v5, v10, ls, rfl, hls, hlo, sm4, S5, hl4⟩
      have hi' : i < ps.length := by rw [Int.toNat_natCast, hrm] at hi; exact hi
      have hip : i < (plc rs).length := by lia
      have hpi : ps[i]? = some ((plc rs)[i]).1 := by rw [hps, List.getElem?_map, List.getElem?_eq_getElem hip]; rfl
      have hat : atI (ps.map V.str) (0 + (i : Int)) = some (.str ((plc rs)[i]).1) := at0 (by rw [List.getElem?_map, hpi]; rfl)
      have hpm2 : (plc rs)[i] ∈ plc rs := List.getElem_mem hip
      have hpg : (plc rs)[i]? = some (plc rs)[i] := List.getElem?_eq_getElem hip
      generalize (plc rs)[i] = pp at hat hpm2 hpg
      refine ⟨_, rfl, _, rfl, r, _, rfl, dget (sm4 _ _ h1) h2, _, rfl, _, _, _, _, rfl, rfl, SqL.of (sm4 _ _ h6), hat, r, d1, d2, pp.1, kvs, _, _, rfl, sm4 _ _ h1, h4, h5, sm4 _ _ h8, sm4 _ _ h9, fun l ys H5 s5 f5 e5 y1 y2 => ?_⟩
      have hym : (ys.map V.str).length = ys.length := List.length_map ..
      have hl5 := s5 _ _ hl4
      refine ⟨_, rfl, .inl ⟨rfl, _, SqL.of hl5⟩, _, rfl, _, rfl, _, rfl, _, _, rfl, rfl, _, rfl, _, _, rfl, rfl, _, rfl, _, _, rfl, .inl ⟨_, SqL.of e5, rfl⟩, a, ns, _, _, rfl, (sm4.trans s5).seq hS, hn, by lia, by lia, by lia, fun j j0 j1 => ?_⟩
      rw [hym] at j1
      obtain ⟨y, hy, hay⟩ := at_map (xs := ys) j0 j1
      refine ⟨_, _, _, _, rfl, rfl, SqL.of e5, hay, ll, _, _, rfl, rfl, hl5, by rw [List.length_map]; lia, ?_⟩
      have S6 := S5.same s5
      refine ⟨_, _, ls ++ [y], rfl, by simp [hls], fun j' p' l' hp' hl' => ?_, (sm4.trans s5).put f0, S6.off nD nH, by rw [upd_same]; simp⟩
      by_cases hj' : j' < ls.length
      · rw [List.getElem?_append_left hj'] at hl'
        exact hlo j' p' l' hp' hl'
      · have hlt := (List.getElem?_eq_some_iff.mp hl').1
        rw [List.length_append, List.length_singleton] at hlt
        have e : j' = ls.length := by lia
        subst e
        rw [List.getElem?_concat_length] at hl'
        cases hl'
        rw [hls, hpg] at hp'
        cases hp'
        exact Al.lo g hpm2 (y2 y hy)
    rintro σ H4 ⟨v5', v10, ls, rfl, hls, hlo, sm4, S5, hl4⟩
    have hls' : ls.length = ps.length := by rw [hls, Int.toNat_natCast, hrm]
    have hxp : xss.length = ps.length := by have := S5.len; lia
    -- the world's tuple
    refine ⟨_, rfl, _, rfl, D, rfl, ⟨_, SqL.of S5.lst⟩, fun D2 hD2 => ?_⟩
    refine lcJ (n := hs.length) (fun i ys H5 => RdVs H5 ys ((xss.take i).map dH) ∧ ys.length = i ∧ Same H4 H5 ∧ H5 D2 = some (.lst ys)) ⟨.nil, rfl, Same.new hD2, upd_same⟩
      (fun i ys H5 hi hh0 => by obtain ⟨_, _, s5, _⟩ := hh0; exact ⟨_, .ref hs[i], SqL.of (s5 _ _ S5.lst), by simp [hi]⟩) (fun ys H5 hh0 => by obtain ⟨_, _, s5, _⟩ := hh0; exact ⟨_, SqL.of (s5 _ _ S5.lst), by simp⟩) ?_ ?_
    · rintro i ys H5o x H5 hi ⟨hrd, hx2, s5, e5⟩ ⟨rfl, hx⟩
      have hxi := hx _ (SqL.of (s5 _ _ S5.lst))
      have hx' : x = .ref hs[i] := by
        rw [List.getElem?_map, List.getElem?_eq_getElem hi] at hxi
        exact (Option.some.inj hxi).symm
      subst hx'
      have hix : i < xss.length := by have := S5.len; lia
      have z3 := S5.at' i hs[i] xss[i] (List.getElem?_eq_getElem hi) (List.getElem?_eq_getElem hix)
      have htk : xss.take (i + 1) = xss.take i ++ [xss[i]] := List.take_succ_eq_append_getElem hix
      generalize xss[i] = zs at z3 htk
      refine lc_yes ?_
      refine ⟨_, rfl, _, _, rfl, .inl ⟨SqL.of (s5 _ _ z3), fun l hl => ⟨_, by rw [upd_ne (ne_of_none e5 hl)]; exact e5, by lia, ?_, by simp [hx2], (s5.trans (Same.new hl)).put hD2, upd_same⟩⟩⟩
      have lD : l ≠ D2 := (ne_of_none e5 hl).symm
      have kp : ∀ b us, H5 b = some (.tup us) → (upd (upd H5 l (.tup (zs.map V.str))) D2 (.lst (ys ++ [V.ref l]))) b = some (.tup us) := fun b us e => by
        rw [upd_ne (ne_of e e5 (by intro z; cases z)), upd_ne (ne_of_none e hl)]
        exact e
      rw [htk, List.map_append]
      exact (hrd.same kp).append (.cons (.tup (by rw [upd_ne lD]; exact upd_same) (RdVs.strs zs)) .nil)
    rintro ys H5 ⟨hrd, hx2, s5, e5⟩
    rw [List.take_of_length_le (by have := S5.len; lia)] at hrd
    refine ⟨_, _, rfl, .inl ⟨SqL.of e5, fun tp htp => ?_⟩⟩
    have e6 := s5 _ _ hl4
    refine ⟨_, rfl, _, _, rfl, .inl ⟨SqL.of (by rw [upd_ne (ne_of_none e6 htp)]; exact e6), fun tl htl => ⟨by show 3 ≤ sizeLine; decide, fun t ht => ?_⟩⟩⟩
    have s6 : Same H5 (upd H5 tp (.tup ys)) := Same.new htp
    have s7 : Same (upd H5 tp (.tup ys)) (upd (upd H5 tp (.tup ys)) tl (.tup (ls.map V.str))) := Same.new htl
    have s8 : Same (upd (upd H5 tp (.tup ys)) tl (.tup (ls.map V.str))) (upd (upd (upd H5 tp (.tup ys)) tl (.tup (ls.map V.str))) t (.tup [oV o, .ref tp, .ref tl])) := Same.new ht
    refine q (.ref t) ⟨o, xss, ls⟩ _ (((sm4.trans s5).trans s6).trans (s7.trans s8)) (whole upd_same (rd_oV o) (s8 _ _ (s7 _ _ upd_same)) (s8.rds (s7.rds (s6.rds hrd))) (s8 _ _ upd_same) (RdVs.strs ls)) ⟨?_, ?_⟩ ⟨?_, hlo⟩
    · show xss.length = _
      lia
    · show ls.length = _
      lia
    · rw [hts] at pm
      exact pm
end
end K07
namespace K07
open PySem L2 Tx Rk PyProof.Rows PySem.SeqAt
open PySem.PyData (strOk)
section
variable {P : Program} {w : World} {K : PySem.W.Frag} {mg : Str → Option Value} {base : Heap}
noncomputable def formsD : List PyData := [.tuple [.str "place", .int 2], .tuple [.str "box", .int 2], .tuple [.str "box", .int 3], .tuple [.str "thing", .int 3]]
structure Md (K : PySem.W.Frag) (mg : Str → Option Value) (aN aF : Addr) : Prop where
  letters : ∃ t, mg "LETTERS" = some (.str abc t)
  most : ∃ t, mg "MOST_LETTERS" = some (.int 8 t)
  mp : ∃ t, mg "MOST_PLACES" = some (.int 6 t)
  mt : ∃ t, mg "MOST_THINGS" = some (.int 6 t)
  nn : mg "NO_NAMES" = some (.ref aN)
  nv : ∀ H : Hp, SqT K H aN (fixedS.map V.str)
  ff : mg "FORMS" = some (.ref aF)
  fv : RdK K (.ref aF) (.tuple formsD)
inductive spIsName (vs : List V) (H : Hp) (Q : VK) (E0_ : XK) : Prop
  | mk (x : Str) (c0 : vs = [.str x]) (c1 : Nv x) (c2 : ∀ H' : Hp, Same H H' → Q (.bl true) H') : spIsName  vs H Q E0_
theorem scIsName : FnScope ["text"] ["text"] (defScope sIsName) := ⟨rfl, rfl, rfl, by decide +kernel, rfl, by decide +kernel, by decide +kernel⟩
inductive spReadLine (vs : List V) (H : Hp) (Q : VK) (E0_ : XK) : Prop
  | mk (ro : Ro) (c0 : vs = [.str ro.txt]) (c1 : ro.nv) (c2 : ∀ (l : Addr) (H' : Hp), Same H H' → H l = none → H' l = some (.lst (ro.words.map V.str)) → Q (.ref l) H') : spReadLine  vs H Q E0_
theorem scReadLine : FnScope ["line", "words", "word"] ["line"] (defScope sReadLine) := ⟨rfl, rfl, rfl, by decide +kernel, rfl, by decide +kernel, by decide +kernel⟩
noncomputable def RowsAt (H : Hp) : List Ro → List Addr → Prop := Paired fun ro a => H a = some (.lst (ro.words.map V.str))
theorem RowsAt.same {H H' : Hp} (s : Same H H') : ∀ {rs : List Ro} {ls : List Addr}, RowsAt H rs ls → RowsAt H' rs ls
  | _, _, .nil => .nil
  | _, _, .cons a b => .cons (s _ _ a) (RowsAt.same s b)
theorem RowsAt.keep {H H' : Hp} : ∀ {rs : List Ro} {ls : List Addr}, RowsAt H rs ls → (∀ a ∈ ls, ∀ o, H a = some o → H' a = some o) → RowsAt H' rs ls
  | _, _, .nil, _ => .nil
  | _, _, .cons a b, k => .cons (k _ List.mem_cons_self _ a) (RowsAt.keep b fun x hx => k x (List.mem_cons_of_mem _ hx))
theorem RowsAt.snoc {H : Hp} {ro : Ro} {a : Addr} (h : H a = some (.lst (ro.words.map V.str))) : ∀ {rs : List Ro} {ls : List Addr}, RowsAt H rs ls → RowsAt H (rs ++ [ro]) (ls ++ [a])
  | _, _, .nil => .cons h .nil
  | _, _, .cons x b => .cons x (RowsAt.snoc h b)
theorem RowsAt.length {H : Hp} {rs : List Ro} {ls : List Addr} (h : RowsAt H rs ls) : rs.length = ls.length := Paired.length h
theorem RowsAt.get {H : Hp} : ∀ {rs : List Ro} {ls : List Addr} {i : Nat} {a : Addr}, RowsAt H rs ls → ls[i]? = some a → ∃ ro, rs[i]? = some ro ∧ H a = some (.lst (ro.words.map V.str))
  | _, _, _, _, .nil, e => by simp at e
  | _, _, 0, _, .cons x _, e => by
    simp at e
    subst e
    exact ⟨_, rfl, x⟩
  | _, _, i + 1, _, .cons _ b, e => by
    obtain ⟨ro, h1, h2⟩ := RowsAt.get (i := i) b (by simpa using e)
    exact ⟨ro, by simpa using h1, h2⟩
inductive spReadRows (vs : List V) (H : Hp) (Q : VK) (E0_ : XK) : Prop
  | mk (a : Addr) (rs : List Ro) (c0 : vs = [.ref a]) (c1 : H a = some (.lst ((rs.map Ro.txt).map V.str))) (c2 : Good rs) (c3 : rs.length ≤ 12) (c4 : ∀ (l : Addr) (ls : List Addr) (H' : Hp), Same H H' → H' l = some (.lst (ls.map V.ref)) → RowsAt H' rs ls → Q (.ref l) H') : spReadRows  vs H Q E0_
theorem scReadRows : FnScope ["lines", "rows", "names"] ["lines"] (defScope sReadRows) := ⟨rfl, rfl, rfl, by decide +kernel, rfl, by decide +kernel, by decide +kernel⟩
inductive spReadThings (vs : List V) (H : Hp) (Q : VK) (E0_ : XK) : Prop
  | mk (a : Addr) (rs : List Ro) (ls : List Addr) (c0 : vs = [.ref a]) (c1 : H a = some (.lst (ls.map V.ref))) (c2 : RowsAt H rs ls) (c3 : Good rs) (c4 : ∀ (d : Addr) (H' : Hp), Same H H' → H d = none → H' d = some (.dK (shK rs)) → Q (.ref d) H') : spReadThings  vs H Q E0_
theorem scReadThings : FnScope ["rows", "shapes", "words"] ["rows"] (defScope sReadThings) := ⟨rfl, rfl, rfl, by decide +kernel, rfl, by decide +kernel, by decide +kernel⟩
noncomputable def oV' : Option Str → V
  | none => .non
  | some x => .str x
noncomputable def PlOk (H : Hp) : List (Str × Bool × Option Str) → List (Key × V) → Prop := Paired fun p kv => kv.1 = Sum.inr p.1 ∧ ∃ t, kv.2 = .ref t ∧ H t = some (.tup [.bl p.2.1, oV' p.2.2])
theorem PlOk.same {H H' : Hp} (s : ∀ b xs, H b = some (.tup xs) → H' b = some (.tup xs)) : ∀ {ps : List (Str × Bool × Option Str)} {kvs : List (Key × V)}, PlOk H ps kvs → PlOk H' ps kvs
  | _, _, .nil => .nil
  | _, _, .cons ⟨e, t, e2, e3⟩ b => .cons ⟨e, t, e2, s _ _ e3⟩ (PlOk.same s b)
theorem PlOk.snoc {H : Hp} {p : Str × Bool × Option Str} {t : Addr} (h : H t = some (.tup [.bl p.2.1, oV' p.2.2])) : ∀ {ps : List (Str × Bool × Option Str)} {kvs : List (Key × V)}, PlOk H ps kvs → PlOk H (ps ++ [p]) (kvs ++ [(Sum.inr p.1, .ref t)])
  | _, _, .nil => .cons ⟨rfl, t, rfl, h⟩ .nil
  | _, _, .cons x b => .cons x (PlOk.snoc h b)
theorem PlOk.length {H : Hp} {ps : List (Str × Bool × Option Str)} {kvs : List (Key × V)} (h : PlOk H ps kvs) : ps.length = kvs.length := Paired.length h
theorem PlOk.keys {H : Hp} : ∀ {ps : List (Str × Bool × Option Str)} {kvs : List (Key × V)}, PlOk H ps kvs → kvs.map (fun kv => kV kv.1) = (ps.map (·.1)).map V.str
  | _, _, .nil => rfl
  | _, _, .cons ⟨e, _⟩ b => by
    rw [List.map_cons, List.map_cons, List.map_cons, PlOk.keys b, e]
    rfl
theorem PlOk.none {H : Hp} {x : Str} : ∀ {ps : List (Str × Bool × Option Str)} {kvs : List (Key × V)}, PlOk H ps kvs → x ∉ ps.map (·.1) → valV kvs (Sum.inr x : Key) = .none
  | _, _, .nil, _ => rfl
  | _, _, .cons ⟨e, _⟩ b, h => by
    rw [valV_neg (fun z => h (by rw [e] at z; rw [← Sum.inr.inj z]; exact List.mem_cons_self))]
    exact PlOk.none b fun z => h (List.mem_cons_of_mem _ z)
theorem PlOk.get {H : Hp} : ∀ {ps : List (Str × Bool × Option Str)} {kvs : List (Key × V)} {i : Nat} {k : Key} {v : V}, PlOk H ps kvs → kvs[i]? = some (k, v) → ∃ p t, ps[i]? = some p ∧ v = .ref t ∧ H t = some (.tup [.bl p.2.1, oV' p.2.2])
  | _, _, _, _, _, .nil, e => by simp at e
  | _, _, 0, _, _, .cons ⟨e1, t, e2, e3⟩ _, e => by
    simp at e
    rw [e] at e2
    exact ⟨_, t, rfl, e2, e3⟩
  | _, _, i + 1, _, _, .cons _ b, e => by
    obtain ⟨p, t, h1, h2, h3⟩ := PlOk.get (i := i) b (by simpa using e)
    exact ⟨p, t, by simpa using h1, h2, h3⟩
inductive spReadPlaces (vs : List V) (H : Hp) (Q : VK) (E0_ : XK) : Prop
  | mk (a : Addr) (rs : List Ro) (ls : List Addr) (c0 : vs = [.ref a]) (c1 : H a = some (.lst (ls.map V.ref))) (c2 : RowsAt H rs ls) (c3 : Good rs) (c4 : ∀ (d : Addr) (kvs : List (Key × V)) (H' : Hp), Same H H' → H d = none → H' d = some (.dK kvs) → PlOk H' (plc rs) kvs → Q (.ref d) H') : spReadPlaces  vs H Q E0_
theorem scReadPlaces : FnScope ["rows", "places", "words"] ["rows"] (defScope sReadPlaces) := ⟨rfl, rfl, rfl, by decide +kernel, rfl, by decide +kernel, by decide +kernel⟩
inductive spCheckKeys (vs : List V) (H : Hp) (Q : VK) (E0_ : XK) : Prop
  | mk (d1 d2 : Addr) (rs : List Ro) (kvs : List (Key × V)) (c0 : vs = [.ref d1, .ref d2]) (c1 : H d1 = some (.dK kvs)) (c2 : PlOk H (plc rs) kvs) (c3 : H d2 = some (.dK (shK rs))) (c4 : d1 ≠ d2) (c5 : Good rs) (c6 : ∀ (o : Obj) (H' : Hp), (∀ b u, H b = some u → b ≠ d1 → H' b = some u) → H' d1 = some (.frz o (.dK kvs)) → Q .non H') : spCheckKeys  vs H Q E0_
theorem scCheckKeys : FnScope ["places", "shapes", "lid", "key"] ["places", "shapes"] (defScope sCheckKeys) := ⟨rfl, rfl, rfl, by decide +kernel, rfl, by decide +kernel, by decide +kernel⟩
noncomputable def rFlds (d1 d2 : Addr) : List (Str × V) := putF "told_shapes" (.ref d2) (putF "told_places" (.ref d1) [])
theorem rf_ne : ¬ (("told_places" : Str) = "told_shapes") := by decide +kernel
theorem rf_places (d1 d2 : Addr) : (rFlds d1 d2).lookup ("told_places" : Str) = some (.ref d1) := by
  unfold rFlds
  rw [lookup_putF, if_neg rf_ne, lookup_putF, if_pos rfl]
theorem rf_no (d1 d2 : Addr) {m : Str} (h1 : ¬ m = "told_shapes") (h2 : ¬ m = "told_places") : (rFlds d1 d2).lookup m = none := by
  unfold rFlds
  rw [lookup_putF, if_neg h1, lookup_putF, if_neg h2]
  rfl
inductive RoomAtE (C : Addr) (H : Hp) (x : Addr) (rs : List Ro) : Prop
  | mk (dx d1 d2 : Addr) (o : Obj) (kvs : List (Key × V)) (c0 : H x = some (.ins C dx (rFlds d1 d2))) (c1 : H d1 = some (.frz o (.dK kvs))) (c2 : PlOk H (plc rs) kvs) (c3 : H d2 = some (.dK (shK rs))) : RoomAtE C H x rs
structure RoomAt (C : Addr) (H : Hp) (x : Addr) (rs : List Ro) : Prop where
  ex : RoomAtE C H x rs
theorem RoomAt.same {C : Addr} {H H' : Hp} {x : Addr} {rs : List Ro} (R : RoomAt C H x rs) (s : Same H H') : RoomAt C H' x rs := by
  obtain ⟨dx, d1, d2, o, kvs, h1, h2, h3, h4⟩ := R.ex
  exact ⟨dx, d1, d2, o, kvs, s _ _ h1, s _ _ h2, h3.same fun b xs e => s _ _ e, s _ _ h4⟩
structure Cl (K : PySem.W.Frag) (C : Addr) : Prop where
  cl : Cls K C
  nP : NoAttr K C "told_places"
  nS : NoAttr K C "told_shapes"
inductive spInit (C : Addr) (vs : List V) (H : Hp) (Q : VK) (E0_ : XK) : Prop
  | mk (x dx a : Addr) (rs : List Ro) (c0 : vs = [.ref x, .ref a]) (c1 : H x = some (.ins C dx [])) (c2 : H a = some (.lst ((rs.map Ro.txt).map V.str))) (c3 : Good rs) (c4 : rs.length ≤ 12) (c5 : ∀ H' : Hp, (∀ b u, H b = some u → b ≠ x → H' b = some u) → RoomAt C H' x rs → Q .non H') : spInit C vs H Q E0_
theorem scInit : FnScope ["self", "lines", "rows", "places", "shapes"] ["self", "lines"] (defScope sInit) := ⟨rfl, rfl, rfl, by decide +kernel, rfl, by decide +kernel, by decide +kernel⟩
inductive spPlaces (C : Addr) (vs : List V) (H : Hp) (Q : VK) (E0_ : XK) : Prop
  | mk (x : Addr) (rs : List Ro) (c0 : vs = [.ref x]) (c1 : RoomAt C H x rs) (c2 : ∀ (l : Addr) (H' : Hp), Same H H' → H l = none → H' l = some (.lst (((plc rs).map (·.1)).map V.str)) → Q (.ref l) H') : spPlaces C vs H Q E0_
theorem scPlaces : FnScope ["self"] ["self"] (defScope sPlaces) := ⟨rfl, rfl, rfl, by decide +kernel, rfl, by decide +kernel, by decide +kernel⟩
theorem for_vals {a : Addr} {o : Obj} {kvs : List (Key × V)} {g : TG} {tb : TS} {D : Ends} {σ : L2.St} {H : Hp} (Pv : Nat → L2.St → Hp → Prop) (h0 : Pv 0 σ H) (hl : ∀ i σ H, i ≤ kvs.length → Pv i σ H → H a = some (.frz o (.dK kvs)))
    (hs : ∀ i k x σ H, kvs[i]? = some (k, x) → Pv i σ H → g x σ H fun σ2 H2 => tb { D with nx := Pv (i + 1), ct := Pv (i + 1), bk := D.nx } σ2 H2) (hd : ∀ σ H, Pv kvs.length σ H → D.nx σ H) :
    ∃ W : Nat → Nat → L2.St → Hp → Prop, (∃ m, W 0 m σ H) ∧ ∀ i m σ H, W i m σ H →
      ((Itv a o kvs).stop i H ∧ D.nx σ H) ∨ ((Itv a o kvs).go i H ∧ ∃ N : L2.St → Hp → Prop, (∀ σ' H', N σ' H' → ∃ m', m' < m ∧ W (i + 1) m' σ' H') ∧ ∀ x H', (Itv a o kvs).yld i H x H' → g x σ H' fun σ2 H2 => tb { D with nx := N, ct := N, bk := D.nx } σ2 H2) := by
  refine ⟨fun i m σ H => m = kvs.length - i ∧ i ≤ kvs.length ∧ Pv i σ H, ⟨kvs.length, by simp, Nat.zero_le _, h0⟩, ?_⟩
  rintro i m σ H ⟨rfl, hi, p⟩
  have q := hl i σ H hi p
  by_cases hlt : i < kvs.length
  · refine .inr ⟨⟨hlt, q⟩, Pv (i + 1), fun σ' H' p' => ⟨kvs.length - (i + 1), by lia, rfl, hlt, p'⟩, fun x H' y => ?_⟩
    obtain ⟨e, k, y⟩ := y
    subst e
    exact hs i k x σ _ y p
  · have e : i = kvs.length := by lia
    subst e
    exact .inl ⟨⟨Nat.le_refl _, q⟩, hd σ H p⟩
end
end K07
namespace K07
open PySem L2 Tx Rk PyProof.Rows PySem.SeqAt
open PySem.PyData (strOk)
section
variable {P : Program} {w : World} {K : PySem.W.Frag} {mg : Str → Option Value} {base : Heap}
theorem ok_isname {f aN aF : Addr} {fd : FuncData} (F : Fun K "is_name" "is_name" sIsName f fd) (T : Bl mg) (M : Md K mg aN aF) : FnOk P w K mg base CX0 1 f fd ["text"] spIsName := by
  obtain ⟨t1, m1⟩ := M.letters
  obtain ⟨t2, m2⟩ := M.most
  refine F.ok scIsName (fun vs H Q E h => ?_) (fun cdv A outer s H vs Q E hr h => ?_)
  · obtain ⟨x, rfl, _⟩ := h
    rfl
  · obtain ⟨x, rfl, hx, q⟩ := h
    have hsl : sizeLine = 16777216 := sizeLine_eq
    have hl := hx.len
    have hp := hx.pos
    refine ⟨_, pss_cons (ps_if (PW.pt (pw_or (pt_cmpR op_eq (pv 0) pe_str (nomark _)) (pw_or (pt_cmpR op_gt (pe_callB call_len (by rfl) T.len PySem.boot_len (pa_cons (pv 0) pa_nil)) (pe_glob (v := .int 8) (by rfl) m2 ⟨_, rfl⟩) (nomark _))
        (pw_or1 (pt_cmpR op_in_seq (pv 0) (pe_glob (v := .ref aN) (by rfl) M.nn rfl) (by rfl)))))) (pss_one (ps_ret pe_bl)) pss_nil)
      (pss_one (ps_ret (pe_callB (call_all rfl) (by rfl) T.all bt_all (pa_cons (pe_lc (N := ["sign"]) (sc := defScope sIsName) (own := ["sign"]) (fr := []) (js := []) ⟨rfl, rfl, rfl, rfl, by decide +kernel, by decide +kernel, by decide +kernel, rfl, by decide +kernel⟩ rfl (pi_str (pv 0))
        (fun _ _ _ _ => pg_name (i := 0) (show List.Nodup (["sign"] : List Str) by decide +kernel) rfl (Or.inl rfl)) (fun _ _ _ _ => pif_nil) (fun _ _ _ _ => pe_cmpR op_in_str (pv 0) (pe_glob (v := .str abc) (by rfl) m1 ⟨_, rfl⟩) (by rfl))) pa_nil)))), ?_⟩
    refine ⟨_, rfl, rfl, _, rfl, ?_⟩
    refine ite2 (fun he => ?_) (fun _ => ?_)
    · exfalso
      have e := V.str.inj (of_decide_eq_true he)
      rw [e] at hp
      exact absurd hp (by decide +kernel)
    refine ⟨_, rfl, _, _, rfl, ⟨by lia, rfl⟩, _, _, rfl, rfl, _, rfl, ?_⟩
    refine ite2 (fun he => ?_) (fun _ => ?_)
    · exfalso
      have := of_decide_eq_true he
      lia
    refine ⟨_, rfl, aN, _, rfl, .inr (M.nv H), rfl, flat_strs _, _, rfl, ?_⟩
    refine ite2 (fun he => ?_) (fun _ => ?_)
    · exfalso
      have he' : inV (.str x) (fixedS.map V.str) = true := he
      rw [inV_strs] at he'
      exact hx.fix (of_decide_eq_true he')
    refine ⟨_, rfl, x, rfl, hx.ascii, fun D hD => ?_⟩
    refine lcJ (n := x.cps.size) (fun i ys H2 => ys = List.replicate i (V.bl true) ∧ Same H H2 ∧ H2 D = some (.lst ys)) ⟨rfl, Same.new hD, upd_same⟩ (fun i _ _ hi _ => hi) (fun _ _ _ => Nat.le_refl _) ?_ ?_
    · rintro i ys H2 v H3 hi ⟨rfl, sm, hD2⟩ ⟨rfl, c, hc, rfl⟩
      refine lc_yes ?_
      have hcm : c ∈ cs x := by
        have := List.mem_of_getElem? (l := x.cps.toList) (i := i) (a := c) (by simpa using hc)
        exact this
      have hcl := hx.low c hcm
      have hxz : x.cps.size ≤ 8 := hl
      refine ⟨_, rfl, _, _, rfl, rfl, _, hD2, by rw [List.length_replicate]; lia, ?_, sm.put hD, upd_same⟩
      rw [in_abc hcl.1 hcl.2, List.replicate_succ']
    · rintro ys H2 ⟨rfl, sm, hD2⟩
      refine ⟨D, List.replicate x.cps.size true, rfl, SqL.of (by rw [hD2, List.map_replicate]), ?_⟩
      have e : (List.replicate x.cps.size true).all (fun b => b) = true := by
        rw [List.all_eq_true]
        intro b hb
        exact (List.mem_replicate.mp hb).2
      rw [e]
      exact q H2 sm
end
end K07
namespace K07
open PySem L2 Tx Rk PyProof.Rows PySem.SeqAt
open PySem.PyData (strOk)
section
variable {P : Program} {w : World} {K : PySem.W.Frag} {mg : Str → Option Value} {base : Heap}
theorem ok_readline {f fI aN aF : Addr} {fd fdI : FuncData} (F : Fun K "read_line" "read_line" sReadLine f fd) (DI : Df K mg "is_name" sIsName ["text"] fI fdI) (T : Bl mg) (M : Md K mg aN aF) (GI : FnOk P w K mg base CX0 1 fI fdI ["text"] spIsName) : FnOk P w K mg base CX0 2 f fd ["line"] spReadLine := by
  refine F.ok scReadLine (fun vs H Q E h => ?_) (fun cdv A outer s H vs Q E hr h => ?_)
  · obtain ⟨ro, rfl, _⟩ := h
    rfl
  · obtain ⟨ro, rfl, hv, q⟩ := h
    have hun : (A.deeper (envOfC "read_line" (defScope sReadLine) s.heap.objs.size f cdv)).units + 65 < cLine := by have := hr.un; lia
    have hsl : sizeLine = 16777216 := sizeLine_eq
    have hll := txt_len hv
    refine ⟨_, pss_cons (ps_set (i := 1) scReadLine.nd rfl (Or.inl rfl) (pe_bm PySem.F.plainAttrs_str PySem.F.slot_str_split PySem.F.type_str_split mt_split (pv 0) (pa_cons pe_str pa_nil)))
      (pss_cons (ps_if (pt_cmpR (op_notinD hun) (pe_tup (pa_cons (pe_ix ix_list (pv 1) pe_int (fun _ _ => rfl)) (pa_cons (pe_callB call_len (by rfl) T.len PySem.boot_len (pa_cons (pv 1) pa_nil)) pa_nil))) (pe_glob (v := .ref aF) (by rfl) M.ff rfl) (by rfl)) pss_never pss_nil)
      (pss_cons (ps_for PassesOwn.never rfl (pi_list (pe_slice sl_list (pv 1) (po_some pe_int) po_none)) (pg_name (i := 2) scReadLine.nd rfl (Or.inl rfl))
        (pss_one (ps_if (pt_not (pt_val (pe_call GI hr (by rfl) DI.m DI.F.kp DI.b .nil pass0 (pa_cons (pv 2) pa_nil)))) pss_never pss_nil)))
      (pss_one (ps_ret (pv 1))))), ?_⟩
    refine ⟨_, rfl, rfl, _, _, rfl, rfl, by decide +kernel, by lia, fun l hl => ?_⟩
    rw [show Txt.split ro.txt (Str.ofString " ") = ro.words from split_txt hv]
    have s1 : Same H (upd H l (.lst (ro.words.map V.str))) := Same.new hl
    have e1 : (upd H l (.lst (ro.words.map V.str))) l = some (.lst (ro.words.map V.str)) := upd_same
    generalize upd H l (.lst (ro.words.map V.str)) = H1 at s1 e1 ⊢
    obtain ⟨w0, rest, ew⟩ : ∃ w0 rest, ro.words = w0 :: rest := by cases ro <;> exact ⟨_, _, rfl⟩
    have hat : atI (ro.words.map V.str) ((0 : Nat) : Int) = some (.str w0) := atI_nat (by rw [ew]; rfl)
    refine ⟨_, rfl, l, _, _, _, rfl, rfl, SqL.of e1, hat, _, rfl, _, _, rfl, .inl ⟨_, SqL.of e1, rfl⟩, by show 2 ≤ sizeLine; decide, fun p hp => ?_⟩
    have s2 : Same H1 (upd H1 p (.tup [.str w0, .int ((ro.words.map V.str).length : Nat)])) := Same.new hp
    have hwl : (ro.words.map V.str).length = ro.words.length := List.length_map ..
    refine ⟨.tuple [.str w0, .int (ro.words.length : Nat)], formsD, .tup (by rw [upd_same, hwl]) (.cons (.str w0) (.cons (.int _) .nil)), M.fv, ?_, by decide +kernel, _, rfl, ?_⟩
    · cases ro with
      | pl n => cases ew; exact (by decide +kernel : shaped (PyData.tuple [PyData.str "place", PyData.int ((2 : Nat) : Int)]) = true)
      | bx n => cases ew; exact (by decide +kernel : shaped (PyData.tuple [PyData.str "box", PyData.int ((2 : Nat) : Int)]) = true)
      | lk n k => cases ew; exact (by decide +kernel : shaped (PyData.tuple [PyData.str "box", PyData.int ((3 : Nat) : Int)]) = true)
      | th n k => cases ew; exact (by decide +kernel : shaped (PyData.tuple [PyData.str "thing", PyData.int ((3 : Nat) : Int)]) = true)
    have hany : (formsD.any fun e => PyData.eqv e (.tuple [.str w0, .int (ro.words.length : Nat)])) = true := by
      cases ro with
      | pl n => cases ew; exact (by decide +kernel : (formsD.any fun e => PyData.eqv e (.tuple [.str "place", .int ((2 : Nat) : Int)])) = true)
      | bx n => cases ew; exact (by decide +kernel : (formsD.any fun e => PyData.eqv e (.tuple [.str "box", .int ((2 : Nat) : Int)])) = true)
      | lk n k => cases ew; exact (by decide +kernel : (formsD.any fun e => PyData.eqv e (.tuple [.str "box", .int ((3 : Nat) : Int)])) = true)
      | th n k => cases ew; exact (by decide +kernel : (formsD.any fun e => PyData.eqv e (.tuple [.str "thing", .int ((3 : Nat) : Int)])) = true)
    rw [hany]
    refine iteF ?_
    -- each word behind the first
    have s12 := s1.trans s2
    generalize (upd H1 p (.tup [.str w0, .int ((ro.words.map V.str).length : Nat)])) = H2 at s2 s12 ⊢
    have e2 := s2 _ _ e1
    refine ⟨_, rfl, _, rfl, l, _, rfl, SqL.of e2, fun z hz => ?_⟩
    have s3 : Same H2 (upd H2 z (.lst (cutV (ro.words.map V.str) (some 1) none))) := Same.new hz
    have hcut : cutV (ro.words.map V.str) (some ((1 : Nat) : Int)) none = (ro.words.drop 1).map V.str := by
      unfold cutV
      rw [HT.sIx_none, HT.sIx_nat, hwl, ew, List.length_cons, Nat.min_eq_left (by lia), List.map_drop]
      refine List.take_of_length_le ?_
      simp
    have e3 : (upd H2 z (.lst (cutV (ro.words.map V.str) (some 1) none))) z = some (.lst ((ro.words.drop 1).map V.str)) := by rw [upd_same]; exact congrArg (fun x => some (HO.lst x)) hcut
    generalize upd H2 z (.lst (cutV (ro.words.map V.str) (some 1) none)) = H3 at s3 e3 ⊢
    have hnm : ∀ x ∈ ro.words.drop 1, Nv x := fun x hx => by
      cases ro with
      | pl n => rw [List.mem_singleton.mp hx]; exact hv
      | bx n => rw [List.mem_singleton.mp hx]; exact hv
      | lk n k =>
        rcases List.mem_cons.mp hx with e | e
        · rw [e]; exact hv.1
        · rw [List.mem_singleton.mp e]; exact hv.2
      | th n k =>
        rcases List.mem_cons.mp hx with e | e
        · rw [e]; exact hv.1
        · rw [List.mem_singleton.mp e]; exact hv.2
    refine ⟨z, rfl, ⟨_, SqL.of e3⟩, for_list (K := K) (a := z) (xs := (ro.words.drop 1).map V.str) (fun i σ H4 => ∃ v2 : Option V, σ = [some (.str ro.txt), some (.ref l), v2] ∧ Same H3 H4) ⟨none, rfl, Same.refl _⟩ (fun i σ H4 _ hh0 => by obtain ⟨_, _, s4⟩ := hh0; exact SqL.of (s4 _ _ e3)) ?_ ?_⟩
    · rintro i x σ H4 hx ⟨v2, rfl, s4⟩
      rw [List.getElem?_map] at hx
      cases e : (ro.words.drop 1)[i]? with
      | none => rw [e] at hx; cases hx
      | some y =>
        rw [e] at hx
        cases hx
        refine ⟨_, rfl, y, rfl, hnm y (List.mem_of_getElem? e), fun H5 s5 => ⟨_, rfl, ?_⟩⟩
        refine iteF ?_
        exact ⟨_, rfl, s4.trans s5⟩
    · rintro σ H4 ⟨v2, rfl, s4⟩
      have s34 := s3.trans s4
      exact ⟨_, rfl, q l H4 (s12.trans s34) hl (s34 _ _ e2)⟩
end
end K07
namespace K07
open PySem L2 Tx Rk PyProof.Rows PySem.SeqAt
open PySem.PyData (strOk)
section
variable {P : Program} {w : World} {K : PySem.W.Frag} {mg : Str → Option Value} {base : Heap}
theorem ok_readrows {f fR : Addr} {fd fdR : FuncData} (F : Fun K "read_rows" "read_rows" sReadRows f fd) (DR : Df K mg "read_line" sReadLine ["line"] fR fdR) (T : Bl mg) (GR : FnOk P w K mg base CX0 2 fR fdR ["line"] spReadLine) : FnOk P w K mg base CX0 3 f fd ["lines"] spReadRows := by
  refine F.ok scReadRows (fun vs H Q E h => ?_) (fun cdv A outer s H vs Q E hr h => ?_)
  · obtain ⟨a, rs, rfl, _⟩ := h
    rfl
  · obtain ⟨a, rs, rfl, ha, g, hrl, q⟩ := h
    have hsl : sizeLine = 16777216 := sizeLine_eq
    refine ⟨_, pss_cons (ps_lc (i := 1) (N := ["line"]) (sc := defScope sReadRows) (own := ["line"]) (fr := []) (js := []) scReadRows.nd rfl rfl ⟨rfl, rfl, rfl, rfl, by decide +kernel, by decide +kernel, by decide +kernel, rfl, by decide +kernel⟩ rfl (pi_list (pv 0))
        (fun _ _ _ _ => pg_name (i := 0) (show List.Nodup (["line"] : List Str) by decide +kernel) rfl (Or.inl rfl)) (fun _ _ _ _ => pif_nil) (fun _ _ _ _ => pe_call GR hr (by rfl) DR.m DR.F.kp DR.b .nil pass0 (pa_cons (pv 0) pa_nil)))
      (pss_cons (ps_lc (i := 2) (N := ["words"]) (sc := defScope sReadRows) (own := ["words"]) (fr := []) (js := []) scReadRows.nd rfl rfl ⟨rfl, rfl, rfl, rfl, by decide +kernel, by decide +kernel, by decide +kernel, rfl, by decide +kernel⟩ rfl (pi_list (pv 1))
        (fun _ _ _ _ => pg_name (i := 0) (show List.Nodup (["words"] : List Str) by decide +kernel) rfl (Or.inl rfl)) (fun _ _ _ _ => pif_nil) (fun _ _ _ _ => pe_ix (ix_listK K rfl) (pv 0) pe_int (fun _ _ => rfl)))
      (pss_cons (ps_if (pt_cmpR op_lt (pe_callB call_lenS (by rfl) T.len PySem.boot_len (pa_cons (pe_callTy (call_setK rfl) (by rfl) T.set bt_set (pa_cons (pv 2) pa_nil)) pa_nil)) (pe_callB call_len (by rfl) T.len PySem.boot_len (pa_cons (pv 2) pa_nil)) (nomark _)) pss_never pss_nil)
      (pss_one (ps_ret (pv 1))))), ?_⟩
    refine ⟨_, rfl, a, rfl, ⟨_, SqL.of ha⟩, fun D hD => ?_⟩
    refine lcJ (n := rs.length) (fun i ys H2 => ∃ ls : List Addr, ys = ls.map V.ref ∧ RowsAt H2 (rs.take i) ls ∧ (∀ l ∈ ls, l ≠ D) ∧ Same H H2 ∧ H2 D = some (.lst ys)) ⟨[], rfl, .nil, (fun _ z => nomatch z), Same.new hD, upd_same⟩
      (fun i ys H2 hi hh0 => by obtain ⟨_, _, _, _, s2, _⟩ := hh0; exact ⟨_, .str rs[i].txt, SqL.of (s2 _ _ ha), by simp [hi]⟩) (fun ys H2 hh0 => by obtain ⟨_, _, _, _, s2, _⟩ := hh0; exact ⟨_, SqL.of (s2 _ _ ha), by simp⟩) ?_ ?_
    · rintro i ys H2 x H3 hi ⟨ls, rfl, ra, nD, s2, e2⟩ ⟨rfl, hx⟩
      refine lc_yes ?_
      have hx1 := hx _ (SqL.of (s2 _ _ ha))
      have hx2 : x = .str rs[i].txt := by
        rw [List.getElem?_map, List.getElem?_map, List.getElem?_eq_getElem hi] at hx1
        exact (Option.some.inj hx1).symm
      subst hx2
      refine ⟨_, rfl, rs[i], rfl, g.nv _ (List.getElem_mem hi), fun l H4 s4 fl el => ?_⟩
      have lD : l ≠ D := (ne_of_none e2 fl).symm
      have hlen := ra.length
      rw [List.length_take] at hlen
      refine ⟨_, s4 _ _ e2, by rw [List.length_map]; lia, ls ++ [l], by simp, ?_, fun z hz => ?_, (s2.trans s4).put hD, upd_same⟩
      · rw [List.take_succ_eq_append_getElem hi]
        refine RowsAt.snoc (by rw [upd_ne lD]; exact el) (ra.keep fun b hb o e => ?_)
        rw [upd_ne (nD b hb)]
        exact s4 _ _ e
      · rcases List.mem_append.mp hz with hz | hz
        · exact nD z hz
        · rw [List.mem_singleton.mp hz]; exact lD
    rintro ys H2 ⟨ls, rfl, ra, nD, s2, e2⟩
    rw [List.take_length] at ra
    have hlen := ra.length
    -- the names
    refine ⟨_, rfl, D, rfl, ⟨_, SqL.of e2⟩, fun D2 hD2 => ?_⟩
    refine lcJ (n := rs.length) (fun i ys H3 => ys = ((rs.take i).map Ro.name).map V.str ∧ Same H2 H3 ∧ H3 D2 = some (.lst ys)) ⟨rfl, Same.new hD2, upd_same⟩
      (fun i ys H3 hi hh0 => by obtain ⟨_, s3, _⟩ := hh0; exact ⟨_, .ref (ls[i]'(by lia)), SqL.of (s3 _ _ e2), by simp [show i < ls.length by lia]⟩) (fun ys H3 hh0 => by obtain ⟨_, s3, _⟩ := hh0; exact ⟨_, SqL.of (s3 _ _ e2), by simp; lia⟩) ?_ ?_
    · rintro i ys H3 x H4 hi ⟨rfl, s3, e3⟩ ⟨rfl, hx⟩
      refine lc_yes ?_
      have hx1 := hx _ (SqL.of (s3 _ _ e2))
      have hil : i < ls.length := by lia
      rw [List.getElem?_map, List.getElem?_eq_getElem hil] at hx1
      have hx2 : x = .ref ls[i] := (Option.some.inj hx1).symm
      subst hx2
      obtain ⟨ro, h1, h2⟩ := ra.get (List.getElem?_eq_getElem hil)
      have hat : atI (ro.words.map V.str) ((1 : Nat) : Int) = some (.str ro.name) := atI_nat (by cases ro <;> rfl)
      refine ⟨_, rfl, ls[i], _, _, _, rfl, rfl, SqL.of (s3 _ _ h2), hat, _, e3, by rw [List.length_map, List.length_map, List.length_take]; lia, ?_, s3.put hD2, upd_same⟩
      have hro : rs[i] = ro := (List.getElem?_eq_some_iff.mp h1).2
      rw [List.take_succ_eq_append_getElem hi, List.map_append, List.map_append, hro]
      rfl
    rintro ys H3 ⟨rfl, s3, e3⟩
    rw [List.take_length] at e3
    have ek : (rs.map Ro.name).map V.str = ((rs.map Ro.name).map (Sum.inr : Str → Key)).map kV := by
      rw [List.map_map, List.map_map, List.map_map]
      rfl
    have hkl : ((rs.map Ro.name).map (Sum.inr : Str → Key)).length = rs.length := by rw [List.length_map, List.length_map]
    refine ⟨_, rfl, D2, (rs.map Ro.name).map Sum.inr, rfl, SqL.of (by rw [← ek]; exact e3), by lia, fun st hst => ?_⟩
    have hdd : (SK.dd (kAt ((rs.map Ro.name).map (Sum.inr : Str → Key))) ((rs.map Ro.name).map (Sum.inr : Str → Key)).length).length = rs.length := by
      rw [SK.dd_full (n := rs.length) (fun i j hi hj e => ?_) _ (by lia), hkl]
      have ei : kAt ((rs.map Ro.name).map (Sum.inr : Str → Key)) i = Sum.inr ((rs.map Ro.name)[i]'(by rw [List.length_map]; exact hi)) := by simp [kAt, List.getD, hi]
      have ej : kAt ((rs.map Ro.name).map (Sum.inr : Str → Key)) j = Sum.inr ((rs.map Ro.name)[j]'(by rw [List.length_map]; exact hj)) := by simp [kAt, List.getD, hj]
      rw [ei, ej] at e
      exact (List.getElem_inj g.nd).mp (Sum.inr.inj e)
    have s4 : Same H3 (upd H3 st (setO P w st (SK.dd (kAt ((rs.map Ro.name).map (Sum.inr : Str → Key))) ((rs.map Ro.name).map (Sum.inr : Str → Key)).length).length)) := Same.new hst
    refine ⟨st, _, rfl, upd_same, _, rfl, _, _, rfl, .inl ⟨_, SqL.of (s4 _ _ e3), rfl⟩, _, _, rfl, rfl, _, rfl, ?_⟩
    rw [hdd] at s4 ⊢
    refine ite2 (fun hlt => ?_) (fun _ => ?_)
    · exfalso
      have := of_decide_eq_true hlt
      rw [List.length_map, List.length_map] at this
      lia
    · have s24 := s3.trans s4
      exact ⟨_, rfl, q D ls _ (s2.trans s24) (s24 _ _ e2) (ra.same s24)⟩
end
end K07
namespace K07
open PySem L2 Tx Rk PyProof.Rows PySem.SeqAt
open PySem.PyData (strOk)
section
variable {P : Program} {w : World} {K : PySem.W.Frag} {mg : Str → Option Value} {base : Heap}
theorem ok_things {f aN aF : Addr} {fd : FuncData} (F : Fun K "read_things" "read_things" sReadThings f fd) (T : Bl mg) (M : Md K mg aN aF) : FnOk P w K mg base CX0 1 f fd ["rows"] spReadThings := by
  obtain ⟨t1, m1⟩ := M.mt
  refine F.ok scReadThings (fun vs H Q E h => ?_) (fun cdv A outer s H vs Q E hr h => ?_)
  · obtain ⟨a, rs, ls, rfl, _⟩ := h
    rfl
  · obtain ⟨a, rs, ls, rfl, ha, ra, g, q⟩ := h
    have hu := hu_of hr
    have hsl : sizeLine = 16777216 := sizeLine_eq
    have hft := g.fewT
    have hlen := ra.length
    refine ⟨_, pss_cons (ps_set (i := 1) scReadThings.nd rfl (Or.inl rfl) pe_dnewK)
      (pss_cons (ps_for PassesOwn.never rfl (pi_list (pv 0)) (pg_name (i := 2) scReadThings.nd rfl (Or.inl rfl))
        (pss_one (ps_if (pt_cmpR op_eq (pe_ix ix_list (pv 2) pe_int (fun _ _ => rfl)) pe_str (nomark _)) (pss_one (ps_dput hu (pv 1) (pe_ix ix_list (pv 2) pe_int (fun _ _ => rfl)) (pe_ix ix_list (pv 2) pe_int (fun _ _ => rfl)) rfl)) pss_nil)))
      (pss_cons (ps_if (pt_cmpR op_gt (pe_callB call_lenD (by rfl) T.len PySem.boot_len (pa_cons (pv 1) pa_nil)) (pe_glob (v := .int 6) (by rfl) m1 ⟨_, rfl⟩) (nomark _)) pss_never pss_nil)
      (pss_one (ps_ret (pv 1))))), ?_⟩
    intro d hd
    have s0 : Same H (upd H d (.dK [])) := Same.new hd
    refine ⟨_, rfl, a, rfl, ⟨_, SqL.of (s0 _ _ ha)⟩, for_list (K := K) (a := a) (xs := ls.map V.ref) (fun i σ H2 => ∃ v2 : Option V, σ = [some (.ref a), some (.ref d), v2] ∧ Same H H2 ∧ H2 d = some (.dK (shK (rs.take i)))) ⟨none, rfl, s0, upd_same⟩
      (fun i σ H2 _ hh0 => by obtain ⟨_, _, s2, _⟩ := hh0; exact SqL.of (s2 _ _ ha)) ?_ ?_⟩
    · rintro i x σ H2 hx ⟨v2, rfl, s2, e2⟩
      rw [List.getElem?_map] at hx
      cases el : ls[i]? with
      | none => rw [el] at hx; cases hx
      | some l =>
        rw [el] at hx
        cases hx
        obtain ⟨ro, h1, h2⟩ := ra.get el
        have hi : i < rs.length := (List.getElem?_eq_some_iff.mp h1).1
        have hro : rs[i] = ro := (List.getElem?_eq_some_iff.mp h1).2
        have htk : rs.take (i + 1) = rs.take i ++ [ro] := by rw [List.take_succ_eq_append_getElem hi, hro]
        have hw := s2 _ _ h2
        obtain ⟨w0, w1, rest, ew⟩ : ∃ w0 w1 rest, ro.words = w0 :: w1 :: rest := by cases ro <;> exact ⟨_, _, _, rfl⟩
        have at0 : atI (ro.words.map V.str) ((0 : Nat) : Int) = some (.str w0) := atI_nat (by rw [ew]; rfl)
        refine ⟨_, rfl, l, _, _, _, rfl, rfl, SqL.of hw, at0, rfl, _, rfl, ?_⟩
        refine ite2 (fun he => ?_) (fun he => ?_)
        · have e0 := V.str.inj (of_decide_eq_true he)
          obtain ⟨n, sp, rfl⟩ : ∃ n s, ro = .th n s := by
            cases ro with
            | th n s => exact ⟨n, s, rfl⟩
            | pl n => cases ew; exact absurd e0 (by decide +kernel)
            | bx n => cases ew; exact absurd e0 (by decide +kernel)
            | lk n k => cases ew; exact absurd e0 (by decide +kernel)
          have at1 : atI ((Ro.th n sp).words.map V.str) ((1 : Nat) : Int) = some (.str n) := atI_nat rfl
          have at2 : atI ((Ro.th n sp).words.map V.str) ((2 : Nat) : Int) = some (.str sp) := atI_nat rfl
          have hsh : (shK (rs.take i)).length ≤ 6 := by
            have : (ths rs).length = (ths (rs.take i)).length + (ths (rs.drop i)).length := by rw [← List.length_append, ← ths_app, List.take_append_drop]
            unfold shK
            rw [List.length_map]
            lia
          refine ⟨_, rfl, l, _, _, _, rfl, rfl, SqL.of hw, at2, _, rfl, _, rfl, l, _, _, _, rfl, rfl, SqL.of hw, at1, d, _, rfl, DPut.k (k := (Sum.inr n : Key)) e2 (by lia), ?_⟩
          have hnone : valV (shK (rs.take i)) (Sum.inr n : Key) = none := by
            have hnd : ((rs.take (i + 1)).map Ro.name).Nodup := by
              rw [List.map_take]
              exact List.Sublist.nodup (List.take_sublist _ _) g.nd
            rw [htk, List.map_append] at hnd
            cases hv : valV (shK (rs.take i)) (Sum.inr n : Key) with
            | none => rfl
            | some v =>
              exfalso
              have hm := valV_in hv
              unfold shK at hm
              rw [List.map_map] at hm
              obtain ⟨z, hz, ez⟩ := List.mem_map.mp hm
              have ez' : z.1 = n := Sum.inr.inj ez
              have hmn : n ∈ (rs.take i).map Ro.name := mem_ths_name (List.mem_map.mpr ⟨z, hz, ez'⟩)
              exact (List.nodup_append.mp hnd).2.2 n hmn n (List.mem_singleton.mpr rfl) rfl
          rw [putK_new _ hnone]
          refine ⟨_, rfl, s2.put hd, ?_⟩
          rw [upd_same, htk]
          unfold shK
          rw [ths_app, List.map_append]
          rfl
        · refine ⟨_, rfl, s2, ?_⟩
          have e3 : ths (rs.take (i + 1)) = ths (rs.take i) := by
            rw [htk, ths_app]
            cases ro with
            | th n s => cases ew; exact absurd (decide_eq_true rfl) he
            | _ => exact List.append_nil _
          unfold shK
          rw [e3]
          exact e2
    · rintro σ H2 ⟨v2, rfl, s2, e2⟩
      rw [show (ls.map V.ref).length = rs.length by rw [List.length_map, hlen], List.take_length] at e2
      have hsh : (shK rs).length ≤ 6 := by unfold shK; rw [List.length_map]; lia
      refine ⟨_, rfl, d, _, rfl, e2, _, _, rfl, rfl, _, rfl, ?_⟩
      refine ite2 (fun hlt => ?_) (fun _ => ⟨_, rfl, q d H2 s2 hd e2⟩)
      exfalso
      have := of_decide_eq_true hlt
      lia
end
end K07
namespace K07
open PySem L2 Tx Rk PyProof.Rows PySem.SeqAt
open PySem.PyData (strOk)
section
variable {P : Program} {w : World} {K : PySem.W.Frag} {mg : Str → Option Value} {base : Heap}
theorem ok_places {f aN aF : Addr} {fd : FuncData} (F : Fun K "read_places" "read_places" sReadPlaces f fd) (T : Bl mg) (M : Md K mg aN aF) : FnOk P w K mg base CX0 1 f fd ["rows"] spReadPlaces := by
  obtain ⟨t1, m1⟩ := M.mp
  refine F.ok scReadPlaces (fun vs H Q E h => ?_) (fun cdv A outer s H vs Q E hr h => ?_)
  · obtain ⟨a, rs, ls, rfl, _⟩ := h
    rfl
  · obtain ⟨a, rs, ls, rfl, ha, ra, g, q⟩ := h
    have hu := hu_of hr
    have hsl : sizeLine = 16777216 := sizeLine_eq
    have hfp := g.fewP
    have hlen := ra.length
    refine ⟨_, pss_cons (ps_set (i := 1) scReadPlaces.nd rfl (Or.inl rfl) pe_dnewK)
      (pss_cons (ps_for PassesOwn.never rfl (pi_list (pv 0)) (pg_name (i := 2) scReadPlaces.nd rfl (Or.inl rfl))
        (pss_cons (ps_if (pt_cmpR op_eq (pe_ix ix_list (pv 2) pe_int (fun _ _ => rfl)) pe_str (nomark _)) (pss_one (ps_dput hu (pv 1) (pe_ix ix_list (pv 2) pe_int (fun _ _ => rfl)) (pe_tup (pa_cons pe_bl (pa_cons pe_non pa_nil))) rfl)) pss_nil)
        (pss_one (ps_if (pt_cmpR op_eq (pe_ix ix_list (pv 2) pe_int (fun _ _ => rfl)) pe_str (nomark _))
          (pss_cons (ps_if (pt_cmpR op_eq (pe_callB call_lenD (by rfl) T.len PySem.boot_len (pa_cons (pv 1) pa_nil)) pe_int (nomark _)) pss_never pss_nil)
          (pss_one (ps_dput hu (pv 1) (pe_ix ix_list (pv 2) pe_int (fun _ _ => rfl)) (pe_tup (pa_cons pe_bl (pa_cons (pe_ifExp (pt_cmpR op_eq (pe_callB call_len (by rfl) T.len PySem.boot_len (pa_cons (pv 2) pa_nil)) pe_int (nomark _)) (pe_ix ix_list (pv 2) pe_int (fun _ _ => rfl)) pe_non) pa_nil))) rfl))) pss_nil))))
      (pss_cons (ps_if (PW.pt (pw_or (pt_cmpR op_eq (pe_callB call_lenD (by rfl) T.len PySem.boot_len (pa_cons (pv 1) pa_nil)) pe_int (nomark _)) (pw_or1 (pt_cmpR op_gt (pe_callB call_lenD (by rfl) T.len PySem.boot_len (pa_cons (pv 1) pa_nil)) (pe_glob (v := .int 6) (by rfl) m1 ⟨_, rfl⟩) (nomark _))))) pss_never pss_nil)
      (pss_one (ps_ret (pv 1))))), ?_⟩
    intro d hd
    have s0 : Same H (upd H d (.dK [])) := Same.new hd
    refine ⟨_, rfl, a, rfl, ⟨_, SqL.of (s0 _ _ ha)⟩, for_list (K := K) (a := a) (xs := ls.map V.ref) (fun i σ H2 => ∃ (v2 : Option V) (kvs : List (Key × V)), σ = [some (.ref a), some (.ref d), v2] ∧ Same H H2 ∧ H2 d = some (.dK kvs) ∧ PlOk H2 (plc (rs.take i)) kvs) ⟨none, [], rfl, s0, upd_same, .nil⟩
      (fun i σ H2 _ hh0 => by obtain ⟨_, _, _, s2, _⟩ := hh0; exact SqL.of (s2 _ _ ha)) ?_ ?_⟩
    · rintro i x σ H2 hx ⟨v2, kvs, rfl, s2, e2, pk2⟩
      rw [List.getElem?_map] at hx
      cases el : ls[i]? with
      | none => rw [el] at hx; cases hx
      | some l =>
        rw [el] at hx
        cases hx
        obtain ⟨ro, h1, h2⟩ := ra.get el
        have hi : i < rs.length := (List.getElem?_eq_some_iff.mp h1).1
        have hro : rs[i] = ro := (List.getElem?_eq_some_iff.mp h1).2
        have htk : rs.take (i + 1) = rs.take i ++ [ro] := by rw [List.take_succ_eq_append_getElem hi, hro]
        have hsp : rs = rs.take i ++ ro :: rs.drop (i + 1) := by
          rw [← hro, List.getElem_cons_drop, List.take_append_drop]
        have hw := s2 _ _ h2
        obtain ⟨w0, rest, ew⟩ : ∃ w0 rest, ro.words = w0 :: ro.name :: rest := by cases ro <;> exact ⟨_, _, rfl⟩
        have at0 : atI (ro.words.map V.str) ((0 : Nat) : Int) = some (.str w0) := atI_nat (by rw [ew]; rfl)
        have at1 : atI (ro.words.map V.str) ((1 : Nat) : Int) = some (.str ro.name) := atI_nat (by rw [ew]; rfl)
        have hkl := pk2.length
        have hfew : (plc (rs.take i)).length ≤ 6 := by
          have : (plc rs).length = (plc (rs.take i)).length + (plc (rs.drop i)).length := by rw [← List.length_append, ← plc_app, List.take_append_drop]
          lia
        have hnone : valV kvs (Sum.inr ro.name : Key) = none := by
          refine pk2.none fun z => ?_
          have hnd : ((rs.take (i + 1)).map Ro.name).Nodup := by
            rw [List.map_take]
            exact List.Sublist.nodup (List.take_sublist _ _) g.nd
          rw [htk, List.map_append] at hnd
          exact (List.nodup_append.mp hnd).2.2 _ (mem_plc_name z) ro.name (List.mem_singleton.mpr rfl) rfl
        -- what a stored pair makes
        have put : ∀ (p : Str × Bool × Option Str) (tp : Addr) (H3 : Hp), plc [ro] = [p] → p.1 = ro.name → H2 tp = none → H3 = upd H2 tp (.tup [.bl p.2.1, oV' p.2.2]) → Same H (upd H3 d (.dK (kvs ++ [(Sum.inr ro.name, .ref tp)]))) ∧
            PlOk (upd H3 d (.dK (kvs ++ [(Sum.inr ro.name, .ref tp)]))) (plc (rs.take (i + 1))) (kvs ++ [(Sum.inr ro.name, .ref tp)]) := fun p tp H3 ep en ht e3 => by
          subst e3
          have dt : d ≠ tp := ne_of_none e2 ht
          have s3 : Same H2 (upd H2 tp (.tup [.bl p.2.1, oV' p.2.2])) := Same.new ht
          refine ⟨(s2.trans s3).put hd, ?_⟩
          rw [htk, plc_app, ep, ← en]
          refine PlOk.snoc (by rw [upd_ne dt.symm]; exact upd_same) (pk2.same fun b xs e => ?_)
          rw [upd_ne (ne_of e e2 (by intro z; cases z))]
          exact s3 _ _ e
        refine ⟨_, rfl, l, _, _, _, rfl, rfl, SqL.of hw, at0, rfl, _, rfl, ?_⟩
        refine ite2 (fun he => ?_) (fun he => ?_)
        · -- a place without a lid
          have e0 := V.str.inj (of_decide_eq_true he)
          obtain ⟨n, rfl⟩ : ∃ n, ro = .pl n := by
            cases ro with
            | pl n => exact ⟨n, rfl⟩
            | th n s => cases ew; exact absurd e0 (by decide +kernel)
            | bx n => cases ew; exact absurd e0 (by decide +kernel)
            | lk n k => cases ew; exact absurd e0 (by decide +kernel)
          refine ⟨by show 2 ≤ sizeLine; decide, fun tp htp => ?_⟩
          have s3 : Same H2 (upd H2 tp (.tup [.bl false, .non])) := Same.new htp
          obtain ⟨p1, p2⟩ := put (n, false, none) tp _ rfl rfl htp rfl
          refine ⟨_, rfl, _, rfl, l, _, _, _, rfl, rfl, SqL.of (s3 _ _ hw), at1, d, _, rfl, DPut.k (k := (Sum.inr (Ro.pl n).name : Key)) (s3 _ _ e2) (by lia), ?_⟩
          rw [putK_new _ hnone]
          have hl4 := p1
          have ld : l ≠ d := ne_of hw e2 (by intro z; cases z)
          have hw4 : (upd (upd H2 tp (.tup [.bl false, .non])) d (.dK (kvs ++ [(Sum.inr (Ro.pl n).name, .ref tp)]))) l = some (.lst ((Ro.pl n).words.map V.str)) := by rw [upd_ne ld]; exact s3 _ _ hw
          refine ⟨_, rfl, l, _, _, _, rfl, rfl, SqL.of hw4, at0, rfl, _, rfl, ?_⟩
          refine ite2 (fun hb => ?_) (fun _ => ⟨_, _, rfl, p1, upd_same, p2⟩)
          exfalso
          cases ew
          exact absurd (V.str.inj (of_decide_eq_true hb)) (by decide +kernel)
        · refine ⟨_, rfl, l, _, _, _, rfl, rfl, SqL.of hw, at0, rfl, _, rfl, ?_⟩
          refine ite2 (fun hb => ?_) (fun hb => ?_)
          · -- a box
            have e0 := V.str.inj (of_decide_eq_true hb)
            have hbx : ro.boxed = true := by
              cases ro with
              | pl n => cases ew; exact absurd e0 (by decide +kernel)
              | th n s => cases ew; exact absurd e0 (by decide +kernel)
              | bx n => rfl
              | lk n k => rfl
            have hne := g.floor hsp hbx
            refine ⟨_, rfl, d, _, rfl, e2, rfl, _, rfl, ?_⟩
            refine ite2 (fun hz => ?_) (fun _ => ?_)
            · exfalso
              have := V.int.inj (of_decide_eq_true hz)
              exact hne (List.length_eq_zero_iff.mp (by lia))
            have hwl : (ro.words.map V.str).length = ro.words.length := List.length_map ..
            refine ⟨_, rfl, _, _, rfl, .inl ⟨_, SqL.of hw, rfl⟩, rfl, _, rfl, ?_⟩
            refine ite2 (fun h3 => ?_) (fun h3 => ?_)
            · obtain ⟨n, k, rfl⟩ : ∃ n k, ro = .lk n k := by
                cases ro with
                | lk n k => exact ⟨n, k, rfl⟩
                | bx n => exact absurd (show ((2 : Nat) : Int) = 3 from V.int.inj (of_decide_eq_true h3)) (by decide)
                | pl n => cases hbx
                | th n s => cases hbx
              have at2 : atI ((Ro.lk n k).words.map V.str) ((2 : Nat) : Int) = some (.str k) := atI_nat rfl
              refine ⟨_, rfl, l, _, _, _, rfl, rfl, SqL.of hw, at2, by show 2 ≤ sizeLine; decide, fun tp htp => ?_⟩
              have s3 : Same H2 (upd H2 tp (.tup [.bl true, .str k])) := Same.new htp
              obtain ⟨p1, p2⟩ := put (n, true, some k) tp _ rfl rfl htp rfl
              refine ⟨_, rfl, _, rfl, l, _, _, _, rfl, rfl, SqL.of (s3 _ _ hw), at1, d, _, rfl, DPut.k (k := (Sum.inr (Ro.lk n k).name : Key)) (s3 _ _ e2) (by lia), ?_⟩
              rw [putK_new _ hnone]
              exact ⟨_, _, rfl, p1, upd_same, p2⟩
            · obtain ⟨n, rfl⟩ : ∃ n, ro = .bx n := by
                cases ro with
                | bx n => exact ⟨n, rfl⟩
                | lk n k => exact absurd (by rfl) h3
                | pl n => cases hbx
                | th n s => cases hbx
              refine ⟨by show 2 ≤ sizeLine; decide, fun tp htp => ?_⟩
              have s3 : Same H2 (upd H2 tp (.tup [.bl true, .non])) := Same.new htp
              obtain ⟨p1, p2⟩ := put (n, true, none) tp _ rfl rfl htp rfl
              refine ⟨_, rfl, _, rfl, l, _, _, _, rfl, rfl, SqL.of (s3 _ _ hw), at1, d, _, rfl, DPut.k (k := (Sum.inr (Ro.bx n).name : Key)) (s3 _ _ e2) (by lia), ?_⟩
              rw [putK_new _ hnone]
              exact ⟨_, _, rfl, p1, upd_same, p2⟩
          · -- a thing
            refine ⟨_, kvs, rfl, s2, e2, ?_⟩
            have : plc (rs.take (i + 1)) = plc (rs.take i) := by
              rw [htk, plc_app]
              cases ro with
              | th n s => exact List.append_nil _
              | pl n => cases ew; exact absurd (decide_eq_true rfl) he
              | bx n => cases ew; exact absurd (decide_eq_true rfl) hb
              | lk n k => cases ew; exact absurd (decide_eq_true rfl) hb
            rw [this]
            exact pk2
    · rintro σ H2 ⟨v2, kvs, rfl, s2, e2, pk2⟩
      rw [show (ls.map V.ref).length = rs.length by rw [List.length_map, hlen], List.take_length] at pk2
      have hkl := pk2.length
      obtain ⟨n, t, hfl⟩ := g.first
      have hpos : 0 < (plc rs).length := by rw [hfl]; exact Nat.zero_lt_succ _
      refine ⟨_, rfl, d, _, rfl, e2, rfl, _, rfl, ?_⟩
      refine ite2 (fun hz => ?_) (fun _ => ?_)
      · exfalso
        have := V.int.inj (of_decide_eq_true hz)
        lia
      refine ⟨_, rfl, d, _, rfl, e2, _, _, rfl, rfl, _, rfl, ?_⟩
      refine ite2 (fun hlt => ?_) (fun _ => ⟨_, rfl, q d kvs H2 s2 hd e2 pk2⟩)
      exfalso
      have := of_decide_eq_true hlt
      lia
end
end K07
namespace K07
open PySem L2 Tx Rk PyProof.Rows PySem.SeqAt
open PySem.PyData (strOk)
section
variable {P : Program} {w : World} {K : PySem.W.Frag} {mg : Str → Option Value} {base : Heap}
theorem ok_check {f : Addr} {fd : FuncData} (F : Fun K "check_keys" "check_keys" sCheckKeys f fd) : FnOk P w K mg base CX0 1 f fd ["places", "shapes"] spCheckKeys := by
  refine F.ok scCheckKeys (fun vs H Q E h => ?_) (fun cdv A outer s H vs Q E hr h => ?_)
  · obtain ⟨d1, d2, rs, kvs, rfl, _⟩ := h
    rfl
  · obtain ⟨d1, d2, rs, kvs, rfl, h1, pk1, h2, ne, g, q⟩ := h
    have hu := hu_of hr
    refine ⟨_, pss_one (ps_for PassesOwn.never rfl (pi_vals (pe_bm0 PySem.F.plainAttrs_dict PySem.F.slot_dict_values PySem.F.type_dict_values mt_values (pv 0))) (pg_name (i := 2) scCheckKeys.nd rfl (Or.inl rfl))
      (pss_cons (ps_set (i := 3) scCheckKeys.nd rfl (Or.inl rfl) (pe_ix ix_tup (pv 2) pe_int (fun _ _ => rfl)))
      (pss_one (ps_if (PW.pt (pw_and (pt_cmpR op_notN (pv 3) pe_non (nomark _)) (pw_and1 (pt_cmp (pc_dnotin hu (pv 3) (pv 1)))))) pss_never pss_nil)))), ?_⟩
    refine ⟨_, rfl, .inr (.inr (.inl ⟨rfl, .inl ⟨_, h1⟩⟩)), d1, kvs, rfl, rfl, h1, fun v hv => ?_⟩
    have v1 : d1 ≠ v := ne_of_none h1 hv
    refine ⟨v, d1, kvs, rfl, upd_same, by rw [upd_ne v1]; exact h1, fun o => ?_⟩
    have kp : ∀ b u, H b = some u → b ≠ d1 → (upd (upd H v (viewO v d1)) d1 (.frz o (.dK kvs))) b = some u := fun b u e hb => by
      rw [upd_ne hb, upd_ne (ne_of_none e hv)]
      exact e
    have e1 : (upd (upd H v (viewO v d1)) d1 (.frz o (.dK kvs))) d1 = some (.frz o (.dK kvs)) := upd_same
    generalize (upd (upd H v (viewO v d1)) d1 (.frz o (.dK kvs))) = H2 at kp e1 ⊢
    have h22 := kp _ _ h2 ne.symm
    have pk2 : PlOk H2 (plc rs) kvs := pk1.same fun b xs e => kp _ _ e (ne_of e h1 (by intro z; cases z))
    refine for_vals (a := d1) (o := o) (kvs := kvs) (fun _ σ H3 => ∃ v2 v3 : Option V, σ = [some (.ref d1), some (.ref d2), v2, v3] ∧ H3 = H2) ⟨none, none, rfl, rfl⟩ (fun i σ H3 _ hh0 => by obtain ⟨_, _, _, e⟩ := hh0; rw [e]; exact e1) ?_ ?_
    · rintro i k x σ H3 hx ⟨v2, v3, rfl, rfl⟩
      obtain ⟨p, t, hp, rfl, ht⟩ := pk2.get hx
      have hpm : p ∈ plc rs := List.mem_of_getElem? hp
      have at1 : atI [V.bl p.2.1, oV' p.2.2] ((1 : Nat) : Int) = some (oV' p.2.2) := atI_nat rfl
      refine ⟨_, rfl, t, _, _, _, rfl, rfl, SqT.of ht, at1, ?_⟩
      cases hk : p.2.2 with
      | none =>
        refine ⟨_, rfl, rfl, _, rfl, ?_⟩
        refine iteF ?_
        exact iteF ⟨_, _, rfl, rfl⟩
      | some key =>
        refine ⟨_, rfl, rfl, _, rfl, ?_⟩
        refine iteT ?_
        refine ⟨_, rfl, _, rfl, d2, _, rfl, DGet.k (k := (Sum.inr key : Key)) h22, _, rfl, ?_⟩
        have hmem := g.keys p hpm key hk
        obtain ⟨y, hy, ey⟩ := List.mem_map.mp hmem
        have hs : (valV (shK rs) (Sum.inr key : Key)).isSome = true := by
          rw [← valV_any, List.any_eq_true]
          exact ⟨(Sum.inr y.1, .str y.2), List.mem_map.mpr ⟨y, hy, rfl⟩, decide_eq_true (by rw [ey])⟩
        rw [hs]
        exact iteF ⟨_, _, rfl, rfl⟩
    · rintro σ H3 ⟨v2, v3, rfl, rfl⟩
      exact q o _ kp e1
end
end K07
namespace K07
open PySem L2 Tx Rk PyProof.Rows PySem.SeqAt
open PySem.PyData (strOk)
section
variable {P : Program} {w : World} {K : PySem.W.Frag} {mg : Str → Option Value} {base : Heap}
theorem ok_init {f C fR fP fT fK : Addr} {fd dR dP dT dK : FuncData} (F : Fun K "__init__" "Room.__init__" sInit f fd) (L : Cl K C) (DR : Df K mg "read_rows" sReadRows ["lines"] fR dR) (DP : Df K mg "read_places" sReadPlaces ["rows"] fP dP) (DT : Df K mg "read_things" sReadThings ["rows"] fT dT) (DK : Df K mg "check_keys" sCheckKeys ["places", "shapes"] fK dK)
    (GR : FnOk P w K mg base CX0 3 fR dR ["lines"] spReadRows) (GP : FnOk P w K mg base CX0 1 fP dP ["rows"] spReadPlaces) (GT : FnOk P w K mg base CX0 1 fT dT ["rows"] spReadThings) (GK : FnOk P w K mg base CX0 1 fK dK ["places", "shapes"] spCheckKeys) : FnOk P w K mg base CX0 4 f fd ["self", "lines"] (spInit C) := by
  refine F.ok scInit (fun vs H Q E h => ?_) (fun cdv A outer s H vs Q E hr h => ?_)
  · obtain ⟨x, dx, a, rs, rfl, _⟩ := h
    rfl
  · obtain ⟨x, dx, a, rs, rfl, hx, ha, g, hrl, q⟩ := h
    have hr1 : Room 1 _ := hr.mono (by decide)
    refine ⟨_, pss_cons (ps_set (i := 2) scInit.nd rfl (Or.inl rfl) (pe_call GR hr (by rfl) DR.m DR.F.kp DR.b .nil pass0 (pa_cons (pv 1) pa_nil)))
      (pss_cons (ps_set (i := 3) scInit.nd rfl (Or.inl rfl) (pe_call GP hr1 (by rfl) DP.m DP.F.kp DP.b .nil pass0 (pa_cons (pv 2) pa_nil)))
      (pss_cons (ps_set (i := 4) scInit.nd rfl (Or.inl rfl) (pe_call GT hr1 (by rfl) DT.m DT.F.kp DT.b .nil pass0 (pa_cons (pv 2) pa_nil)))
      (pss_cons (ps_expr (pe_call GK hr1 (by rfl) DK.m DK.F.kp DK.b .nil pass0 (pa_cons (pv 3) (pa_cons (pv 4) pa_nil))))
      (pss_cons (ps_fld (pv 0) (pv 3) rfl) (pss_one (ps_fld (pv 0) (pv 4) rfl)))))), ?_⟩
    refine ⟨_, rfl, a, rs, rfl, ha, g, hrl, fun l ls H1 s1 el ra => ?_⟩
    refine ⟨_, rfl, l, rs, ls, rfl, el, ra, g, fun d1 kvs H2 s2 f1 e1 pk1 => ?_⟩
    refine ⟨_, rfl, l, rs, ls, rfl, s2 _ _ el, ra.same s2, g, fun d2 H3 s3 f2 e2 => ?_⟩
    have n12 : d1 ≠ d2 := ne_of_none e1 f2
    refine ⟨_, rfl, _, rfl, d1, d2, rs, kvs, rfl, s3 _ _ e1, pk1.same (fun b xs e => s3 _ _ e), e2, n12, g, fun o H4 kp e4 => ?_⟩
    have s13 := (s1.trans s2).trans s3
    have hx3 := s13 _ _ hx
    have x1 : x ≠ d1 := fun z => by
      have := s1 _ _ hx
      rw [z, f1] at this
      cases this
    have x2 : x ≠ d2 := fun z => by
      have := (s1.trans s2) _ _ hx
      rw [z, f2] at this
      cases this
    have hx4 := kp _ _ hx3 x1
    refine ⟨_, rfl, _, rfl, x, C, dx, [], rfl, hx4, L.cl, L.nP, (by show 0 < 1000; decide), ?_⟩
    refine ⟨_, rfl, _, rfl, x, C, dx, _, rfl, upd_same, L.cl, L.nS, (by show 1 < 1000; decide), ?_⟩
    rw [upd_upd]
    have all : ∀ b u, H4 b = some u → b ≠ x → (upd H4 x (.ins C dx (rFlds d1 d2))) b = some u := fun b u e hb => by rw [upd_ne hb]; exact e
    refine q _ (fun b u e hb => all b u (kp b u (s13 _ _ e) ?_) hb) ⟨dx, d1, d2, o, kvs, upd_same, all _ _ e4 x1.symm, ?_, all _ _ (kp _ _ e2 n12.symm) x2.symm⟩
    · intro z
      have := s1 _ _ e
      rw [z, f1] at this
      cases this
    · refine pk1.same fun b xs e => all _ _ (kp _ _ (s3 _ _ e) (ne_of e e1 (by intro z; cases z))) ?_
      exact ne_of (s3 _ _ e) hx3 (by intro z; cases z)
end
end K07
namespace K07
open PySem L2 Tx Rk PyProof.Rows PySem.SeqAt
open PySem.PyData (strOk)
section
variable {P : Program} {w : World} {K : PySem.W.Frag} {mg : Str → Option Value} {base : Heap}
theorem ok_pl {f C : Addr} {fd : FuncData} (F : Fun K "places" "Room.places" sPlaces f fd) (L : Cl K C) (T : Bl mg) : FnOk P w K mg base CX0 1 f fd ["self"] (spPlaces C) := by
  refine F.ok scPlaces (fun vs H Q E h => ?_) (fun cdv A outer s H vs Q E hr h => ?_)
  · obtain ⟨x, rs, rfl, _⟩ := h
    rfl
  · obtain ⟨x, rs, rfl, R, q⟩ := h
    obtain ⟨dx, d1, d2, o, kvs, h1, h2, h3, h4⟩ := R.ex
    refine ⟨_, pss_one (ps_ret (pe_callTy (call_listD rfl) (by rfl) T.list bt_list (pa_cons (pe_fld (pv 0) rfl) pa_nil))), ?_⟩
    refine ⟨_, rfl, x, C, dx, _, _, rfl, h1, L.cl, L.nP, rf_places d1 d2, d1, kvs, rfl, .inr ⟨o, h2⟩, fun l hl => ?_⟩
    exact q l _ (Same.new hl) hl (by rw [upd_same, h3.keys])
end
end K07
namespace K07
open PySem L2 Tx Rk PyProof.Rows PySem.SeqAt
open PySem.PyData (strOk)
section
variable {P : Program} {w : World} {K : PySem.W.Frag} {mg : Str → Option Value} {base : Heap}
noncomputable abbrev Plc := Str × Bool × Option Str
theorem rds_str {H : Hp} : ∀ {xs : List V} {ys : List Str}, RdVs H xs (ys.map PyData.str) → xs = ys.map V.str
  | [], [], _ => rfl
  | _ :: _, [], h => by cases h
  | [], _ :: _, h => by cases h
  | x :: xs, y :: ys, h => by
    cases h with
    | cons a b =>
      cases a
      rw [rds_str b]
      rfl
theorem at_idx {ps : List Str} (nd : ps.Nodup) {i : Nat} {x : Str} (h : ps[i]? = some x) : ∀ m, m < i → ps[m]? ≠ some x := fun m hm e => by
  obtain ⟨h1, h2⟩ := List.getElem?_eq_some_iff.mp h
  obtain ⟨e1, e2⟩ := List.getElem?_eq_some_iff.mp e
  have := (List.getElem_inj nd).mp (e2.trans h2.symm)
  lia
theorem heap_at {H : Hp} {xs : List V} {hs : List (List Str)} (r : RdVs H xs (hs.map dH)) {i : Nat} {hp : List Str} (h : hs[i]? = some hp) : ∃ t, xs[i]? = some (.ref t) ∧ H t = some (.tup (hp.map V.str)) := by
  have hl := r.length
  rw [List.length_map] at hl
  have hi := (List.getElem?_eq_some_iff.mp h).1
  obtain ⟨y, hx⟩ : ∃ y, xs[i]? = some y := ⟨xs[i], List.getElem?_eq_getElem (by lia)⟩
  obtain ⟨d, hd, rd⟩ := r.get hx
  rw [List.getElem?_map, h] at hd
  have hd' : dH hp = d := Option.some.inj hd
  subst hd'
  unfold dH at rd
  cases rd with
  | tup eh rh =>
    rw [rds_str rh] at eh
    exact ⟨_, hx, eh⟩
theorem hand_at {H : Hp} {v : V} {o : Option Str} (h : RdV H v (dO o)) : v = oV o := by
  cases o with
  | none => cases h; rfl
  | some x => cases h; rfl
inductive spHeapIn (C : Addr) (vs : List V) (H : Hp) (Q : VK) (E0_ : XK) : Prop
  | mk (x : Addr) (rs : List Ro) (v : V) (W : Wl) (i : Nat) (p : Plc) (hp : List Str) (c0 : vs = [.ref x, v, .str p.1]) (c1 : RoomAt C H x rs) (c2 : Good rs) (c3 : RdV H v (dW W)) (c4 : (plc rs)[i]? = some p) (c5 : W.heaps[i]? = some hp) (c6 : ∀ (t : Addr) (H' : Hp), Same H H' → H t = some (.tup (hp.map V.str)) → Q (.ref t) H') : spHeapIn C vs H Q E0_
inductive spLidOn (C : Addr) (vs : List V) (H : Hp) (Q : VK) (E0_ : XK) : Prop
  | mk (x : Addr) (rs : List Ro) (v : V) (W : Wl) (i : Nat) (p : Plc) (l : Str) (c0 : vs = [.ref x, v, .str p.1]) (c1 : RoomAt C H x rs) (c2 : Good rs) (c3 : RdV H v (dW W)) (c4 : (plc rs)[i]? = some p) (c5 : W.lids[i]? = some l) (c6 : ∀ H' : Hp, Same H H' → Q (.str l) H') : spLidOn C vs H Q E0_
noncomputable abbrev pHeapIn : List Str := ["room", "world", "place"]
noncomputable abbrev nHeapIn : List Str := ["room", "world", "place"]
theorem scHeapIn : FnScope nHeapIn pHeapIn (defScope sHeapIn) := ⟨rfl, rfl, rfl, by decide +kernel, rfl, by decide +kernel, by decide +kernel⟩
noncomputable abbrev pLidOn : List Str := ["room", "world", "place"]
noncomputable abbrev nLidOn : List Str := ["room", "world", "place"]
theorem scLidOn : FnScope nLidOn pLidOn (defScope sLidOn) := ⟨rfl, rfl, rfl, by decide +kernel, rfl, by decide +kernel, by decide +kernel⟩
end
end K07
namespace K07
open PySem L2 Tx Rk PyProof.Rows PySem.SeqAt
open PySem.PyData (strOk)
section
variable {P : Program} {w : World} {K : PySem.W.Frag} {mg : Str → Option Value} {base : Heap}
theorem lay_map {α : Type} {g : α → PyData} : ∀ {xs : List α}, (∀ x ∈ xs, (g x).canLay0 = true) → PyData.canLayAll0 (xs.map g) = true
  | [], _ => by rw [List.map_nil, PyData.canLayAll0]
  | x :: xs, h => by
    rw [List.map_cons, PyData.canLayAll0, h x List.mem_cons_self, lay_map fun y hy => h y (List.mem_cons_of_mem _ hy)]
    rfl
theorem deep_map {α : Type} {g : α → PyData} {n : Nat} : ∀ {xs : List α}, (∀ x ∈ xs, (g x).depth ≤ n) → PyData.depthAll (xs.map g) ≤ n
  | [], _ => by rw [List.map_nil, PyData.depthAll]; exact Nat.zero_le _
  | x :: xs, h => by
    have h1 := h x List.mem_cons_self
    have h2 := deep_map fun y hy => h y (List.mem_cons_of_mem _ hy)
    rw [List.map_cons, PyData.depthAll]
    lia
theorem lay_str {x : Str} (h : strOk x = true) : (PyData.str x).canLay0 = true := by rw [PyData.canLay0]; exact h
theorem lay_dH {xs : List Str} (h : ∀ x ∈ xs, strOk x = true) : (dH xs).canLay0 = true := by
  unfold dH
  rw [PyData.canLay0]
  exact lay_map fun x hx => lay_str (h x hx)
theorem deep_strs (xs : List Str) : PyData.depthAll (xs.map PyData.str) ≤ 0 := deep_map (g := PyData.str) (n := 0) (xs := xs) fun x _ => by rw [PyData.depth]; exact Nat.le_refl 0
theorem deep_dH (xs : List Str) : (dH xs).depth ≤ 1 := by
  unfold dH
  rw [PyData.depth]
  have := deep_strs xs
  lia
theorem shaped_of {d : PyData} (h1 : d.canLay0 = true) (h2 : d.depth ≤ 64) : shaped d = true := by
  unfold shaped
  rw [h1, decide_eq_true h2]
  rfl
theorem sh_dW {W : Wl} (h : Ok W) : shaped (dW W) = true := by
  have l1 : (dO W.hand).canLay0 = true := by
    cases hh : W.hand with
    | none => decide +kernel
    | some x => exact lay_str (h.hand x hh).1
  have d1 : (dO W.hand).depth ≤ 0 := by
    cases W.hand with
    | none => rw [dO, PyData.depth]; exact Nat.le_refl 0
    | some x => rw [dO, PyData.depth]; exact Nat.le_refl 0
  have l2 := lay_map (g := dH) (xs := W.heaps) fun x hx => lay_dH fun y hy => (h.heaps x hx y hy).1
  have d2 := deep_map (g := dH) (n := 1) (xs := W.heaps) fun x _ => deep_dH x
  have l3 := lay_map (g := PyData.str) (xs := W.lids) fun x hx => lay_str (h.lids x hx).1
  have d3 := deep_strs W.lids
  refine shaped_of ?_ ?_
  · unfold dW
    rw [PyData.canLay0, PyData.canLayAll0, PyData.canLayAll0, PyData.canLayAll0, PyData.canLayAll0, l1, PyData.canLay0, l2, PyData.canLay0, l3]
    rfl
  · unfold dW
    rw [PyData.depth, PyData.depthAll, PyData.depthAll, PyData.depthAll, PyData.depthAll, PyData.depth, PyData.depth]
    lia
end
end K07
namespace K07
open PySem L2 Tx Rk PyProof.Rows PySem.SeqAt
open PySem.PyData (strOk)
section
variable {P : Program} {w : World} {K : PySem.W.Frag} {mg : Str → Option Value} {base : Heap}
noncomputable def placesK : List (Key × V) := [(Sum.inr "take", .int 1), (Sum.inr "put", .int 1), (Sum.inr "toss", .int 1), (Sum.inr "open", .int 1), (Sum.inr "shut", .int 1), (Sum.inr "lock", .int 1), (Sum.inr "unlock", .int 1), (Sum.inr "tip", .int 2), (Sum.inr "shake", .int 1)]
structure Dd (P : Program) (w : World) (K : PySem.W.Frag) (mg : Str → Option Value) (aP : Addr) : Prop where
  pm : mg "PLACES" = some (.ref aP)
  pd : KD P w K aP placesK
noncomputable def plN (a : Str) : V := (valV placesK (Sum.inr a : Key)).getD .non
theorem valV_mem {kvs : List (Key × V)} {k : Key} {v : V} (h : valV kvs k = some v) : ∃ kv ∈ kvs, kv.2 = v := by
  induction kvs with
  | nil => cases h
  | cons p r ih =>
    by_cases e : p.1 = k
    · rw [valV_pos e] at h
      exact ⟨p, List.mem_cons_self, Option.some.inj h⟩
    · rw [valV_neg e] at h
      obtain ⟨kv, a, b⟩ := ih h
      exact ⟨kv, List.mem_cons_of_mem _ a, b⟩
theorem plN_cases (a : Str) : plN a = .non ∨ plN a = .int 1 ∨ plN a = .int 2 := by
  unfold plN
  cases h : valV placesK (Sum.inr a : Key) with
  | none => exact .inl rfl
  | some v =>
    obtain ⟨kv, hm, e⟩ := valV_mem h
    have := (by decide +kernel : ∀ kv ∈ placesK, kv.2 = V.int 1 ∨ kv.2 = V.int 2) kv hm
    rw [e] at this
    exact .inr this
structure Wd (line : Str) (ws : List Str) : Prop where
  e : line = Txt.join blank ws
  ne : ws ≠ []
  nb : ∀ w ∈ ws, 32 ∉ cs w
theorem Wd.split {line : Str} {ws : List Str} (h : Wd line ws) : Txt.split line blank = ws := by
  rw [h.e]
  exact split_join h.ne h.nb
noncomputable def dkB (rs : List Ro) (a : Str) (ps : List Str) : Bool := decide (plN a = V.int (ps.length : Int)) && ((ps.all fun p => decide (p ∈ (plc rs).map (·.1))) && decide ps.Nodup)
noncomputable abbrev pReadDeed : List Str := ["room", "line"]
noncomputable abbrev nReadDeed : List Str := ["room", "line", "words", "places"]
theorem scReadDeed : FnScope nReadDeed pReadDeed (defScope sReadDeed) := ⟨rfl, rfl, rfl, by decide +kernel, rfl, by decide +kernel, by decide +kernel⟩
inductive spIsFree (vs : List V) (H : Hp) (Q : VK) (E0_ : XK) : Prop
  | mk (v : V) (W : Wl) (c0 : vs = [v]) (c1 : RdV H v (dW W)) (c2 : Q (.bl W.hand.isNone) H) : spIsFree  vs H Q E0_
noncomputable abbrev pIsFree : List Str := ["world"]
noncomputable abbrev nIsFree : List Str := ["world"]
theorem scIsFree : FnScope nIsFree pIsFree (defScope sIsFree) := ⟨rfl, rfl, rfl, by decide +kernel, rfl, by decide +kernel, by decide +kernel⟩
inductive spChanged (C : Addr) (vs : List V) (H : Hp) (Q : VK) (E0_ : XK) : Prop
  | mk (x : Addr) (rs : List Ro) (e : Addr) (xs : List V) (i : Nat) (p : Plc) (y : V) (c0 : vs = [.ref x, .ref e, .str p.1, y]) (c1 : RoomAt C H x rs) (c2 : Good rs) (c3 : H e = some (.tup xs)) (c4 : i < xs.length) (c5 : xs.length ≤ 100) (c6 : (plc rs)[i]? = some p) (c7 : ∀ (t : Addr) (H' : Hp), Same H H' → H' t = some (.tup (xs.set i y)) → Q (.ref t) H') : spChanged C vs H Q E0_
noncomputable abbrev pChanged : List Str := ["room", "entries", "place", "entry"]
noncomputable abbrev nChanged : List Str := ["room", "entries", "place", "entry", "spot"]
theorem scChanged : FnScope nChanged pChanged (defScope sChanged) := ⟨rfl, rfl, rfl, by decide +kernel, rfl, by decide +kernel, by decide +kernel⟩
theorem sIx_m1 (n d : Nat) : HT.sIx n d (some (-1)) = n - 1 := by
  show (if (-1 : Int) < 0 then ((-1 : Int) + (n : Int)).toNat else min (-1 : Int).toNat n) = n - 1
  rw [if_pos (by decide)]
  lia
structure Pt (rs : List Ro) (W : Wl) (i : Nat) (p : Plc) (hp : List Str) (l : Str) : Prop where
  pl : (plc rs)[i]? = some p
  he : W.heaps[i]? = some hp
  li : W.lids[i]? = some l
  few : W.heaps.length ≤ 100
  len : hp.length ≤ 100
theorem Pt.of {rs : List Ro} {W : Wl} {i : Nat} (g : Good rs) (fw : Fw rs W) (sz : Sz W (plc rs).length) (h : i < (plc rs).length) : ∃ p hp l, Pt rs W i p hp l := by
  have h1 : i < W.heaps.length := by have := sz.1; lia
  have h2 : i < W.lids.length := by have := sz.2; lia
  have h3 := g.fewP
  exact ⟨_, _, _, List.getElem?_eq_getElem h, List.getElem?_eq_getElem h1, List.getElem?_eq_getElem h2, by have := sz.1; lia, (fw.ok g sz).few _ (List.getElem_mem h1)⟩
inductive spIsOpen (C : Addr) (vs : List V) (H : Hp) (Q : VK) (E0_ : XK) : Prop
  | mk (x : Addr) (rs : List Ro) (v : V) (W : Wl) (i : Nat) (p : Plc) (l : Str) (c0 : vs = [.ref x, v, .str p.1]) (c1 : RoomAt C H x rs) (c2 : Good rs) (c3 : RdV H v (dW W)) (c4 : (plc rs)[i]? = some p) (c5 : W.lids[i]? = some l) (c6 : ∀ H' : Hp, Same H H' → Q (.bl (decide (l = "open"))) H') : spIsOpen C vs H Q E0_
noncomputable abbrev pIsOpen : List Str := ["room", "world", "place"]
noncomputable abbrev nIsOpen : List Str := ["room", "world", "place"]
theorem scIsOpen : FnScope nIsOpen pIsOpen (defScope sIsOpen) := ⟨rfl, rfl, rfl, by decide +kernel, rfl, by decide +kernel, by decide +kernel⟩
theorem rds_set {H : Hp} : ∀ {xs : List V} {ds : List PyData} (i : Nat) {x : V} {d : PyData}, RdVs H xs ds → RdV H x d → RdVs H (xs.set i x) (ds.set i d)
  | _, _, _, _, _, .nil, _ => .nil
  | _, _, 0, _, _, .cons _ b, r => .cons r b
  | _, _, i + 1, _, _, .cons a b, r => .cons a (rds_set i b r)
noncomputable def takeF (W : Wl) (i : Nat) (hp : List Str) (l : Str) : List Wl := if W.hand = none ∧ l = "open" ∧ hp ≠ [] then [⟨hp.getLast?, W.heaps.set i hp.dropLast, W.lids⟩] else []
end
end K07
namespace K07
open PySem L2 Tx Rk PyProof.Rows PySem.SeqAt
open PySem.PyData (strOk)
section
variable {P : Program} {w : World} {K : PySem.W.Frag} {mg : Str → Option Value} {base : Heap}
noncomputable def lidsKV (t1 t2 t3 t4 : Addr) : List (Key × V) := [(Sum.inr "open", .ref t1), (Sum.inr "shut", .ref t2), (Sum.inr "lock", .ref t3), (Sum.inr "unlock", .ref t4)]
structure Dl (P : Program) (w : World) (K : PySem.W.Frag) (mg : Str → Option Value) (aL t1 t2 t3 t4 : Addr) : Prop where
  lm : mg "LIDS" = some (.ref aL)
  ld : KD P w K aL (lidsKV t1 t2 t3 t4)
  k1 : ∀ H : Hp, SqT K H t1 [V.str "shut", V.str "open"]
  k2 : ∀ H : Hp, SqT K H t2 [V.str "open", V.str "shut"]
  k3 : ∀ H : Hp, SqT K H t3 [V.str "shut", V.str "locked"]
  k4 : ∀ H : Hp, SqT K H t4 [V.str "locked", V.str "shut"]
noncomputable def lidW : List Str := ["open", "shut", "lock", "unlock"]
inductive spReadDeedV (C : Addr) (vs : List V) (H : Hp) (Q : VK) (E0_ : XK) : Prop
  | mk (x : Addr) (rs : List Ro) (line a : Str) (ps : List Str) (c0 : vs = [.ref x, .str line]) (c1 : RoomAt C H x rs) (c2 : Wd line (a :: ps)) (c3 : line.length ≤ 1000) (c4 : ps.length ≤ 100) (c5 : dkB rs a ps = true) (c6 : ∀ (l : Addr) (H' : Hp), Same H H' → H' l = some (.lst ((a :: ps).map V.str)) → Q (.ref l) H') : spReadDeedV C vs H Q E0_
noncomputable abbrev pTurns : List Str := ["room", "line", "world"]
noncomputable abbrev nTurns : List Str := ["room", "line", "world", "words"]
theorem scTurns : FnScope nTurns pTurns (defScope sTurns) := ⟨rfl, rfl, rfl, by decide +kernel, rfl, by decide +kernel, by decide +kernel⟩
theorem dk_one {rs : List Ro} {a : Str} {i : Nat} {p : Plc} (hp : (plc rs)[i]? = some p) (ha : plN a = V.int 1) : dkB rs a [p.1] = true := by
  unfold dkB
  rw [show decide (plN a = V.int (([p.1].length : Nat) : Int)) = true from decide_eq_true ha]
  rw [show ([p.1].all fun p => decide (p ∈ (plc rs).map (·.1))) = true from ?_]
  · rw [decide_eq_true (show [p.1].Nodup from by simp)]
    rfl
  · rw [List.all_eq_true]
    intro y hy
    rw [List.mem_singleton.mp hy]
    exact decide_eq_true (List.mem_map_of_mem (List.mem_of_getElem? hp))
end
end K07
namespace K07
open PySem L2 Tx Rk PyProof.Rows PySem.SeqAt
open PySem.PyData (strOk)
section
variable {P : Program} {w : World} {K : PySem.W.Frag} {mg : Str → Option Value} {base : Heap}
noncomputable def layF (t : Str) (W : Wl) (i : Nat) : Wl := ⟨none, W.heaps.set i (W.heaps.getD i [] ++ [t]), W.lids⟩
noncomputable def tossJ (i : Nat) : List Nat := if i = 0 then [0] else [i, 0]
noncomputable def putF (W : Wl) (i : Nat) (_ : List Str) (l : Str) : List Wl := match W.hand with
  | some t => if l = "open" then [layF t W i] else []
  | none => []
noncomputable def tossF (W : Wl) (i : Nat) (_ : List Str) (l : Str) : List Wl := match W.hand with
  | some t => if l = "open" then (tossJ i).map (layF t W) else []
  | none => []
noncomputable def swF (hp : List Str) : List Str := hp.take (hp.length - 2) ++ (hp.drop (hp.length - 2)).reverse
noncomputable def shakeF (W : Wl) (i : Nat) (hp : List Str) (l : Str) : List Wl := if W.hand = none ∧ l ≠ "open" ∧ 2 ≤ hp.length then [W, ⟨none, W.heaps.set i (swF hp), W.lids⟩] else []
noncomputable def tipF (W : Wl) (i : Nat) (hp : List Str) (l : Str) (j : Nat) (hq : List Str) (lq : Str) : List Wl := if W.hand = none ∧ l = "open" ∧ lq = "open" ∧ hp ≠ [] then [⟨none, (W.heaps.set i []).set j (hq ++ hp.reverse), W.lids⟩] else []
noncomputable def movF (w : Str) : Wl → Nat → List Str → Str → List Wl := if w = "take" then takeF else if w = "put" then putF else if w = "toss" then tossF else shakeF
inductive spDeedN (C : Addr) (F : Wl → Nat → List Str → Str → List Wl) (vs : List V) (H : Hp) (Q : VK) (E0_ : XK) : Prop
  | mk (x : Addr) (rs : List Ro) (v : V) (W : Wl) (i : Nat) (p : Plc) (hp : List Str) (l : Str) (c0 : vs = [.ref x, v, .str p.1]) (c1 : RoomAt C H x rs) (c2 : Good rs) (c3 : RdV H v (dW W)) (c4 : Pt rs W i p hp l) (c5 : (∀ h ∈ W.heaps, h.length ≤ 100)) (c6 : ∀ (lw : Addr) (us : List V) (H' : Hp), Same H H' → H lw = none → H' lw = some (.lst us) → RdVs H' us ((F W i hp l).map dW) → Q (.ref lw) H') : spDeedN C F vs H Q E0_
inductive spTip (C : Addr) (vs : List V) (H : Hp) (Q : VK) (E0_ : XK) : Prop
  | mk (x : Addr) (rs : List Ro) (v : V) (W : Wl) (i : Nat) (p : Plc) (hp : List Str) (l : Str) (j : Nat) (pj : Plc) (hq : List Str) (lq : Str) (c0 : vs = [.ref x, v, .str p.1, .str pj.1]) (c1 : RoomAt C H x rs) (c2 : Good rs) (c3 : RdV H v (dW W)) (c4 : Pt rs W i p hp l) (c5 : Pt rs W j pj hq lq) (c6 : ∀ (lw : Addr) (us : List V) (H' : Hp), Same H H' → H lw = none → H' lw = some (.lst us) → RdVs H' us ((tipF W i hp l j hq lq).map dW) → Q (.ref lw) H') : spTip C vs H Q E0_
inductive spCanPut (C : Addr) (vs : List V) (H : Hp) (Q : VK) (E0_ : XK) : Prop
  | mk (x : Addr) (rs : List Ro) (v : V) (W : Wl) (i : Nat) (p : Plc) (l : Str) (c0 : vs = [.ref x, v, .str p.1]) (c1 : RoomAt C H x rs) (c2 : Good rs) (c3 : RdV H v (dW W)) (c4 : (plc rs)[i]? = some p) (c5 : W.lids[i]? = some l) (c6 : ∀ H' : Hp, Same H H' → Q (.bl (W.hand.isSome && decide (l = "open"))) H') : spCanPut C vs H Q E0_
noncomputable abbrev pCanPut : List Str := ["room", "world", "place"]
noncomputable abbrev nCanPut : List Str := ["room", "world", "place"]
theorem scCanPut : FnScope nCanPut pCanPut (defScope sCanPut) := ⟨rfl, rfl, rfl, by decide +kernel, rfl, by decide +kernel, by decide +kernel⟩
inductive spLaid (C : Addr) (vs : List V) (H : Hp) (Q : VK) (E0_ : XK) : Prop
  | mk (x : Addr) (rs : List Ro) (v : V) (W : Wl) (i : Nat) (p : Plc) (hp : List Str) (l t : Str) (c0 : vs = [.ref x, v, .str p.1]) (c1 : RoomAt C H x rs) (c2 : Good rs) (c3 : RdV H v (dW W)) (c4 : Pt rs W i p hp l) (c5 : W.hand = some t) (c6 : ∀ (v' : V) (H' : Hp), Same H H' → RdV H' v' (dW (layF t W i)) → Q v' H') : spLaid C vs H Q E0_
noncomputable abbrev pLaid : List Str := ["room", "world", "place"]
noncomputable abbrev nLaid : List Str := ["room", "world", "place", "heap"]
theorem scLaid : FnScope nLaid pLaid (defScope sLaid) := ⟨rfl, rfl, rfl, by decide +kernel, rfl, by decide +kernel, by decide +kernel⟩
noncomputable abbrev pPut : List Str := ["room", "world", "place"]
noncomputable abbrev nPut : List Str := ["room", "world", "place"]
theorem scPut : FnScope nPut pPut (defScope sPut) := ⟨rfl, rfl, rfl, by decide +kernel, rfl, by decide +kernel, by decide +kernel⟩
noncomputable abbrev pToss : List Str := ["room", "world", "place"]
noncomputable abbrev nToss : List Str := ["room", "world", "place", "floor", "ends"]
theorem scToss : FnScope nToss pToss (defScope sToss) := ⟨rfl, rfl, rfl, by decide +kernel, rfl, by decide +kernel, by decide +kernel⟩
noncomputable abbrev pShake : List Str := ["room", "world", "place"]
noncomputable abbrev nShake : List Str := ["room", "world", "place", "heap", "shaken"]
theorem scShake : FnScope nShake pShake (defScope sShake) := ⟨rfl, rfl, rfl, by decide +kernel, rfl, by decide +kernel, by decide +kernel⟩
noncomputable abbrev pTip : List Str := ["room", "world", "place", "other"]
noncomputable abbrev nTip : List Str := ["room", "world", "place", "other", "heap", "filled", "heaps"]
theorem scTip : FnScope nTip pTip (defScope sTip) := ⟨rfl, rfl, rfl, by decide +kernel, rfl, by decide +kernel, by decide +kernel⟩
noncomputable abbrev pTake : List Str := ["room", "world", "place"]
noncomputable abbrev nTake : List Str := ["room", "world", "place", "heap"]
theorem scTake : FnScope nTake pTake (defScope sTake) := ⟨rfl, rfl, rfl, by decide +kernel, rfl, by decide +kernel, by decide +kernel⟩
inductive spMoveT (C : Addr) (vs : List V) (H : Hp) (Q : VK) (E0_ : XK) : Prop
  | mk (x : Addr) (rs : List Ro) (v : V) (W : Wl) (w : Str) (i : Nat) (p : Plc) (hp : List Str) (l : Str) (c0 : vs = [.ref x, v, .str w, .str p.1]) (c1 : RoomAt C H x rs) (c2 : Good rs) (c3 : RdV H v (dW W)) (c4 : Pt rs W i p hp l) (c5 : (∀ h ∈ W.heaps, h.length ≤ 100)) (c6 : ∀ (lw : Addr) (us : List V) (H' : Hp), Same H H' → H lw = none → H' lw = some (.lst us) → RdVs H' us ((movF w W i hp l).map dW) → Q (.ref lw) H') : spMoveT C vs H Q E0_
noncomputable abbrev pMoveThings : List Str := ["room", "world", "word", "place"]
noncomputable abbrev nMoveThings : List Str := ["room", "world", "word", "place"]
theorem scMoveThings : FnScope nMoveThings pMoveThings (defScope sMoveThings) := ⟨rfl, rfl, rfl, by decide +kernel, rfl, by decide +kernel, by decide +kernel⟩
noncomputable def movW : List Str := ["take", "put", "toss", "tip", "shake"]
theorem movW_cases {w : Str} (h : w ∈ movW) : w = "take" ∨ w = "put" ∨ w = "toss" ∨ w = "tip" ∨ w = "shake" := by
  simpa only [movW, List.mem_cons, List.not_mem_nil, or_false] using h
noncomputable def allF (w : Str) (W : Wl) (i : Nat) (hp : List Str) (l : Str) (j : Nat) (hq : List Str) (lq : Str) : List Wl := if w = "tip" then tipF W i hp l j hq lq else movF w W i hp l
noncomputable def wdsT (w a b : Str) : List Str := if w = "tip" then [w, a, b] else [w, a]
inductive spTurnsT (C : Addr) (vs : List V) (H : Hp) (Q : VK) (E0_ : XK) : Prop
  | mk (x : Addr) (rs : List Ro) (v : V) (W : Wl) (line w : Str) (i : Nat) (p : Plc) (hp : List Str) (l : Str) (j : Nat) (pj : Plc) (hq : List Str) (lq : Str) (c0 : vs = [.ref x, .str line, v]) (c1 : RoomAt C H x rs) (c2 : Good rs) (c3 : RdV H v (dW W)) (c4 : Wd line (wdsT w p.1 pj.1)) (c5 : line.length ≤ 1000) (c6 : Pt rs W i p hp l) (c7 : Pt rs W j pj hq lq) (c8 : (w = "tip" → i ≠ j)) (c9 : w ∈ movW) (c10 : (∀ h ∈ W.heaps, h.length ≤ 100)) (c11 : ∀ (lw : Addr) (us : List V) (H' : Hp), Same H H' → H lw = none → H' lw = some (.lst us) → RdVs H' us ((allF w W i hp l j hq lq).map dW) → Q (.ref lw) H') : spTurnsT C vs H Q E0_
theorem lids_no {t1 t2 t3 t4 : Addr} {w : Str} (h : w ∈ movW) : valV (lidsKV t1 t2 t3 t4) (Sum.inr w : Key) = none := by
  unfold lidsKV
  have hn : ∀ z ∈ lidW, z ≠ w := by
    rcases movW_cases h with e | e | e | e | e <;> (rw [e]; decide +kernel)
  rw [valV_neg (kne (hn "open" (by decide +kernel))), valV_neg (kne (hn "shut" (by decide +kernel))), valV_neg (kne (hn "lock" (by decide +kernel))), valV_neg (kne (hn "unlock" (by decide +kernel)))]
  rfl
theorem Pt.getD {rs : List Ro} {W : Wl} {i : Nat} {p : Plc} {hp : List Str} {l : Str} (h : Pt rs W i p hp l) : W.heaps.getD i [] = hp := by
  rw [List.getD_eq_getElem?_getD, h.he]
  rfl
theorem pl_inj {rs : List Ro} {i j : Nat} {p q : Plc} (g : Good rs) (hp : (plc rs)[i]? = some p) (hq : (plc rs)[j]? = some q) (e : p.1 = q.1) : i = j := by
  have h1 : ((plc rs).map (·.1))[i]? = some p.1 := by rw [List.getElem?_map, hp]; rfl
  have h2 : ((plc rs).map (·.1))[j]? = some p.1 := by rw [List.getElem?_map, hq, e]; rfl
  obtain ⟨l1, e1⟩ := List.getElem?_eq_some_iff.mp h1
  obtain ⟨l2, e2⟩ := List.getElem?_eq_some_iff.mp h2
  exact (List.getElem_inj g.ndP).mp (e1.trans e2.symm)
theorem sIx_m2 (n d : Nat) : HT.sIx n d (some (-2)) = n - 2 := by
  show (if (-2 : Int) < 0 then ((-2 : Int) + (n : Int)).toNat else min (-2 : Int).toNat n) = n - 2
  rw [if_pos (by decide)]
  lia
theorem two_last {hp : List Str} (h : 2 ≤ hp.length) : ∃ r b a, hp = r ++ [b, a] := by
  refine ⟨hp.take (hp.length - 2), hp[hp.length - 2]'(by lia), hp[hp.length - 1]'(by lia), ?_⟩
  have e : hp.drop (hp.length - 2) = [hp[hp.length - 2]'(by lia), hp[hp.length - 1]'(by lia)] := by
    rw [List.drop_eq_getElem_cons (by lia), List.drop_eq_getElem_cons (by lia), List.drop_of_length_le (by lia)]
    have e2 : hp.length - 2 + 1 = hp.length - 1 := by lia
    simp only [e2]
  rw [← e, List.take_append_drop]
theorem sw_two (r : List Str) (b a : Str) : swF (r ++ [b, a]) = r ++ [a, b] := by
  unfold swF
  have e : (r ++ [b, a]).length - 2 = r.length := by simp
  rw [e, List.take_left, List.drop_left]
  rfl
theorem atI_two {α : Type} (xs : List α) (u v : α) : atI (xs ++ [u, v]) (-2) = some u := by
  have hl : (xs ++ [u, v]).length = xs.length + 2 := by simp
  have e : ixN (xs ++ [u, v]).length (-2) = some xs.length := by
    unfold ixN
    rw [hl, if_neg (by decide), if_pos (by lia)]
    congr 1
    lia
  unfold atI
  rw [e]
  simp
theorem Pt.at' {rs : List Ro} {W : Wl} {i : Nat} {p : Plc} {hp : List Str} {l : Str} (pt : Pt rs W i p hp l) (fh : ∀ h ∈ W.heaps, h.length ≤ 100) {k : Nat} {pk : Plc} (hk : (plc rs)[k]? = some pk) (h1 : k < W.heaps.length) (h2 : k < W.lids.length) : ∃ hk lk, Pt rs W k pk hk lk :=
  ⟨_, _, hk, List.getElem?_eq_getElem h1, List.getElem?_eq_getElem h2, pt.few, fh _ (List.getElem_mem h1)⟩
theorem seq_g0 {s R : TS} {D : Ends} {σ : L2.St} {H : Hp} (I : L2.St → Hp → Prop) (hR : ∀ σ' H', I σ' H' → R D σ' H') (hs : ∀ N : L2.St → Hp → Prop, (∀ σ' H', I σ' H' → N σ' H') → s { D with nx := N } σ H) : tSeq s R D σ H := hs (R D) hR
end
end K07
namespace K07
open PySem L2 Tx Rk PyProof.Rows PySem.SeqAt
open PySem.PyData (strOk)
section
variable {P : Program} {w : World} {K : PySem.W.Frag} {mg : Str → Option Value} {base : Heap}
theorem ok_heapin {f C f_places : Addr} {fd d_places : FuncData} (F : Fun K "heap_in" "heap_in" sHeapIn f fd) (L : Cl K C) (b_places : Binds K d_places ["self"] []) (m_places : Meth K C "places" f_places) (G_places : FnOk P w K mg base CX0 1 f_places d_places ["self"] (spPlaces C)) : FnOk P w K mg base CX0 2 f fd pHeapIn (spHeapIn C) := by
  refine F.ok scHeapIn (fun vs H Q E h => ?_) (fun cdv A outer s H vs Q E hr1 h => ?_)
  · obtain ⟨x, rs, v, W, i, p, hp, rfl, _⟩ := h
    rfl
  · obtain ⟨x, rs, v, W, i, p, hp, rfl, R, g, rv, hi, hh, q⟩ := h
    obtain ⟨dx, d1, d2, o, kvs, h1, h2, h3, h4⟩ := R.ex
    obtain ⟨c, v0, hb, cl, xs, ys, rfl, ea, r0, eb, rb, ec, rc⟩ := parts rv
    obtain ⟨t, et, ht⟩ := heap_at rb hh
    have at1 : atI [v0, V.ref hb, V.ref cl] ((1 : Nat) : Int) = some (.ref hb) := atI_nat rfl
    have hpi : ((plc rs).map (·.1))[i]? = some p.1 := by rw [List.getElem?_map, hi]; rfl
    refine ⟨_, (pss_one (ps_ret (pe_ix ix_tup (pe_ix ix_tup (pv 1) pe_int (fun _ _ => rfl)) (pe_bm PySem.F.plainAttrs_list PySem.F.slot_list_index PySem.F.type_list_index mt_index (pe_meth0 (pv 0) L.cl m_places G_places hr1 b_places .nil pass0) (pa_cons (pv 2) pa_nil)) (fun _ _ => rfl)))), ?_⟩
    refine ⟨_, rfl, c, _, _, _, rfl, rfl, SqT.of ea, at1, _, rfl, x, dx, _, rfl, h1, rf_no d1 d2 (by decide +kernel) (by decide +kernel), x, rs, rfl, R, fun l H1 s1 fl el => ?_⟩
    exact ⟨.inl ⟨rfl, _, SqL.of el⟩, _, rfl, l, _, _, i, rfl, rfl, el, hpi, at_idx g.ndP hpi, hb, _, _, _, rfl, rfl, SqT.of (s1 _ _ eb), atI_nat et, q t H1 s1 ht⟩
end
end K07
namespace K07
open PySem L2 Tx Rk PyProof.Rows PySem.SeqAt
open PySem.PyData (strOk)
section
variable {P : Program} {w : World} {K : PySem.W.Frag} {mg : Str → Option Value} {base : Heap}
theorem ok_lidon {f C f_places : Addr} {fd d_places : FuncData} (F : Fun K "lid_on" "lid_on" sLidOn f fd) (L : Cl K C) (b_places : Binds K d_places ["self"] []) (m_places : Meth K C "places" f_places) (G_places : FnOk P w K mg base CX0 1 f_places d_places ["self"] (spPlaces C)) : FnOk P w K mg base CX0 2 f fd pLidOn (spLidOn C) := by
  refine F.ok scLidOn (fun vs H Q E h => ?_) (fun cdv A outer s H vs Q E hr1 h => ?_)
  · obtain ⟨x, rs, v, W, i, p, l, rfl, _⟩ := h
    rfl
  · obtain ⟨x, rs, v, W, i, p, l, rfl, R, g, rv, hi, hh, q⟩ := h
    obtain ⟨dx, d1, d2, o, kvs, h1, h2, h3, h4⟩ := R.ex
    obtain ⟨c, v0, hb, cl, xs, ys, rfl, ea, r0, eb, rb, ec, rc⟩ := parts rv
    have hys := rds_str rc
    subst hys
    have el : (W.lids.map V.str)[i]? = some (.str l) := by rw [List.getElem?_map, hh]; rfl
    have at2 : atI [v0, V.ref hb, V.ref cl] ((2 : Nat) : Int) = some (.ref cl) := atI_nat rfl
    have hpi : ((plc rs).map (·.1))[i]? = some p.1 := by rw [List.getElem?_map, hi]; rfl
    refine ⟨_, (pss_one (ps_ret (pe_ix ix_tup (pe_ix ix_tup (pv 1) pe_int (fun _ _ => rfl)) (pe_bm PySem.F.plainAttrs_list PySem.F.slot_list_index PySem.F.type_list_index mt_index (pe_meth0 (pv 0) L.cl m_places G_places hr1 b_places .nil pass0) (pa_cons (pv 2) pa_nil)) (fun _ _ => rfl)))), ?_⟩
    refine ⟨_, rfl, c, _, _, _, rfl, rfl, SqT.of ea, at2, _, rfl, x, dx, _, rfl, h1, rf_no d1 d2 (by decide +kernel) (by decide +kernel), x, rs, rfl, R, fun l1 H1 s1 fl e1 => ?_⟩
    exact ⟨.inl ⟨rfl, _, SqL.of e1⟩, _, rfl, l1, _, _, i, rfl, rfl, e1, hpi, at_idx g.ndP hpi, cl, _, _, _, rfl, rfl, SqT.of (s1 _ _ ec), atI_nat el, q H1 s1⟩
end
end K07
namespace K07
open PySem L2 Tx Rk PyProof.Rows PySem.SeqAt
open PySem.PyData (strOk)
section
variable {P : Program} {w : World} {K : PySem.W.Frag} {mg : Str → Option Value} {base : Heap}
theorem ok_isfree {f : Addr} {fd : FuncData} (F : Fun K "is_free" "is_free" sIsFree f fd) : FnOk P w K mg base CX0 1 f fd pIsFree spIsFree := by
  refine F.ok scIsFree (fun vs H Q E h => ?_) (fun cdv A outer s H vs Q E hr h => ?_)
  · obtain ⟨v, W, rfl, _⟩ := h
    rfl
  · obtain ⟨v, W, rfl, rv, q⟩ := h
    obtain ⟨c, v0, hb, cl, xs, ys, rfl, ea, r0, eb, rb, ec, rc⟩ := parts rv
    have hv0 := hand_at r0
    subst hv0
    have w0 : atI [oV W.hand, V.ref hb, V.ref cl] ((0 : Nat) : Int) = some (oV W.hand) := atI_nat rfl
    refine ⟨_, (pss_one (ps_ret (pe_cmpR op_isN (pe_ix ix_tup (pv 0) pe_int (fun _ _ => rfl)) pe_non (nomark _)))), ?_⟩
    refine ⟨_, rfl, c, _, _, _, rfl, rfl, SqT.of ea, w0, rfl, ?_⟩
    cases hh : W.hand with
    | none => rw [hh] at q; exact q
    | some t => rw [hh] at q; exact q
end
end K07
namespace K07
open PySem L2 Tx Rk PyProof.Rows PySem.SeqAt
open PySem.PyData (strOk)
section
variable {P : Program} {w : World} {K : PySem.W.Frag} {mg : Str → Option Value} {base : Heap}
theorem ok_isopen {f C f1 : Addr} {fd d1 : FuncData} (F : Fun K "is_open" "is_open" sIsOpen f fd) (D_lid_on : Df K mg "lid_on" sLidOn pLidOn f1 d1) (G_lid_on : FnOk P w K mg base CX0 2 f1 d1 pLidOn (spLidOn C)) : FnOk P w K mg base CX0 3 f fd pIsOpen (spIsOpen C) := by
  refine F.ok scIsOpen (fun vs H Q E h => ?_) (fun cdv A outer s H vs Q E hr2 h => ?_)
  · obtain ⟨x, rs, v, W, i, p, l, rfl, _⟩ := h
    rfl
  · obtain ⟨x, rs, v, W, i, p, l, rfl, R, g, rv, hi, hl, q⟩ := h
    refine ⟨_, (pss_one (ps_ret (pe_cmpR op_eq (pe_call G_lid_on hr2 (by rfl) D_lid_on.m D_lid_on.F.kp D_lid_on.b .nil pass0 (pa_cons (pv 0) (pa_cons (pv 1) (pa_cons (pv 2) pa_nil)))) pe_str (nomark _)))), ?_⟩
    refine ⟨_, rfl, _, rfl, _, rfl, x, rs, v, W, i, p, l, rfl, R, g, rv, hi, hl, fun H1 s1 => ⟨rfl, ?_⟩⟩
    rw [dec_s]
    exact q H1 s1
end
end K07
namespace K07
open PySem L2 Tx Rk PyProof.Rows PySem.SeqAt
open PySem.PyData (strOk)
section
variable {P : Program} {w : World} {K : PySem.W.Frag} {mg : Str → Option Value} {base : Heap}
theorem ok_changed {f C f_places : Addr} {fd d_places : FuncData} (F : Fun K "changed" "changed" sChanged f fd) (L : Cl K C) (b_places : Binds K d_places ["self"] []) (m_places : Meth K C "places" f_places) (G_places : FnOk P w K mg base CX0 1 f_places d_places ["self"] (spPlaces C)) : FnOk P w K mg base CX0 2 f fd pChanged (spChanged C) := by
  refine F.ok scChanged (fun vs H Q E h => ?_) (fun cdv A outer s H vs Q E hr1 h => ?_)
  · obtain ⟨x, rs, e, xs, i, p, y, rfl, _⟩ := h
    rfl
  · obtain ⟨x, rs, e, xs, i, p, y, rfl, R, g, he, hi, hx, hpi', q⟩ := h
    have hsl : sizeLine = 16777216 := sizeLine_eq
    obtain ⟨dx, d1, d2, o, kvs, h1, h2, h3, h4⟩ := R.ex
    have hpi : ((plc rs).map (·.1))[i]? = some p.1 := by rw [List.getElem?_map, hpi']; rfl
    refine ⟨_, (pss_cons (ps_set (i := 4) scChanged.nd rfl (Or.inl rfl) (pe_bm PySem.F.plainAttrs_list PySem.F.slot_list_index PySem.F.type_list_index mt_index (pe_meth0 (pv 0) L.cl m_places G_places hr1 b_places .nil pass0) (pa_cons (pv 2) pa_nil)))
      (pss_one (ps_ret (pe_op op_catA (pe_op op_catA (pe_slice sl_tup (pv 1) po_none (po_some (pv 4))) (pe_tup (pa_cons (pv 3) pa_nil))) (pe_slice sl_tup (pv 1) (po_some (pe_op op_add (pv 4) pe_int)) po_none))))), ?_⟩
    refine ⟨_, rfl, x, dx, _, rfl, h1, rf_no d1 d2 (by decide +kernel) (by decide +kernel), x, rs, rfl, R, fun l H1 s1 fl el => ?_⟩
    refine ⟨.inl ⟨rfl, _, SqL.of el⟩, _, rfl, l, _, _, i, rfl, rfl, el, hpi, at_idx g.ndP hpi, ?_⟩
    have he1 := s1 _ _ he
    have c1 : cutV xs none (some ((i : Nat) : Int)) = xs.take i := by
      unfold cutV
      rw [HT.sIx_none, HT.sIx_nat, List.drop_zero, Nat.sub_zero]
      congr 1
      lia
    have c2 : cutV xs (some (((i + 1 : Nat)) : Int)) none = xs.drop (i + 1) := cut_from (by lia)
    refine ⟨_, rfl, _, rfl, _, rfl, e, xs, rfl, SqT.of he1, ?_, fun p1 hp1 => ?_⟩
    · rw [HT.sIx_none, HT.sIx_nat]
      lia
    rw [c1]
    have s2 : Same H1 (upd H1 p1 (.tup (xs.take i))) := Same.new hp1
    have e2 : (upd H1 p1 (.tup (xs.take i))) p1 = some (.tup (xs.take i)) := upd_same
    generalize (upd H1 p1 (.tup (xs.take i))) = H2 at s2 e2 ⊢
    refine ⟨_, rfl, by show 1 ≤ sizeLine; lia, fun p2 hp2 => ?_⟩
    have s3 : Same H2 (upd H2 p2 (.tup [y])) := Same.new hp2
    have e3 : (upd H2 p2 (.tup [y])) p2 = some (.tup [y]) := upd_same
    generalize (upd H2 p2 (.tup [y])) = H3 at s3 e3 ⊢
    refine catA_any (s3 _ _ e2) e3 (by rw [List.length_take]; show _ + 1 ≤ _; lia) fun p3 H4 s4 e4 => ?_
    have s14 := (s1.trans s2).trans (s3.trans s4)
    have he4 := s14 _ _ he
    refine ⟨_, rfl, _, rfl, _, _, rfl, rfl, _, rfl, e, xs, rfl, SqT.of he4, ?_, fun p4 hp4 => ?_⟩
    · rw [show ((i : Int) + 1) = ((i + 1 : Nat) : Int) from rfl, HT.sIx_nat]
      lia
    rw [show ((i : Int) + 1) = ((i + 1 : Nat) : Int) from rfl, c2]
    have s5 : Same H4 (upd H4 p4 (.tup (xs.drop (i + 1)))) := Same.new hp4
    refine catA_any (s5 _ _ e4) upd_same (by rw [List.length_append, List.length_take, List.length_drop]; show _ + 1 + _ ≤ _; lia) fun t H6 s6 e6 => ?_
    refine q t H6 (s14.trans (s5.trans s6)) ?_
    rw [e6, List.set_eq_take_append_cons_drop, if_pos hi, List.append_assoc]
    rfl
end
end K07
namespace K07
open PySem L2 Tx Rk PyProof.Rows PySem.SeqAt
open PySem.PyData (strOk)
section
variable {P : Program} {w : World} {K : PySem.W.Frag} {mg : Str → Option Value} {base : Heap}
theorem ok_readdeedV {f C aP f_places : Addr} {fd d_places : FuncData} (F : Fun K "read_deed" "read_deed" sReadDeed f fd) (T : Bl mg) (L : Cl K C) (DD : Dd P w K mg aP) (b_places : Binds K d_places ["self"] []) (m_places : Meth K C "places" f_places) (G_places : FnOk P w K mg base CX0 1 f_places d_places ["self"] (spPlaces C)) : FnOk P w K mg base CX0 2 f fd pReadDeed (spReadDeedV C) := by
  refine F.ok scReadDeed (fun vs H Q E h => ?_) (fun cdv A outer s H vs Q E hr1 h => ?_)
  · obtain ⟨x, rs, line, a, ps, rfl, _⟩ := h
    rfl
  · obtain ⟨x, rs, line, a, ps, rfl, R, hw, ln, pl, dk, q⟩ := h
    have hsl : sizeLine = 16777216 := sizeLine_eq
    obtain ⟨dx, d1, d2, o, kvs, h1, h2, h3, h4⟩ := R.ex
    unfold dkB at dk
    rw [Bool.and_eq_true, Bool.and_eq_true] at dk
    have hn := of_decide_eq_true dk.1
    have ha := dk.2.1
    have hnd := of_decide_eq_true dk.2.2
    refine ⟨_, (pss_cons (ps_set (i := 2) scReadDeed.nd rfl (Or.inl rfl) (pe_bm PySem.F.plainAttrs_str PySem.F.slot_str_split PySem.F.type_str_split mt_split (pv 1) (pa_cons pe_str pa_nil)))
      (pss_cons (ps_set (i := 3) scReadDeed.nd rfl (Or.inl rfl) (pe_slice sl_list (pv 2) (po_some pe_int) po_none))
      (pss_cons (ps_if (pt_cmpR op_ne (pe_kget1 (pe_glob (v := .ref aP) (by rfl) DD.pm rfl) (pe_ix ix_list (pv 2) pe_int (fun _ _ => rfl)) ⟨by rfl, by rfl, by rfl, by rfl⟩) (pe_callB call_len (by rfl) T.len PySem.boot_len (pa_cons (pv 3) pa_nil)) (nomark _)) pss_never pss_nil)
      (pss_cons (ps_if (pt_not (pt_val (pe_callB (call_all rfl) (by rfl) T.all bt_all (pa_cons (pe_lc (N := ["place", "room"]) (sc := defScope sReadDeed) (own := ["place"]) (fr := ["room"]) (js := [0]) ⟨rfl, rfl, rfl, rfl, by decide +kernel, by decide +kernel, by decide +kernel, rfl, by decide +kernel⟩ rfl (pi_list (pv 3)) (fun _ _ _ _ => pg_name (i := 0) (show List.Nodup (["place", "room"] : List Str) by decide +kernel) rfl (Or.inl rfl)) (fun _ _ _ _ => pif_nil) (fun _ _ _ _ => (pe_cmpR (op_in_seqK K rfl) (pv 0) (pe_meth0 (pv 1) L.cl m_places G_places hr1 b_places .nil pass0) (by rfl)))) pa_nil)))) pss_never pss_nil)
      (pss_cons (ps_if (pt_cmpR op_lt (pe_callB call_lenS (by rfl) T.len PySem.boot_len (pa_cons (pe_callTy (call_setK rfl) (by rfl) T.set bt_set (pa_cons (pv 3) pa_nil)) pa_nil)) (pe_callB call_len (by rfl) T.len PySem.boot_len (pa_cons (pv 3) pa_nil)) (nomark _)) pss_never pss_nil)
      (pss_one (ps_ret (pv 2)))))))), ?_⟩
    refine ⟨_, rfl, rfl, _, _, rfl, rfl, by rfl, by lia, fun l hl => ?_⟩
    refine lst_new (a :: ps) _ (by show (Txt.split _ blank).map V.str = _; rw [hw.split]) hl fun H1 s1 el => ?_
    refine ⟨_, rfl, _, rfl, l, _, rfl, SqL.of el, fun lp hlp => ?_⟩
    have elp : (upd H1 lp (.lst (cutV ((a :: ps).map V.str) (some 1) none))) lp = some (.lst (ps.map V.str)) := by
      rw [upd_same, show ((1 : Int)) = ((1 : Nat) : Int) from rfl, cut_from (by simp)]
      rfl
    have s2 : Same H1 (upd H1 lp (.lst (cutV ((a :: ps).map V.str) (some 1) none))) := Same.new hlp
    generalize (upd H1 lp (.lst (cutV ((a :: ps).map V.str) (some 1) none))) = H2 at elp s2 ⊢
    have s12 := s1.trans s2
    have a0 : atI ((a :: ps).map V.str) ((0 : Nat) : Int) = some (.str a) := atI_nat rfl
    have hpm : (ps.map V.str).length = ps.length := List.length_map ..
    refine ⟨aP, _, rfl, DD.pd, _, rfl, l, _, _, _, rfl, rfl, SqL.of (s2 _ _ el), a0, (Sum.inr a : Key), rfl, _, rfl, _, _, rfl, .inl ⟨_, SqL.of elp, rfl⟩, ?_, _, rfl, ?_⟩
    · show scal (plN a) _ = true
      rcases plN_cases a with e | e | e <;> (rw [e]; rfl)
    show if (!decide (plN a = V.int ((ps.map V.str).length : Int))) = true then _ else _
    rw [hpm, decide_eq_true hn]
    refine iteF ?_
    refine ⟨_, rfl, lp, rfl, ⟨_, SqL.of elp⟩, fun D hD => ?_⟩
    refine lcJ (n := ps.length) (fun i ys H3 => ys = ((ps.take i).map fun p => decide (p ∈ (plc rs).map (·.1))).map V.bl ∧ Same H2 H3 ∧ H3 D = some (.lst ys)) ⟨rfl, Same.new hD, upd_same⟩
      (fun i ys H3 hi hh0 => by obtain ⟨_, s3, _⟩ := hh0; exact ⟨_, .str ps[i], SqL.of (s3 _ _ elp), by simp [hi]⟩) (fun ys H3 hh0 => by obtain ⟨_, s3, _⟩ := hh0; exact ⟨_, SqL.of (s3 _ _ elp), by simp⟩) ?_ ?_
    · rintro i ys H3 y H4 hi ⟨rfl, s3, e3⟩ ⟨rfl, hx⟩
      have hx1 := hx _ (SqL.of (s3 _ _ elp))
      have hx2 : y = .str ps[i] := by
        rw [List.getElem?_map, List.getElem?_eq_getElem hi] at hx1
        exact (Option.some.inj hx1).symm
      subst hx2
      refine lc_yes ?_
      have R3 := R.same (s12.trans s3)
      refine ⟨_, rfl, _, rfl, x, dx, _, rfl, (s12.trans s3) _ _ h1, rf_no d1 d2 (by decide +kernel) (by decide +kernel), x, rs, rfl, R3, fun l4 H5 s5 f5 e5 => ?_⟩
      refine ⟨l4, _, rfl, .inl (SqL.of e5), rfl, flat_strs _, _, s5 _ _ e3, by simp only [List.length_map, List.length_take]; lia, ?_, (s3.trans s5).put hD, upd_same⟩
      rw [List.take_succ_eq_append_getElem hi, List.map_append, List.map_append]
      show _ ++ [V.bl (inV (V.str ps[i]) (((plc rs).map (·.1)).map V.str))] = _
      rw [inV_strs]
      rfl
    · rintro ys H3 ⟨rfl, s3, e3⟩
      rw [List.take_length] at e3
      have s13 := s12.trans s3
      refine ⟨D, _, rfl, SqL.of e3, _, rfl, ?_⟩
      have hall : (ps.map fun p => decide (p ∈ (plc rs).map (·.1))).all (fun b => b) = ps.all fun p => decide (p ∈ (plc rs).map (·.1)) := by rw [List.all_map]; rfl
      rw [hall, ha]
      refine iteF ?_
      have ek : ps.map V.str = (ps.map (Sum.inr : Str → Key)).map kV := by
        rw [List.map_map]
        rfl
      refine ⟨_, rfl, lp, ps.map Sum.inr, rfl, SqL.of (by rw [← ek]; exact s3 _ _ elp), by rw [List.length_map]; lia, fun st hst => ?_⟩
      have s4 : Same H3 (upd H3 st (setO P w st (SK.dd (kAt (ps.map (Sum.inr : Str → Key))) (ps.map (Sum.inr : Str → Key)).length).length)) := Same.new hst
      refine ⟨st, _, rfl, upd_same, _, rfl, _, _, rfl, .inl ⟨_, SqL.of (s4 _ _ (s3 _ _ elp)), rfl⟩, _, _, rfl, rfl, _, rfl, ?_⟩
      refine ite2 (fun z => ?_) (fun _ => ?_)
      · exfalso
        have := of_decide_eq_true z
        rw [set_len hnd] at this
        lia
      · exact ⟨_, rfl, q l _ (s13.trans s4) (s4 _ _ (s3 _ _ (s2 _ _ el)))⟩
end
end K07
namespace K07
open PySem L2 Tx Rk PyProof.Rows PySem.SeqAt
open PySem.PyData (strOk)
section
variable {P : Program} {w : World} {K : PySem.W.Frag} {mg : Str → Option Value} {base : Heap}
theorem ok_canput {f C f1 f2 : Addr} {fd d1 d2 : FuncData} (F : Fun K "can_put" "can_put" sCanPut f fd) (D_is_free : Df K mg "is_free" sIsFree pIsFree f1 d1) (G_is_free : FnOk P w K mg base CX0 1 f1 d1 pIsFree spIsFree) (D_is_open : Df K mg "is_open" sIsOpen pIsOpen f2 d2) (G_is_open : FnOk P w K mg base CX0 3 f2 d2 pIsOpen (spIsOpen C)) : FnOk P w K mg base CX0 4 f fd pCanPut (spCanPut C) := by
  refine F.ok scCanPut (fun vs H Q E h => ?_) (fun cdv A outer s H vs Q E hr3 h => ?_)
  · obtain ⟨x, rs, v, W, i, p, l, rfl, _⟩ := h
    rfl
  · obtain ⟨x, rs, v, W, i, p, l, rfl, R, g, rv, hi, hl, q⟩ := h
    have hr1 : Room 1 _ := hr3.mono (by decide)
    refine ⟨_, (pss_one (ps_ret (pe_and (pe_not (pe_call G_is_free hr1 (by rfl) D_is_free.m D_is_free.F.kp D_is_free.b .nil pass0 (pa_cons (pv 1) pa_nil))) (pe_one (pe_call G_is_open hr3 (by rfl) D_is_open.m D_is_open.F.kp D_is_open.b .nil pass0 (pa_cons (pv 0) (pa_cons (pv 1) (pa_cons (pv 2) pa_nil)))))))), ?_⟩
    refine ⟨_, rfl, v, W, rfl, rv, _, rfl, _, rfl, ?_⟩
    cases hh : W.hand with
    | none =>
      rw [hh] at q
      exact iteF (q H (Same.refl _))
    | some t =>
      rw [hh] at q
      refine iteT ?_
      exact ⟨_, rfl, _, rfl, _, rfl, x, rs, v, W, i, p, l, rfl, R, g, rv, hi, hl, fun H1 s1 => q H1 s1⟩
end
end K07
namespace K07
open PySem L2 Tx Rk PyProof.Rows PySem.SeqAt
open PySem.PyData (strOk)
section
variable {P : Program} {w : World} {K : PySem.W.Frag} {mg : Str → Option Value} {base : Heap}
theorem ok_laid {f C f1 f4 : Addr} {fd d1 d4 : FuncData} (F : Fun K "laid" "laid" sLaid f fd) (D_heap_in : Df K mg "heap_in" sHeapIn pHeapIn f1 d1) (G_heap_in : FnOk P w K mg base CX0 2 f1 d1 pHeapIn (spHeapIn C)) (D_changed : Df K mg "changed" sChanged pChanged f4 d4) (G_changed : FnOk P w K mg base CX0 2 f4 d4 pChanged (spChanged C)) : FnOk P w K mg base CX0 3 f fd pLaid (spLaid C) := by
  refine F.ok scLaid (fun vs H Q E h => ?_) (fun cdv A outer s H vs Q E hr2 h => ?_)
  · obtain ⟨x, rs, v, W, i, p, hp, l, t, rfl, _⟩ := h
    rfl
  · obtain ⟨x, rs, v, W, i, p, hp, l, t, rfl, R, g, rv, pt, hh, q⟩ := h
    have hsl : sizeLine = 16777216 := sizeLine_eq
    have hlen := pt.len
    have hif := pt.few
    have rv' := rv
    obtain ⟨c, v0, hb, cl, xs, ys, rfl, ea, r0, eb, rb, ec, rc⟩ := parts rv
    have hv0 := hand_at r0
    subst hv0
    have hlb := rb.length
    rw [List.length_map] at hlb
    have hi : i < xs.length := by
      have := (List.getElem?_eq_some_iff.mp pt.he).1
      lia
    have hlm : (hp.map V.str).length = hp.length := List.length_map ..
    have at0' : atI [oV W.hand, V.ref hb, V.ref cl] ((0 : Nat) : Int) = some (.str t) := by
      rw [hh]
      exact atI_nat rfl
    have at1 : atI [oV W.hand, V.ref hb, V.ref cl] ((1 : Nat) : Int) = some (.ref hb) := atI_nat rfl
    have at2 : atI [oV W.hand, V.ref hb, V.ref cl] ((2 : Nat) : Int) = some (.ref cl) := atI_nat rfl
    refine ⟨_, (pss_cons (ps_set (i := 3) scLaid.nd rfl (Or.inl rfl) (pe_op op_catA (pe_call G_heap_in hr2 (by rfl) D_heap_in.m D_heap_in.F.kp D_heap_in.b .nil pass0 (pa_cons (pv 0) (pa_cons (pv 1) (pa_cons (pv 2) pa_nil)))) (pe_tup (pa_cons (pe_ix ix_tup (pv 1) pe_int (fun _ _ => rfl)) pa_nil))))
      (pss_one (ps_ret (pe_tup (pa_cons pe_non (pa_cons (pe_call G_changed hr2 (by rfl) D_changed.m D_changed.F.kp D_changed.b .nil pass0 (pa_cons (pv 0) (pa_cons (pe_ix ix_tup (pv 1) pe_int (fun _ _ => rfl)) (pa_cons (pv 2) (pa_cons (pv 3) pa_nil))))) (pa_cons (pe_ix ix_tup (pv 1) pe_int (fun _ _ => rfl)) pa_nil))))))), ?_⟩
    refine ⟨_, rfl, _, rfl, _, rfl, x, rs, _, W, i, p, hp, rfl, R, g, rv', pt.pl, pt.he, fun t1 H1 s1 et => ?_⟩
    refine ⟨_, rfl, c, _, _, _, rfl, rfl, SqT.of (s1 _ _ ea), at0', by show 1 ≤ sizeLine; lia, fun p2 hp2 => ?_⟩
    have s2 : Same H1 (upd H1 p2 (.tup [V.str t])) := Same.new hp2
    have e2 : (upd H1 p2 (.tup [V.str t])) p2 = some (.tup [V.str t]) := upd_same
    generalize (upd H1 p2 (.tup [V.str t])) = H2 at s2 e2 ⊢
    refine catA_any (s2 _ _ (s1 _ _ et)) e2 (by rw [hlm]; show _ + 1 ≤ _; lia) fun p3 H3 s3 e3 => ?_
    have s13 := (s1.trans s2).trans s3
    refine ⟨_, rfl, _, rfl, c, _, _, _, rfl, rfl, SqT.of (s13 _ _ ea), at1, _, rfl, _, rfl, x, rs, hb, xs, i, p, .ref p3, rfl, R.same s13, g, s13 _ _ eb, hi, by lia, pt.pl, fun t2 H4 s4 e4 => ?_⟩
    have s14 := s13.trans s4
    refine ⟨_, rfl, c, _, _, _, rfl, rfl, SqT.of (s14 _ _ ea), at2, by show 3 ≤ sizeLine; lia, fun tw htw => ?_⟩
    have s5 : Same H4 (upd H4 tw (.tup [V.non, .ref t2, .ref cl])) := Same.new htw
    refine q (.ref tw) _ (s14.trans s5) (whole upd_same .non (s5 _ _ e4) ?_ (s5 _ _ (s14 _ _ ec)) ((s14.trans s5).rds rc))
    show RdVs _ _ ((W.heaps.set i (W.heaps.getD i [] ++ [t])).map dH)
    rw [List.map_set, pt.getD]
    refine rds_set i ((s14.trans s5).rds rb) (.tup (s5 _ _ (s4 _ _ e3)) ?_)
    rw [show hp.map V.str ++ [V.str t] = (hp ++ [t]).map V.str by simp]
    exact RdVs.strs _
end
end K07
namespace K07
open PySem L2 Tx Rk PyProof.Rows PySem.SeqAt
open PySem.PyData (strOk)
section
variable {P : Program} {w : World} {K : PySem.W.Frag} {mg : Str → Option Value} {base : Heap}
theorem ok_put {f C f1 f2 : Addr} {fd d1 d2 : FuncData} (F : Fun K "put" "put" sPut f fd) (D_can_put : Df K mg "can_put" sCanPut pCanPut f1 d1) (G_can_put : FnOk P w K mg base CX0 4 f1 d1 pCanPut (spCanPut C)) (D_laid : Df K mg "laid" sLaid pLaid f2 d2) (G_laid : FnOk P w K mg base CX0 3 f2 d2 pLaid (spLaid C)) : FnOk P w K mg base CX0 5 f fd pPut (spDeedN C putF) := by
  refine F.ok scPut (fun vs H Q E h => ?_) (fun cdv A outer s H vs Q E hr4 h => ?_)
  · obtain ⟨x, rs, v, W, i, p, hp, l, rfl, _⟩ := h
    rfl
  · obtain ⟨x, rs, v, W, i, p, hp, l, rfl, R, g, rv, pt, fh, q⟩ := h
    have hr3 : Room 3 _ := hr4.mono (by decide)
    have hsl : sizeLine = 16777216 := sizeLine_eq
    have none' : putF W i hp l = [] → ∀ H' : Hp, Same H H' → ∀ l' : Addr, H' l' = none → Q (.ref l') (upd H' l' (.lst [])) := fun e H' s' l' hl' => q l' [] _ (s'.trans (Same.new hl')) (s'.free hl') upd_same (by rw [e]; exact .nil)
    refine ⟨_, (pss_one (ps_ret (pe_ifExp (pt_val (pe_call G_can_put hr4 (by rfl) D_can_put.m D_can_put.F.kp D_can_put.b .nil pass0 (pa_cons (pv 0) (pa_cons (pv 1) (pa_cons (pv 2) pa_nil))))) (pe_lst (pa_cons (pe_call G_laid hr3 (by rfl) D_laid.m D_laid.F.kp D_laid.b .nil pass0 (pa_cons (pv 0) (pa_cons (pv 1) (pa_cons (pv 2) pa_nil)))) pa_nil)) (pe_lst pa_nil)))), ?_⟩
    refine ⟨_, rfl, _, rfl, _, rfl, x, rs, v, W, i, p, l, rfl, R, g, rv, pt.pl, pt.li, fun H1 s1 => ⟨_, rfl, ?_⟩⟩
    cases hh : W.hand with
    | none => exact iteF ⟨Nat.zero_le _, none' (by unfold putF; rw [hh]) H1 s1⟩
    | some t =>
      by_cases hl : l = "open"
      · rw [decide_eq_true hl]
        refine iteT ?_
        refine ⟨_, rfl, _, rfl, _, rfl, x, rs, v, W, i, p, hp, l, t, rfl, R.same s1, g, s1.rd rv, pt, hh, fun v' H2 s2 rd => ⟨by show 1 ≤ sizeLine; lia, fun lw hlw => ?_⟩⟩
        refine q lw [v'] _ ((s1.trans s2).trans (Same.new hlw)) ((s1.trans s2).free hlw) upd_same ?_
        unfold putF
        rw [hh]
        dsimp only
        rw [if_pos hl]
        exact .cons ((Same.new hlw).rd rd) .nil
      · rw [decide_eq_false hl]
        refine iteF ⟨Nat.zero_le _, none' ?_ H1 s1⟩
        unfold putF
        rw [hh]
        dsimp only
        rw [if_neg hl]
end
end K07
namespace K07
open PySem L2 Tx Rk PyProof.Rows PySem.SeqAt
open PySem.PyData (strOk)
section
variable {P : Program} {w : World} {K : PySem.W.Frag} {mg : Str → Option Value} {base : Heap}
theorem ok_toss {f C f1 f2 f_places : Addr} {fd d1 d2 d_places : FuncData} (F : Fun K "toss" "toss" sToss f fd) (L : Cl K C) (b_places : Binds K d_places ["self"] []) (m_places : Meth K C "places" f_places) (G_places : FnOk P w K mg base CX0 1 f_places d_places ["self"] (spPlaces C)) (D_can_put : Df K mg "can_put" sCanPut pCanPut f1 d1) (G_can_put : FnOk P w K mg base CX0 4 f1 d1 pCanPut (spCanPut C)) (D_laid : Df K mg "laid" sLaid pLaid f2 d2) (G_laid : FnOk P w K mg base CX0 3 f2 d2 pLaid (spLaid C)) : FnOk P w K mg base CX0 5 f fd pToss (spDeedN C tossF) := by
  refine F.ok scToss (fun vs H Q E h => ?_) (fun cdv A outer s H vs Q E hr4 h => ?_)
  · obtain ⟨x, rs, v, W, i, p, hp, l, rfl, _⟩ := h
    rfl
  · obtain ⟨x, rs, v, W, i, p, hp, l, rfl, R, g, rv, pt, fh, q⟩ := h
    have hr1 : Room 1 _ := hr4.mono (by decide)
    have hr3 : Room 3 _ := hr4.mono (by decide)
    have hsl : sizeLine = 16777216 := sizeLine_eq
    obtain ⟨dx, d1, d2, o, kvs, h1, h2, h3, h4⟩ := R.ex
    have none' : tossF W i hp l = [] → ∀ H' : Hp, Same H H' → ∀ l' : Addr, H' l' = none → Q (.ref l') (upd H' l' (.lst [])) := fun e H' s' l' hl' => q l' [] _ (s'.trans (Same.new hl')) (s'.free hl') upd_same (by rw [e]; exact .nil)
    refine ⟨_, (pss_cons (ps_if (pt_not (pt_val (pe_call G_can_put hr4 (by rfl) D_can_put.m D_can_put.F.kp D_can_put.b .nil pass0 (pa_cons (pv 0) (pa_cons (pv 1) (pa_cons (pv 2) pa_nil)))))) (pss_one (ps_ret (pe_lst pa_nil))) pss_nil)
      (pss_cons (ps_set (i := 3) scToss.nd rfl (Or.inl rfl) (pe_ix ix_list (pe_meth0 (pv 0) L.cl m_places G_places hr1 b_places .nil pass0) pe_int (fun _ _ => rfl)))
      (pss_cons (ps_set (i := 4) scToss.nd rfl (Or.inl rfl) (pe_ifExp (pt_cmpR op_eq (pv 2) (pv 3) (nomark _)) (pe_lst (pa_cons (pv 2) pa_nil)) (pe_lst (pa_cons (pv 2) (pa_cons (pv 3) pa_nil)))))
      (pss_one (ps_ret (pe_lc (N := ["end", "room", "world"]) (sc := defScope sToss) (own := ["end"]) (fr := ["room", "world"]) (js := [0, 1]) ⟨rfl, rfl, rfl, rfl, by decide +kernel, by decide +kernel, by decide +kernel, rfl, by decide +kernel⟩ rfl (pi_list (pv 4)) (fun _ _ _ _ => pg_name (i := 0) (show List.Nodup (["end", "room", "world"] : List Str) by decide +kernel) rfl (Or.inl rfl)) (fun _ _ _ _ => pif_nil) (fun _ _ _ _ => (pe_call G_laid hr3 (by rfl) D_laid.m D_laid.F.kp D_laid.b .nil pass0 (pa_cons (pv 1) (pa_cons (pv 2) (pa_cons (pv 0) pa_nil))))))))))), ?_⟩
    refine ⟨_, rfl, _, rfl, _, rfl, x, rs, v, W, i, p, l, rfl, R, g, rv, pt.pl, pt.li, fun H1 s1 => ⟨_, rfl, ?_⟩⟩
    cases hh : W.hand with
    | none => exact iteT ⟨Nat.zero_le _, none' (by unfold tossF; rw [hh]) H1 s1⟩
    | some t =>
      by_cases hl : l = "open"
      · rw [decide_eq_true hl]
        refine iteF ?_
        have hip := (List.getElem?_eq_some_iff.mp pt.pl).1
        have hih := (List.getElem?_eq_some_iff.mp pt.he).1
        have hil := (List.getElem?_eq_some_iff.mp pt.li).1
        obtain ⟨p0, hp0⟩ : ∃ p0, (plc rs)[0]? = some p0 := ⟨_, List.getElem?_eq_getElem (by lia)⟩
        have e0 : (((plc rs).map (·.1)).map V.str)[0]? = some (.str p0.1) := by rw [List.getElem?_map, List.getElem?_map, hp0]; rfl
        obtain ⟨h0, l0, pt0⟩ := pt.at' fh hp0 (by lia) (by lia)
        refine ⟨_, rfl, x, dx, _, rfl, s1 _ _ h1, rf_no d1 d2 (by decide +kernel) (by decide +kernel), x, rs, rfl, R.same s1, fun lp H2 s2 f2 e2 => ?_⟩
        have s12 := s1.trans s2
        refine ⟨lp, _, _, _, rfl, rfl, SqL.of e2, atI_nat e0, ?_⟩
        dsimp only
        refine seq_g0 (fun σ' H' => ∃ (le : Addr) (es : List Plc), σ' = [some (.ref x), some v, some (.str p.1), some (.str p0.1), some (.ref le)] ∧ Same H2 H' ∧ H' le = some (.lst ((es.map (·.1)).map V.str)) ∧ es.length = (tossJ i).length ∧ ∀ (k : Nat) j pk, (tossJ i)[k]? = some j → es[k]? = some pk → ∃ hk lk, Pt rs W j pk hk lk) ?_ (fun N hN => ?_)
        rotate_left
        · refine ⟨_, rfl, _, rfl, rfl, _, rfl, ?_⟩
          by_cases hpp : p.1 = p0.1
          · refine iteS hpp ?_
            have hi0 : i = 0 := pl_inj g pt.pl hp0 hpp
            refine ⟨_, rfl, by show 1 ≤ sizeLine; lia, fun le hle => hN _ _ ⟨le, [p], rfl, Same.new hle, upd_same, ?_, fun k j pk hk hpk => ?_⟩⟩
            · unfold tossJ
              rw [if_pos hi0]
              rfl
            · unfold tossJ at hk
              rw [if_pos hi0] at hk
              have hk0 : k = 0 := by
                have := (List.getElem?_eq_some_iff.mp hpk).1
                simp at this
                lia
              subst hk0
              cases hk
              cases hpk
              rw [← hi0]
              exact ⟨hp, l, pt⟩
          · refine iteN hpp ?_
            have hi0 : i ≠ 0 := fun z => hpp (by
              have e9 := pt.pl
              rw [z, hp0] at e9
              exact congrArg (·.1) (Option.some.inj e9).symm)
            refine ⟨_, rfl, _, rfl, by show 2 ≤ sizeLine; lia, fun le hle => hN _ _ ⟨le, [p, p0], rfl, Same.new hle, upd_same, ?_, fun k j pk hk hpk => ?_⟩⟩
            · unfold tossJ
              rw [if_neg hi0]
              rfl
            · unfold tossJ at hk
              rw [if_neg hi0] at hk
              have hk2 := (List.getElem?_eq_some_iff.mp hpk).1
              simp at hk2
              rcases (by lia : k = 0 ∨ k = 1) with e | e
              · subst e
                cases hk
                cases hpk
                exact ⟨hp, l, pt⟩
              · subst e
                cases hk
                cases hpk
                exact ⟨h0, l0, pt0⟩
        rintro _ H3 ⟨le, es, rfl, s3, e3, hel, hall⟩
        have s13 := s12.trans s3
        have hj2 : (tossJ i).length ≤ 2 := by
          unfold tossJ
          split <;> simp
        have hem : ((es.map (·.1)).map V.str).length = (tossJ i).length := by rw [List.length_map, List.length_map, hel]
        refine ⟨_, rfl, le, rfl, ⟨_, SqL.of e3⟩, fun D hD => ?_⟩
        refine lcJ (n := (tossJ i).length) (fun k ys H4 => RdVs H4 ys (((tossJ i).take k).map fun j => dW (layF t W j)) ∧ ys.length = k ∧ Same H3 H4 ∧ H4 D = some (.lst ys)) ⟨.nil, rfl, Same.new hD, upd_same⟩
          (fun k ys H4 hk ⟨_, _, s4, _⟩ => ⟨_, ((es.map (·.1)).map V.str)[k]'(by lia), SqL.of (s4 _ _ e3), List.getElem?_eq_getElem (by lia)⟩) (fun ys H4 hh0 => by obtain ⟨_, _, s4, _⟩ := hh0; exact ⟨_, SqL.of (s4 _ _ e3), by lia⟩) ?_ ?_
        · rintro k ys H4o y H4 hk ⟨hrd, hyl, s4, e4⟩ ⟨rfl, hx⟩
          have hx1 := hx _ (SqL.of (s4 _ _ e3))
          have hke : k < es.length := by lia
          have hx2 : y = .str es[k].1 := by
            rw [List.getElem?_map, List.getElem?_map, List.getElem?_eq_getElem hke] at hx1
            exact (Option.some.inj hx1).symm
          subst hx2
          obtain ⟨hk', lk', ptk⟩ := hall k (tossJ i)[k] es[k] (List.getElem?_eq_getElem hk) (List.getElem?_eq_getElem hke)
          refine lc_yes ?_
          have s14 := s13.trans s4
          refine ⟨_, rfl, _, rfl, _, rfl, x, rs, v, W, (tossJ i)[k], es[k], hk', lk', t, rfl, R.same s14, g, s14.rd rv, ptk, hh, fun v' H6 s6 r6 => ?_⟩
          refine ⟨_, s6 _ _ e4, by lia, ?_, by simp [hyl], (s4.trans s6).put hD, upd_same⟩
          rw [List.take_succ_eq_append_getElem hk, List.map_append]
          have kp : ∀ b us, H6 b = some (.tup us) → (upd H6 D (.lst (ys ++ [v']))) b = some (.tup us) := fun b us e => by
            rw [upd_ne (ne_of e (s6 _ _ e4) (by intro z; cases z))]
            exact e
          exact ((s6.rds hrd).same kp).append (.cons (r6.same kp) .nil)
        · rintro ys H4 ⟨hrd, hyl, s4, e4⟩
          rw [List.take_length] at hrd
          refine q D ys H4 (s13.trans s4) (s13.free hD) e4 ?_
          unfold tossF
          rw [hh]
          dsimp only
          rw [if_pos hl, List.map_map]
          exact hrd
      · rw [decide_eq_false hl]
        refine iteT ⟨Nat.zero_le _, none' ?_ H1 s1⟩
        unfold tossF
        rw [hh]
        dsimp only
        rw [if_neg hl]
end
end K07
namespace K07
open PySem L2 Tx Rk PyProof.Rows PySem.SeqAt
open PySem.PyData (strOk)
section
variable {P : Program} {w : World} {K : PySem.W.Frag} {mg : Str → Option Value} {base : Heap}
theorem ok_take {f C f1 f2 f3 f4 : Addr} {fd d1 d2 d3 d4 : FuncData} (F : Fun K "take" "take" sTake f fd) (T : Bl mg) (D_heap_in : Df K mg "heap_in" sHeapIn pHeapIn f1 d1) (D_is_free : Df K mg "is_free" sIsFree pIsFree f2 d2) (D_is_open : Df K mg "is_open" sIsOpen pIsOpen f3 d3) (D_changed : Df K mg "changed" sChanged pChanged f4 d4)
    (G_heap_in : FnOk P w K mg base CX0 2 f1 d1 pHeapIn (spHeapIn C)) (G_is_free : FnOk P w K mg base CX0 1 f2 d2 pIsFree spIsFree) (G_is_open : FnOk P w K mg base CX0 3 f3 d3 pIsOpen (spIsOpen C)) (G_changed : FnOk P w K mg base CX0 2 f4 d4 pChanged (spChanged C)) : FnOk P w K mg base CX0 4 f fd pTake (spDeedN C takeF) := by
  refine F.ok scTake (fun vs H Q E h => ?_) (fun cdv A outer s H vs Q E hr3 h => ?_)
  · obtain ⟨x, rs, v, W, i, p, hp, l, rfl, _⟩ := h
    rfl
  · obtain ⟨x, rs, v, W, i, p, hp, l, rfl, R, g, rv, pt, fh, q⟩ := h
    have hr1 : Room 1 _ := hr3.mono (by decide)
    have hr2 : Room 2 _ := hr3.mono (by decide)
    have hsl : sizeLine = 16777216 := sizeLine_eq
    have hlen := pt.len
    have none' : takeF W i hp l = [] → ∀ H' : Hp, Same H H' → ∀ l' : Addr, H' l' = none → Q (.ref l') (upd H' l' (.lst [])) := fun e H' s' l' hl' => q l' [] _ (s'.trans (Same.new hl')) (s'.free hl') upd_same (by rw [e]; exact .nil)
    refine ⟨_, (pss_cons (ps_set (i := 3) scTake.nd rfl (Or.inl rfl) (pe_call G_heap_in hr2 (by rfl) D_heap_in.m D_heap_in.F.kp D_heap_in.b .nil pass0 (pa_cons (pv 0) (pa_cons (pv 1) (pa_cons (pv 2) pa_nil)))))
      (pss_cons (ps_if (PW.pt (pw_or (pt_not (pt_val (pe_call G_is_free hr1 (by rfl) D_is_free.m D_is_free.F.kp D_is_free.b .nil pass0 (pa_cons (pv 1) pa_nil)))) (pw_or (pt_not (pt_val (pe_call G_is_open hr3 (by rfl) D_is_open.m D_is_open.F.kp D_is_open.b .nil pass0 (pa_cons (pv 0) (pa_cons (pv 1) (pa_cons (pv 2) pa_nil)))))) (pw_or1 (pt_cmpR op_eq (pe_callB call_len (by rfl) T.len PySem.boot_len (pa_cons (pv 3) pa_nil)) pe_int (nomark _)))))) (pss_one (ps_ret (pe_lst pa_nil))) pss_nil)
      (pss_one (ps_ret (pe_lst (pa_cons (pe_tup (pa_cons (pe_ix ix_tup (pv 3) (pe_un un_neg pe_int) (fun _ _ => rfl)) (pa_cons (pe_call G_changed hr2 (by rfl) D_changed.m D_changed.F.kp D_changed.b .nil pass0 (pa_cons (pv 0) (pa_cons (pe_ix ix_tup (pv 1) pe_int (fun _ _ => rfl)) (pa_cons (pv 2) (pa_cons (pe_slice sl_tup (pv 3) po_none (po_some (pe_un un_neg pe_int))) pa_nil))))) (pa_cons (pe_ix ix_tup (pv 1) pe_int (fun _ _ => rfl)) pa_nil)))) pa_nil)))))), ?_⟩
    refine ⟨_, rfl, _, rfl, _, rfl, x, rs, v, W, i, p, hp, rfl, R, g, rv, pt.pl, pt.he, fun t H1 s1 et => ?_⟩
    refine ⟨_, rfl, v, W, rfl, s1.rd rv, _, rfl, ?_⟩
    cases hh : W.hand with
    | some tt =>
      refine iteT (iteT ?_)
      exact ⟨Nat.zero_le _, none' (by unfold takeF; rw [if_neg (fun z => by rw [hh] at z; cases z.1)]) H1 s1⟩
    | none =>
      refine iteF ?_
      refine ⟨_, rfl, _, rfl, _, rfl, x, rs, v, W, i, p, l, rfl, R.same s1, g, s1.rd rv, pt.pl, pt.li, fun H2 s2 => ⟨_, rfl, ?_⟩⟩
      have s12 := s1.trans s2
      by_cases hl : l = "open"
      · rw [decide_eq_true hl]
        refine iteF ?_
        have et2 := s12 _ _ et
        refine ⟨_, rfl, _, _, rfl, .inr ⟨_, SqT.of et2, rfl⟩, rfl, _, rfl, ?_⟩
        cases hl0 : hp.getLast? with
        | none =>
          have hn : hp = [] := List.getLast?_eq_none_iff.mp hl0
          subst hn
          refine iteT ?_
          exact ⟨Nat.zero_le _, none' (by unfold takeF; rw [if_neg (fun z => z.2.2 rfl)]) H2 s12⟩
        | some y =>
          have hne : hp ≠ [] := fun e => by rw [e] at hl0; cases hl0
          have hpos := List.length_pos_iff.mpr hne
          have hlm : (hp.map V.str).length = hp.length := List.length_map ..
          refine ite2 (fun z => ?_) (fun _ => ?_)
          · exfalso
            have := V.int.inj (of_decide_eq_true z)
            lia
          obtain ⟨c, v0, hb, cl, xs, ys, rfl, ea, r0, eb, rb, ec, rc⟩ := parts rv
          have hlb := rb.length
          rw [List.length_map] at hlb
          have hif := pt.few
          have hi : i < xs.length := by
            have := (List.getElem?_eq_some_iff.mp pt.he).1
            lia
          have at1 : atI [v0, V.ref hb, V.ref cl] ((1 : Nat) : Int) = some (.ref hb) := atI_nat rfl
          have at2 : atI [v0, V.ref hb, V.ref cl] ((2 : Nat) : Int) = some (.ref cl) := atI_nat rfl
          have cut : cutV (hp.map V.str) none (some (-1)) = (hp.dropLast).map V.str := by
            unfold cutV
            rw [HT.sIx_none, List.drop_zero, Nat.sub_zero, sIx_m1, hlm, ← List.map_take, List.dropLast_eq_take]
          refine ⟨_, rfl, _, rfl, t, _, _, _, rfl, rfl, SqT.of et2, at_last (by rw [List.getLast?_map, hl0]; rfl), ?_⟩
          refine ⟨_, rfl, _, rfl, c, _, _, _, rfl, rfl, SqT.of (s12 _ _ ea), at1, _, rfl, _, rfl, _, rfl, ?_⟩
          refine ⟨_, rfl, t, _, rfl, SqT.of et2, ?_, fun p1 hp1 => ?_⟩
          · rw [HT.sIx_none, sIx_m1]
            lia
          rw [cut]
          have s3 : Same H2 (upd H2 p1 (.tup ((hp.dropLast).map V.str))) := Same.new hp1
          have e3 : (upd H2 p1 (.tup ((hp.dropLast).map V.str))) p1 = some (.tup ((hp.dropLast).map V.str)) := upd_same
          generalize (upd H2 p1 (.tup ((hp.dropLast).map V.str))) = H3 at s3 e3 ⊢
          have s13 := s12.trans s3
          refine ⟨x, rs, hb, xs, i, p, .ref p1, rfl, R.same s13, g, s13 _ _ eb, hi, by lia, pt.pl, fun t2 H4 s4 e4 => ?_⟩
          have s14 := s13.trans s4
          refine ⟨_, rfl, c, _, _, _, rfl, rfl, SqT.of (s14 _ _ ea), at2, by show 3 ≤ sizeLine; lia, fun tw htw => ⟨by show 1 ≤ sizeLine; lia, fun lw hlw => ?_⟩⟩
          have s5 : Same H4 (upd H4 tw (.tup [V.str y, .ref t2, .ref cl])) := Same.new htw
          have s6 : Same (upd H4 tw (.tup [V.str y, .ref t2, .ref cl])) (upd (upd H4 tw (.tup [V.str y, .ref t2, .ref cl])) lw (.lst [V.ref tw])) := Same.new hlw
          have s46 := s5.trans s6
          refine q lw [.ref tw] _ (s14.trans s46) ((s14.trans s5).free hlw) upd_same ?_
          unfold takeF
          rw [if_pos ⟨hh, hl, hne⟩, hl0]
          refine .cons (whole (s6 _ _ upd_same) (.str y) (s46 _ _ e4) ?_ (s46 _ _ (s14 _ _ ec)) ((s14.trans s46).rds rc)) .nil
          rw [List.map_set]
          exact rds_set i ((s14.trans s46).rds rb) (.tup (s46 _ _ (s4 _ _ e3)) (RdVs.strs _))
      · rw [decide_eq_false hl]
        refine iteT (iteT ?_)
        exact ⟨Nat.zero_le _, none' (by unfold takeF; rw [if_neg (fun z => hl z.2.1)]) H2 s12⟩
end
end K07
namespace K07
open PySem L2 Tx Rk PyProof.Rows PySem.SeqAt
open PySem.PyData (strOk)
section
variable {P : Program} {w : World} {K : PySem.W.Frag} {mg : Str → Option Value} {base : Heap}
theorem ok_shake {f C f1 f2 f3 f4 : Addr} {fd d1 d2 d3 d4 : FuncData} (F : Fun K "shake" "shake" sShake f fd) (T : Bl mg) (D_heap_in : Df K mg "heap_in" sHeapIn pHeapIn f1 d1) (D_is_free : Df K mg "is_free" sIsFree pIsFree f2 d2) (D_is_open : Df K mg "is_open" sIsOpen pIsOpen f3 d3) (D_changed : Df K mg "changed" sChanged pChanged f4 d4)
    (G_heap_in : FnOk P w K mg base CX0 2 f1 d1 pHeapIn (spHeapIn C)) (G_is_free : FnOk P w K mg base CX0 1 f2 d2 pIsFree spIsFree) (G_is_open : FnOk P w K mg base CX0 3 f3 d3 pIsOpen (spIsOpen C)) (G_changed : FnOk P w K mg base CX0 2 f4 d4 pChanged (spChanged C)) : FnOk P w K mg base CX0 4 f fd pShake (spDeedN C shakeF) := by
  refine F.ok scShake (fun vs H Q E h => ?_) (fun cdv A outer s H vs Q E hr3 h => ?_)
  · obtain ⟨x, rs, v, W, i, p, hp, l, rfl, _⟩ := h
    rfl
  · obtain ⟨x, rs, v, W, i, p, hp, l, rfl, R, g, rv, pt, fh, q⟩ := h
    have hr1 : Room 1 _ := hr3.mono (by decide)
    have hr2 : Room 2 _ := hr3.mono (by decide)
    have hsl : sizeLine = 16777216 := sizeLine_eq
    have hlen := pt.len
    have hif := pt.few
    have rv' := rv
    have hlm : (hp.map V.str).length = hp.length := List.length_map ..
    have none' : shakeF W i hp l = [] → ∀ H' : Hp, Same H H' → ∀ l' : Addr, H' l' = none → Q (.ref l') (upd H' l' (.lst [])) := fun e H' s' l' hl' => q l' [] _ (s'.trans (Same.new hl')) (s'.free hl') upd_same (by rw [e]; exact .nil)
    refine ⟨_, (pss_cons (ps_set (i := 3) scShake.nd rfl (Or.inl rfl) (pe_call G_heap_in hr2 (by rfl) D_heap_in.m D_heap_in.F.kp D_heap_in.b .nil pass0 (pa_cons (pv 0) (pa_cons (pv 1) (pa_cons (pv 2) pa_nil)))))
      (pss_cons (ps_if (PW.pt (pw_or (pt_not (pt_val (pe_call G_is_free hr1 (by rfl) D_is_free.m D_is_free.F.kp D_is_free.b .nil pass0 (pa_cons (pv 1) pa_nil)))) (pw_or (pt_val (pe_call G_is_open hr3 (by rfl) D_is_open.m D_is_open.F.kp D_is_open.b .nil pass0 (pa_cons (pv 0) (pa_cons (pv 1) (pa_cons (pv 2) pa_nil))))) (pw_or1 (pt_cmpR op_lt (pe_callB call_len (by rfl) T.len PySem.boot_len (pa_cons (pv 3) pa_nil)) pe_int (nomark _)))))) (pss_one (ps_ret (pe_lst pa_nil))) pss_nil)
      (pss_cons (ps_set (i := 4) scShake.nd rfl (Or.inl rfl) (pe_op op_catA (pe_slice sl_tup (pv 3) po_none (po_some (pe_un un_neg pe_int))) (pe_tup (pa_cons (pe_ix ix_tup (pv 3) (pe_un un_neg pe_int) (fun _ _ => rfl)) (pa_cons (pe_ix ix_tup (pv 3) (pe_un un_neg pe_int) (fun _ _ => rfl)) pa_nil)))))
      (pss_one (ps_ret (pe_lst (pa_cons (pv 1) (pa_cons (pe_tup (pa_cons pe_non (pa_cons (pe_call G_changed hr2 (by rfl) D_changed.m D_changed.F.kp D_changed.b .nil pass0 (pa_cons (pv 0) (pa_cons (pe_ix ix_tup (pv 1) pe_int (fun _ _ => rfl)) (pa_cons (pv 2) (pa_cons (pv 4) pa_nil))))) (pa_cons (pe_ix ix_tup (pv 1) pe_int (fun _ _ => rfl)) pa_nil)))) pa_nil)))))))), ?_⟩
    refine ⟨_, rfl, _, rfl, _, rfl, x, rs, v, W, i, p, hp, rfl, R, g, rv, pt.pl, pt.he, fun t H1 s1 et => ?_⟩
    refine ⟨_, rfl, v, W, rfl, s1.rd rv, _, rfl, ?_⟩
    cases hh : W.hand with
    | some tt =>
      refine iteT (iteT ?_)
      exact ⟨Nat.zero_le _, none' (by unfold shakeF; rw [if_neg (fun z => by rw [hh] at z; cases z.1)]) H1 s1⟩
    | none =>
      refine iteF ?_
      refine ⟨_, rfl, _, rfl, _, rfl, x, rs, v, W, i, p, l, rfl, R.same s1, g, s1.rd rv, pt.pl, pt.li, fun H2 s2 => ⟨_, rfl, ?_⟩⟩
      have s12 := s1.trans s2
      by_cases hl : l = "open"
      · rw [decide_eq_true hl]
        refine iteT (iteT ?_)
        exact ⟨Nat.zero_le _, none' (by unfold shakeF; rw [if_neg (fun z => z.2.1 hl)]) H2 s12⟩
      · rw [decide_eq_false hl]
        refine iteF ?_
        have et2 := s12 _ _ et
        refine ⟨_, rfl, _, _, rfl, .inr ⟨_, SqT.of et2, rfl⟩, _, _, rfl, rfl, _, rfl, ?_⟩
        refine ite2 (fun z => ?_) (fun z => ?_)
        · have z' := of_decide_eq_true z
          exact ⟨Nat.zero_le _, none' (by unfold shakeF; rw [if_neg (fun y => by lia)]) H2 s12⟩
        have h2 : 2 ≤ hp.length := by
          have := of_decide_eq_false (Bool.eq_false_iff.mpr z)
          lia
        obtain ⟨r, b, a, hr⟩ := two_last h2
        subst hr
        obtain ⟨c, v0, hb, cl, xs, ys, rfl, ea, r0, eb, rb, ec, rc⟩ := parts rv
        have hlb := rb.length
        rw [List.length_map] at hlb
        have hi : i < xs.length := by
          have := (List.getElem?_eq_some_iff.mp pt.he).1
          lia
        have at1 : atI [v0, V.ref hb, V.ref cl] ((1 : Nat) : Int) = some (.ref hb) := atI_nat rfl
        have at2 : atI [v0, V.ref hb, V.ref cl] ((2 : Nat) : Int) = some (.ref cl) := atI_nat rfl
        have em : (r ++ [b, a]).map V.str = r.map V.str ++ [V.str b, V.str a] := by simp
        have em' : (r ++ [b, a]).map V.str = (r.map V.str ++ [V.str b]) ++ [V.str a] := by simp
        have cut : cutV ((r ++ [b, a]).map V.str) none (some (-2)) = r.map V.str := by
          unfold cutV
          rw [HT.sIx_none, List.drop_zero, Nat.sub_zero, sIx_m2, em]
          have e : (r.map V.str ++ [V.str b, V.str a]).length - 2 = (r.map V.str).length := by simp
          rw [e, List.take_left]
        have hrl : (r ++ [b, a]).length = r.length + 2 := by simp
        refine ⟨_, rfl, _, rfl, _, rfl, t, _, rfl, SqT.of et2, ?_, fun p1 hp1 => ?_⟩
        · rw [HT.sIx_none, sIx_m2]
          lia
        rw [cut]
        have s3 : Same H2 (upd H2 p1 (.tup (r.map V.str))) := Same.new hp1
        have e3 : (upd H2 p1 (.tup (r.map V.str))) p1 = some (.tup (r.map V.str)) := upd_same
        generalize (upd H2 p1 (.tup (r.map V.str))) = H3 at s3 e3 ⊢
        have et3 := s3 _ _ et2
        have am1 : atI ((r ++ [b, a]).map V.str) (-1) = some (.str a) := by rw [em']; exact atI_last _ _
        have am2 : atI ((r ++ [b, a]).map V.str) (-2) = some (.str b) := by rw [em]; exact atI_two _ _ _
        refine ⟨_, rfl, _, rfl, t, _, _, _, rfl, rfl, SqT.of et3, am1, _, rfl, _, rfl, t, _, _, _, rfl, rfl, SqT.of et3, am2, by show 2 ≤ sizeLine; lia, fun p2 hp2 => ?_⟩
        have s4 : Same H3 (upd H3 p2 (.tup [V.str a, V.str b])) := Same.new hp2
        have e4 : (upd H3 p2 (.tup [V.str a, V.str b])) p2 = some (.tup [V.str a, V.str b]) := upd_same
        generalize (upd H3 p2 (.tup [V.str a, V.str b])) = H4 at s4 e4 ⊢
        refine catA_any (s4 _ _ e3) e4 (by rw [List.length_map]; show _ + 2 ≤ _; lia) fun p3 H5 s5 e5 => ?_
        have s15 := s12.trans (s3.trans (s4.trans s5))
        refine ⟨_, rfl, _, rfl, _, rfl, c, _, _, _, rfl, rfl, SqT.of (s15 _ _ ea), at1, _, rfl, _, rfl, x, rs, hb, xs, i, p, .ref p3, rfl, R.same s15, g, s15 _ _ eb, hi, by lia, pt.pl, fun t2 H6 s6 e6 => ?_⟩
        have s16 := s15.trans s6
        refine ⟨_, rfl, c, _, _, _, rfl, rfl, SqT.of (s16 _ _ ea), at2, by show 3 ≤ sizeLine; lia, fun tw htw => ⟨by show 2 ≤ sizeLine; lia, fun lw hlw => ?_⟩⟩
        have s7 : Same H6 (upd H6 tw (.tup [V.non, .ref t2, .ref cl])) := Same.new htw
        have s8 : Same (upd H6 tw (.tup [V.non, .ref t2, .ref cl])) (upd (upd H6 tw (.tup [V.non, .ref t2, .ref cl])) lw (.lst [V.ref c, V.ref tw])) := Same.new hlw
        have s78 := s7.trans s8
        have sA := s16.trans s78
        refine q lw [.ref c, .ref tw] _ sA ((s16.trans s7).free hlw) upd_same ?_
        unfold shakeF
        rw [if_pos ⟨hh, hl, h2⟩, sw_two]
        refine .cons (sA.rd rv') (.cons (whole (s8 _ _ upd_same) .non (s78 _ _ e6) ?_ (s78 _ _ (s16 _ _ ec)) (sA.rds rc)) .nil)
        show RdVs _ _ ((W.heaps.set i (r ++ [a, b])).map dH)
        rw [List.map_set]
        refine rds_set i (sA.rds rb) (.tup (s78 _ _ (s6 _ _ e5)) ?_)
        rw [show r.map V.str ++ [V.str a, V.str b] = (r ++ [a, b]).map V.str by simp]
        exact RdVs.strs _
end
end K07
namespace K07
open PySem L2 Tx Rk PyProof.Rows PySem.SeqAt
open PySem.PyData (strOk)
section
variable {P : Program} {w : World} {K : PySem.W.Frag} {mg : Str → Option Value} {base : Heap}
theorem ok_tip {f C f1 f2 f3 f4 : Addr} {fd d1 d2 d3 d4 : FuncData} (F : Fun K "tip" "tip" sTip f fd) (T : Bl mg) (D_heap_in : Df K mg "heap_in" sHeapIn pHeapIn f1 d1) (D_is_free : Df K mg "is_free" sIsFree pIsFree f2 d2) (D_is_open : Df K mg "is_open" sIsOpen pIsOpen f3 d3) (D_changed : Df K mg "changed" sChanged pChanged f4 d4)
    (G_heap_in : FnOk P w K mg base CX0 2 f1 d1 pHeapIn (spHeapIn C)) (G_is_free : FnOk P w K mg base CX0 1 f2 d2 pIsFree spIsFree) (G_is_open : FnOk P w K mg base CX0 3 f3 d3 pIsOpen (spIsOpen C)) (G_changed : FnOk P w K mg base CX0 2 f4 d4 pChanged (spChanged C)) : FnOk P w K mg base CX0 4 f fd pTip (spTip C) := by
  refine F.ok scTip (fun vs H Q E h => ?_) (fun cdv A outer s H vs Q E hr3 h => ?_)
  · obtain ⟨x, rs, v, W, i, p, hp, l, j, pj, hq, lq, rfl, _⟩ := h
    rfl
  · obtain ⟨x, rs, v, W, i, p, hp, l, j, pj, hq, lq, rfl, R, g, rv, pt, pq, q⟩ := h
    have hr1 : Room 1 _ := hr3.mono (by decide)
    have hr2 : Room 2 _ := hr3.mono (by decide)
    have hsl : sizeLine = 16777216 := sizeLine_eq
    have hlen := pt.len
    have hlenq := pq.len
    have hif := pt.few
    have rv' := rv
    have hlm : (hp.map V.str).length = hp.length := List.length_map ..
    have none' : tipF W i hp l j hq lq = [] → ∀ H' : Hp, Same H H' → ∀ l' : Addr, H' l' = none → Q (.ref l') (upd H' l' (.lst [])) := fun e H' s' l' hl' => q l' [] _ (s'.trans (Same.new hl')) (s'.free hl') upd_same (by rw [e]; exact .nil)
    refine ⟨_, (pss_cons (ps_set (i := 4) scTip.nd rfl (Or.inl rfl) (pe_call G_heap_in hr2 (by rfl) D_heap_in.m D_heap_in.F.kp D_heap_in.b .nil pass0 (pa_cons (pv 0) (pa_cons (pv 1) (pa_cons (pv 2) pa_nil)))))
      (pss_cons (ps_if (PW.pt (pw_or (pt_not (pt_val (pe_call G_is_free hr1 (by rfl) D_is_free.m D_is_free.F.kp D_is_free.b .nil pass0 (pa_cons (pv 1) pa_nil)))) (pw_or (pt_not (pt_val (pe_call G_is_open hr3 (by rfl) D_is_open.m D_is_open.F.kp D_is_open.b .nil pass0 (pa_cons (pv 0) (pa_cons (pv 1) (pa_cons (pv 2) pa_nil)))))) (pw_or (pt_not (pt_val (pe_call G_is_open hr3 (by rfl) D_is_open.m D_is_open.F.kp D_is_open.b .nil pass0 (pa_cons (pv 0) (pa_cons (pv 1) (pa_cons (pv 3) pa_nil)))))) (pw_or1 (pt_cmpR op_eq (pe_callB call_len (by rfl) T.len PySem.boot_len (pa_cons (pv 4) pa_nil)) pe_int (nomark _))))))) (pss_one (ps_ret (pe_lst pa_nil))) pss_nil)
      (pss_cons (ps_set (i := 5) scTip.nd rfl (Or.inl rfl) (pe_op op_catA (pe_call G_heap_in hr2 (by rfl) D_heap_in.m D_heap_in.F.kp D_heap_in.b .nil pass0 (pa_cons (pv 0) (pa_cons (pv 1) (pa_cons (pv 3) pa_nil)))) (pe_trev rfl (by rfl) T.tuple bt_tuple (by rfl) T.reversed bt_reversed (pa_cons (pv 4) pa_nil))))
      (pss_cons (ps_set (i := 6) scTip.nd rfl (Or.inl rfl) (pe_call G_changed hr2 (by rfl) D_changed.m D_changed.F.kp D_changed.b .nil pass0 (pa_cons (pv 0) (pa_cons (pe_call G_changed hr2 (by rfl) D_changed.m D_changed.F.kp D_changed.b .nil pass0 (pa_cons (pv 0) (pa_cons (pe_ix ix_tup (pv 1) pe_int (fun _ _ => rfl)) (pa_cons (pv 2) (pa_cons (pe_tup pa_nil) pa_nil))))) (pa_cons (pv 3) (pa_cons (pv 5) pa_nil))))))
      (pss_one (ps_ret (pe_lst (pa_cons (pe_tup (pa_cons pe_non (pa_cons (pv 6) (pa_cons (pe_ix ix_tup (pv 1) pe_int (fun _ _ => rfl)) pa_nil)))) pa_nil)))))))), ?_⟩
    refine ⟨_, rfl, _, rfl, _, rfl, x, rs, v, W, i, p, hp, rfl, R, g, rv, pt.pl, pt.he, fun t H1 s1 et => ?_⟩
    refine ⟨_, rfl, v, W, rfl, s1.rd rv, _, rfl, ?_⟩
    cases hh : W.hand with
    | some tt =>
      refine iteT (iteT ?_)
      exact ⟨Nat.zero_le _, none' (by unfold tipF; rw [if_neg (fun z => by rw [hh] at z; cases z.1)]) H1 s1⟩
    | none =>
      refine iteF ?_
      refine ⟨_, rfl, _, rfl, _, rfl, x, rs, v, W, i, p, l, rfl, R.same s1, g, s1.rd rv, pt.pl, pt.li, fun H2 s2 => ⟨_, rfl, ?_⟩⟩
      have s12 := s1.trans s2
      by_cases hl : l = "open"
      · rw [decide_eq_true hl]
        refine iteF ?_
        refine ⟨_, rfl, _, rfl, _, rfl, x, rs, v, W, j, pj, lq, rfl, R.same s12, g, s12.rd rv, pq.pl, pq.li, fun H3 s3 => ⟨_, rfl, ?_⟩⟩
        have s13 := s12.trans s3
        by_cases hlq : lq = "open"
        · rw [decide_eq_true hlq]
          refine iteF ?_
          have et3 := s13 _ _ et
          refine ⟨_, rfl, _, _, rfl, .inr ⟨_, SqT.of et3, rfl⟩, rfl, _, rfl, ?_⟩
          by_cases hne : hp = []
          · subst hne
            refine iteT ?_
            exact ⟨Nat.zero_le _, none' (by unfold tipF; rw [if_neg (fun z => z.2.2.2 rfl)]) H3 s13⟩
          refine ite2 (fun z => ?_) (fun _ => ?_)
          · exfalso
            have := V.int.inj (of_decide_eq_true z)
            have := List.length_pos_iff.mpr hne
            lia
          obtain ⟨c, v0, hb, cl, xs, ys, rfl, ea, r0, eb, rb, ec, rc⟩ := parts rv
          have hlb := rb.length
          rw [List.length_map] at hlb
          have hi : i < xs.length := by
            have := (List.getElem?_eq_some_iff.mp pt.he).1
            lia
          have hj : j < xs.length := by
            have := (List.getElem?_eq_some_iff.mp pq.he).1
            lia
          have at1 : atI [v0, V.ref hb, V.ref cl] ((1 : Nat) : Int) = some (.ref hb) := atI_nat rfl
          have at2 : atI [v0, V.ref hb, V.ref cl] ((2 : Nat) : Int) = some (.ref cl) := atI_nat rfl
          refine ⟨_, rfl, _, rfl, _, rfl, x, rs, _, W, j, pj, hq, rfl, R.same s13, g, s13.rd rv', pq.pl, pq.he, fun t5 H4 s4 et5 => ?_⟩
          have s14 := s13.trans s4
          refine ⟨_, rfl, t, _, rfl, SqT.of (s14 _ _ et), (fun z => hne (List.map_eq_nil_iff.mp z)), fun p1 hp1 => ?_⟩
          have s5 : Same H4 (upd H4 p1 (.tup (hp.map V.str).reverse)) := Same.new hp1
          have e5 : (upd H4 p1 (.tup (hp.map V.str).reverse)) p1 = some (.tup (hp.map V.str).reverse) := upd_same
          generalize (upd H4 p1 (.tup (hp.map V.str).reverse)) = H5 at s5 e5 ⊢
          refine catA_any (s5 _ _ (s4 _ _ et5)) e5 (by rw [List.length_reverse, List.length_map, List.length_map]; lia) fun p3 H6 s6 e6 => ?_
          have s16 := s14.trans (s5.trans s6)
          refine ⟨_, rfl, _, rfl, _, rfl, c, _, _, _, rfl, rfl, SqT.of (s16 _ _ ea), at1, _, rfl, Nat.zero_le _, fun p4 hp4 => ?_⟩
          have s7 : Same H6 (upd H6 p4 (.tup [])) := Same.new hp4
          have e7 : (upd H6 p4 (.tup [])) p4 = some (.tup []) := upd_same
          generalize (upd H6 p4 (.tup [])) = H7 at s7 e7 ⊢
          have s17 := s16.trans s7
          refine ⟨x, rs, hb, xs, i, p, .ref p4, rfl, R.same s17, g, s17 _ _ eb, hi, by lia, pt.pl, fun t6 H8 s8 e8 => ?_⟩
          have s18 := s17.trans s8
          refine ⟨_, rfl, _, rfl, x, rs, t6, _, j, pj, .ref p3, rfl, R.same s18, g, e8, by rw [List.length_set]; lia, by rw [List.length_set]; lia, pq.pl, fun t7 H9 s9 e9 => ?_⟩
          have s19 := s18.trans s9
          refine ⟨_, rfl, _, rfl, c, _, _, _, rfl, rfl, SqT.of (s19 _ _ ea), at2, by show 3 ≤ sizeLine; lia, fun tw htw => ⟨by show 1 ≤ sizeLine; lia, fun lw hlw => ?_⟩⟩
          have sB : Same H9 (upd H9 tw (.tup [V.non, .ref t7, .ref cl])) := Same.new htw
          have sC : Same (upd H9 tw (.tup [V.non, .ref t7, .ref cl])) (upd (upd H9 tw (.tup [V.non, .ref t7, .ref cl])) lw (.lst [V.ref tw])) := Same.new hlw
          have sBC := sB.trans sC
          have sA := s19.trans sBC
          refine q lw [.ref tw] _ sA ((s19.trans sB).free hlw) upd_same ?_
          unfold tipF
          rw [if_pos ⟨hh, hl, hlq, hne⟩]
          refine .cons (whole (sC _ _ upd_same) .non (sBC _ _ e9) ?_ (sBC _ _ (s19 _ _ ec)) (sA.rds rc)) .nil
          show RdVs _ _ (((W.heaps.set i []).set j (hq ++ hp.reverse)).map dH)
          rw [List.map_set, List.map_set]
          have s89 := (s8.trans s9).trans sBC
          refine rds_set j (rds_set i (sA.rds rb) (.tup (s89 _ _ e7) .nil)) (.tup (s89 _ _ (s7 _ _ e6)) ?_)
          rw [show hq.map V.str ++ (hp.map V.str).reverse = (hq ++ hp.reverse).map V.str by simp]
          exact RdVs.strs _
        · rw [decide_eq_false hlq]
          refine iteT (iteT ?_)
          exact ⟨Nat.zero_le _, none' (by unfold tipF; rw [if_neg (fun z => hlq z.2.2.1)]) H3 s13⟩
      · rw [decide_eq_false hl]
        refine iteT (iteT ?_)
        exact ⟨Nat.zero_le _, none' (by unfold tipF; rw [if_neg (fun z => hl z.2.1)]) H2 s12⟩
end
end K07
namespace K07
open PySem L2 Tx Rk PyProof.Rows PySem.SeqAt
open PySem.PyData (strOk)
section
variable {P : Program} {w : World} {K : PySem.W.Frag} {mg : Str → Option Value} {base : Heap}
theorem ok_moveT {f C f1 f2 f3 f4 : Addr} {fd d1 d2 d3 d4 : FuncData} (F : Fun K "move_things" "move_things" sMoveThings f fd) (D_take : Df K mg "take" sTake pTake f1 d1) (G_take : FnOk P w K mg base CX0 4 f1 d1 pTake (spDeedN C takeF)) (D_put : Df K mg "put" sPut pPut f2 d2) (G_put : FnOk P w K mg base CX0 5 f2 d2 pPut (spDeedN C putF)) (D_toss : Df K mg "toss" sToss pToss f3 d3) (G_toss : FnOk P w K mg base CX0 5 f3 d3 pToss (spDeedN C tossF)) (D_shake : Df K mg "shake" sShake pShake f4 d4) (G_shake : FnOk P w K mg base CX0 4 f4 d4 pShake (spDeedN C shakeF)) : FnOk P w K mg base CX0 6 f fd pMoveThings (spMoveT C) := by
  refine F.ok scMoveThings (fun vs H Q E h => ?_) (fun cdv A outer s H vs Q E hr5 h => ?_)
  · obtain ⟨x, rs, v, W, w, i, p, hp, l, rfl, _⟩ := h
    rfl
  · obtain ⟨x, rs, v, W, w, i, p, hp, l, rfl, R, g, rv, pt, fh, q⟩ := h
    have hr4 : Room 4 _ := hr5.mono (by decide)
    refine ⟨_, (pss_cons (ps_if (pt_cmpR op_eq (pv 2) pe_str (nomark _)) (pss_one (ps_ret (pe_call G_take hr4 (by rfl) D_take.m D_take.F.kp D_take.b .nil pass0 (pa_cons (pv 0) (pa_cons (pv 1) (pa_cons (pv 3) pa_nil)))))) pss_nil)
      (pss_cons (ps_if (pt_cmpR op_eq (pv 2) pe_str (nomark _)) (pss_one (ps_ret (pe_call G_put hr5 (by rfl) D_put.m D_put.F.kp D_put.b .nil pass0 (pa_cons (pv 0) (pa_cons (pv 1) (pa_cons (pv 3) pa_nil)))))) pss_nil)
      (pss_cons (ps_if (pt_cmpR op_eq (pv 2) pe_str (nomark _)) (pss_one (ps_ret (pe_call G_toss hr5 (by rfl) D_toss.m D_toss.F.kp D_toss.b .nil pass0 (pa_cons (pv 0) (pa_cons (pv 1) (pa_cons (pv 3) pa_nil)))))) pss_nil)
      (pss_one (ps_ret (pe_call G_shake hr4 (by rfl) D_shake.m D_shake.F.kp D_shake.b .nil pass0 (pa_cons (pv 0) (pa_cons (pv 1) (pa_cons (pv 3) pa_nil))))))))), ?_⟩
    unfold movF at q
    refine ⟨_, rfl, rfl, _, rfl, ?_⟩
    by_cases h1 : w = "take"
    · rw [if_pos h1] at q
      exact iteS h1 ⟨_, rfl, _, rfl, _, rfl, x, rs, v, W, i, p, hp, l, rfl, R, g, rv, pt, fh, q⟩
    rw [if_neg h1] at q
    refine iteN h1 ?_
    refine ⟨_, rfl, rfl, _, rfl, ?_⟩
    by_cases h2 : w = "put"
    · rw [if_pos h2] at q
      exact iteS h2 ⟨_, rfl, _, rfl, _, rfl, x, rs, v, W, i, p, hp, l, rfl, R, g, rv, pt, fh, q⟩
    rw [if_neg h2] at q
    refine iteN h2 ?_
    refine ⟨_, rfl, rfl, _, rfl, ?_⟩
    by_cases h3 : w = "toss"
    · rw [if_pos h3] at q
      exact iteS h3 ⟨_, rfl, _, rfl, _, rfl, x, rs, v, W, i, p, hp, l, rfl, R, g, rv, pt, fh, q⟩
    rw [if_neg h3] at q
    refine iteN h3 ?_
    exact ⟨_, rfl, _, rfl, _, rfl, x, rs, v, W, i, p, hp, l, rfl, R, g, rv, pt, fh, q⟩
end
end K07
namespace K07
open PySem L2 Tx Rk PyProof.Rows PySem.SeqAt
open PySem.PyData (strOk)
section
variable {P : Program} {w : World} {K : PySem.W.Frag} {mg : Str → Option Value} {base : Heap}
theorem ok_turnsT {f C aL t1 t2 t3 t4 f1 f2 f3 : Addr} {fd d1 d2 d3 : FuncData} (F : Fun K "turns" "turns" sTurns f fd) (DL : Dl P w K mg aL t1 t2 t3 t4) (D_read_deed : Df K mg "read_deed" sReadDeed pReadDeed f1 d1) (G_read_deed : FnOk P w K mg base CX0 2 f1 d1 pReadDeed (spReadDeedV C)) (D_tip : Df K mg "tip" sTip pTip f2 d2) (G_tip : FnOk P w K mg base CX0 4 f2 d2 pTip (spTip C)) (D_move_things : Df K mg "move_things" sMoveThings pMoveThings f3 d3) (G_move_things : FnOk P w K mg base CX0 6 f3 d3 pMoveThings (spMoveT C)) : FnOk P w K mg base CX0 7 f fd pTurns (spTurnsT C) := by
  refine F.ok scTurns (fun vs H Q E h => ?_) (fun cdv A outer s H vs Q E hr6 h => ?_)
  · obtain ⟨x, rs, v, W, line, w, i, p, hp, l, j, pj, hq, lq, rfl, _⟩ := h
    rfl
  · obtain ⟨x, rs, v, W, line, w, i, p, hp, l, j, pj, hq, lq, rfl, R, g, rv, hw, ln, pt, pq, hij, hwl, fh, q⟩ := h
    have hr2 : Room 2 _ := hr6.mono (by decide)
    have hr4 : Room 4 _ := hr6.mono (by decide)
    have hv := lids_no (t1 := t1) (t2 := t2) (t3 := t3) (t4 := t4) hwl
    refine ⟨_, (pss_cons (ps_set (i := 3) scTurns.nd rfl (Or.inl rfl) (pe_call G_read_deed hr2 (by rfl) D_read_deed.m D_read_deed.F.kp D_read_deed.b .nil pass0 (pa_cons (pv 0) (pa_cons (pv 1) pa_nil))))
      (pss_cons (ps_if (pt_cmpR op_eq (pe_ix ix_list (pv 3) pe_int (fun _ _ => rfl)) pe_str (nomark _)) (pss_one (ps_ret (pe_call G_tip hr4 (by rfl) D_tip.m D_tip.F.kp D_tip.b .nil pass0 (pa_cons (pv 0) (pa_cons (pv 2) (pa_cons (pe_ix ix_list (pv 3) pe_int (fun _ _ => rfl)) (pa_cons (pe_ix ix_list (pv 3) pe_int (fun _ _ => rfl)) pa_nil))))))) pss_nil)
      (pss_cons (ps_if (pt_cmp (pc_kin (pe_ix ix_list (pv 3) pe_int (fun _ _ => rfl)) (pe_glob (v := .ref aL) (by rfl) DL.lm rfl))) (pss_one ps_never) pss_nil)
      (pss_one (ps_ret (pe_call G_move_things hr6 (by rfl) D_move_things.m D_move_things.F.kp D_move_things.b .nil pass0 (pa_cons (pv 0) (pa_cons (pv 2) (pa_cons (pe_ix ix_list (pv 3) pe_int (fun _ _ => rfl)) (pa_cons (pe_ix ix_list (pv 3) pe_int (fun _ _ => rfl)) pa_nil)))))))))), ?_⟩
    unfold allF at q
    by_cases htip : w = "tip"
    · rw [if_pos htip] at q
      unfold wdsT at hw
      rw [if_pos htip] at hw
      have hnd : [p.1, pj.1].Nodup := by
        have hne : p.1 ≠ pj.1 := fun e => hij htip (pl_inj g pt.pl pq.pl e)
        simp [hne]
      have dk : dkB rs w [p.1, pj.1] = true := by
        unfold dkB
        have h2 : plN w = V.int 2 := by rw [htip]; decide +kernel
        rw [show decide (plN w = V.int (([p.1, pj.1].length : Nat) : Int)) = true from decide_eq_true h2, decide_eq_true hnd]
        rw [show ([p.1, pj.1].all fun p => decide (p ∈ (plc rs).map (·.1))) = true from ?_]
        · rfl
        · rw [List.all_eq_true]
          intro y hy
          refine decide_eq_true ?_
          rcases List.mem_cons.mp hy with e | e
          · rw [e]
            exact List.mem_map_of_mem (List.mem_of_getElem? pt.pl)
          · rw [List.mem_singleton.mp e]
            exact List.mem_map_of_mem (List.mem_of_getElem? pq.pl)
      refine ⟨_, rfl, _, rfl, x, rs, line, _, _, rfl, R, hw, ln, by show 2 ≤ 100; decide, dk, fun lw H1 s1 el => ?_⟩
      have a0 : atI (([w, p.1, pj.1] : List Str).map V.str) ((0 : Nat) : Int) = some (.str w) := atI_nat rfl
      have a1 : atI (([w, p.1, pj.1] : List Str).map V.str) ((1 : Nat) : Int) = some (.str p.1) := atI_nat rfl
      have a2 : atI (([w, p.1, pj.1] : List Str).map V.str) ((2 : Nat) : Int) = some (.str pj.1) := atI_nat rfl
      refine ⟨_, rfl, lw, _, _, _, rfl, rfl, SqL.of el, a0, rfl, _, rfl, ?_⟩
      refine iteS htip ?_
      exact ⟨_, rfl, _, rfl, _, rfl, lw, _, _, _, rfl, rfl, SqL.of el, a1, _, rfl, lw, _, _, _, rfl, rfl, SqL.of el, a2, x, rs, v, W, i, p, hp, l, j, pj, hq, lq, rfl, R.same s1, g, s1.rd rv, pt, pq, fun lr us H2 s2 f2 e2 r2 => q lr us H2 (s1.trans s2) (s1.free f2) e2 r2⟩
    · rw [if_neg htip] at q
      unfold wdsT at hw
      rw [if_neg htip] at hw
      have hpl : plN w = V.int 1 := by
        rcases movW_cases hwl with e | e | e | e | e
        · rw [e]; decide +kernel
        · rw [e]; decide +kernel
        · rw [e]; decide +kernel
        · exact absurd e htip
        · rw [e]; decide +kernel
      refine ⟨_, rfl, _, rfl, x, rs, line, _, _, rfl, R, hw, ln, by show 1 ≤ 100; decide, dk_one pt.pl hpl, fun lw H1 s1 el => ?_⟩
      have a0 : atI (([w, p.1] : List Str).map V.str) ((0 : Nat) : Int) = some (.str w) := atI_nat rfl
      have a1 : atI (([w, p.1] : List Str).map V.str) ((1 : Nat) : Int) = some (.str p.1) := atI_nat rfl
      refine ⟨_, rfl, lw, _, _, _, rfl, rfl, SqL.of el, a0, rfl, _, rfl, ?_⟩
      refine iteN htip ?_
      refine ⟨_, rfl, lw, _, _, _, rfl, rfl, SqL.of el, a0, aL, _, (Sum.inr w : Key), rfl, DL.ld, rfl, _, rfl, ?_⟩
      rw [hv]
      refine iteF ?_
      exact ⟨_, rfl, _, rfl, _, rfl, lw, _, _, _, rfl, rfl, SqL.of el, a0, _, rfl, lw, _, _, _, rfl, rfl, SqL.of el, a1, x, rs, v, W, w, i, p, hp, l, rfl, R.same s1, g, s1.rd rv, pt, fh, fun lr us H2 s2 f2 e2 r2 => q lr us H2 (s1.trans s2) (s1.free f2) e2 r2⟩
end
end K07
namespace K07
open PySem L2 Tx Rk PyProof.Rows PySem.SeqAt
open PySem.PyData (strOk)
section
variable {P : Program} {w : World} {K : PySem.W.Frag} {mg : Str → Option Value} {base : Heap}
theorem eqv_str (x y : Str) : PyData.eqv (.str x) (.str y) = decide (x = y) := by
  rw [PyData.eqv]
  by_cases h : x = y
  · simp [h]
  · simp [h]
theorem eqvAll_map {α : Type} [DecidableEq α] {g : α → PyData} (hg : ∀ a b, PyData.eqv (g a) (g b) = decide (a = b)) : ∀ xs ys : List α, PyData.eqvAll (xs.map g) (ys.map g) = decide (xs = ys)
  | [], [] => by (simp [PyData.eqvAll])
  | [], _ :: _ => by (simp [PyData.eqvAll])
  | _ :: _, [] => by (simp [PyData.eqvAll])
  | x :: xs, y :: ys => by
    rw [List.map_cons, List.map_cons, PyData.eqvAll, hg, eqvAll_map hg xs ys, ← Bool.decide_and]
    simp
theorem eqv_tup {α : Type} [DecidableEq α] {g : α → PyData} (hg : ∀ a b, PyData.eqv (g a) (g b) = decide (a = b)) (xs ys : List α) : PyData.eqv (.tuple (xs.map g)) (.tuple (ys.map g)) = decide (xs = ys) := by
  rw [PyData.eqv, eqvAll_map hg]
theorem eqv_dH (xs ys : List Str) : PyData.eqv (dH xs) (dH ys) = decide (xs = ys) := eqv_tup eqv_str xs ys
theorem eqv_dO : ∀ a b : Option Str, PyData.eqv (dO a) (dO b) = decide (a = b)
  | none, none => by simp [dO, PyData.eqv]
  | none, some _ => by simp [dO, PyData.eqv]
  | some _, none => by simp [dO, PyData.eqv]
  | some x, some y => by
    show PyData.eqv (.str x) (.str y) = _
    rw [eqv_str]
    simp
theorem eqv_dW (a b : Wl) : PyData.eqv (dW a) (dW b) = decide (a = b) := by
  unfold dW
  rw [PyData.eqv, PyData.eqvAll, PyData.eqvAll, PyData.eqvAll, PyData.eqvAll, eqv_dO, eqv_tup eqv_dH, eqv_tup eqv_str, Bool.and_true, ← Bool.decide_and, ← Bool.decide_and]
  obtain ⟨a1, a2, a3⟩ := a
  obtain ⟨b1, b2, b3⟩ := b
  simp
theorem any_dW (W : Wl) : ∀ Ws : List Wl, ((Ws.map dW).any fun e => PyData.eqv e (dW W)) = decide (W ∈ Ws)
  | [] => rfl
  | V :: Ws => by
    rw [List.map_cons, List.any_cons, any_dW W Ws, eqv_dW]
    by_cases h : V = W
    · subst h
      simp
    · have h' : ¬ W = V := fun e => h e.symm
      simp [h, h']
theorem rds_take {H : Hp} : ∀ {xs : List V} {ds : List PyData} (n : Nat), RdVs H xs ds → RdVs H (xs.take n) (ds.take n)
  | _, _, 0, _ => by simpa using RdVs.nil
  | _, _, _ + 1, .nil => by simpa using RdVs.nil
  | _, _, n + 1, .cons a b => .cons a (rds_take n b)
theorem deep_dW (W : Wl) : (dW W).depth ≤ 3 := by
  have d1 : (dO W.hand).depth ≤ 0 := by
    cases W.hand with
    | none => rw [dO, PyData.depth]; exact Nat.le_refl 0
    | some x => rw [dO, PyData.depth]; exact Nat.le_refl 0
  have d2 := deep_map (g := dH) (n := 1) (xs := W.heaps) fun x _ => deep_dH x
  have d3 := deep_strs W.lids
  unfold dW
  rw [PyData.depth, PyData.depthAll, PyData.depthAll, PyData.depthAll, PyData.depthAll, PyData.depth, PyData.depth]
  lia
theorem sh_dWs {Ws : List Wl} (h : ∀ W ∈ Ws, Ok W) : shaped (.list (Ws.map dW)) = true := by
  refine shaped_of ?_ ?_
  · rw [PyData.canLay0]
    exact lay_map fun W hW => canLay_of_shaped (sh_dW (h W hW))
  · rw [PyData.depth]
    have := deep_map (g := dW) (n := 3) (xs := Ws) fun W _ => deep_dW W
    lia
theorem flat_bls : ∀ ys : List Bool, (ys.map V.bl).all flatV = true
  | [] => rfl
  | _ :: ys => by
    rw [List.map_cons, List.all_cons, flat_bls ys]
    rfl
theorem inV_no (n : Nat) : inV (V.bl true) ((List.replicate n false).map V.bl) = false := by
  induction n with
  | zero => rfl
  | succ n ih =>
    rw [List.replicate_succ, List.map_cons]
    show (eqV (.bl false) (.bl true) || inV (.bl true) ((List.replicate n false).map V.bl)) = false
    rw [ih]
    rfl
theorem seq_gen {s R : TS} {D : Ends} {σ : L2.St} {H : Hp} (I : L2.St → Hp → Prop) (hR : ∀ σ' H', I σ' H' → R D σ' H') (hs : ∀ N : L2.St → Hp → Prop, (∀ σ' H', I σ' H' → N σ' H') → s { D with nx := N } σ H) : tSeq s R D σ H := hs (R D) hR
inductive spSame (vs : List V) (H : Hp) (Q : VK) (E0_ : XK) : Prop
  | mk (u v : V) (W : Wl) (c0 : vs = [u, v]) (c1 : RdV H u (dW W)) (c2 : RdV H v (dW W)) (c3 : Ok W) (c4 : ∀ H' : Hp, Same H H' → Q (.bl true) H') : spSame  vs H Q E0_
noncomputable abbrev pSame : List Str := ["_law_told", "_law_world_here"]
noncomputable abbrev nSame : List Str := ["_law_told", "_law_world_here", "_law_heap_here"]
theorem scSame : FnScope nSame pSame (defScope sSame) := ⟨rfl, rfl, rfl, by decide +kernel, rfl, by decide +kernel, by decide +kernel⟩
inductive spMeets (vs : List V) (H : Hp) (Q : VK) (E0_ : XK) : Prop
  | mk (lt ld : Addr) (us zs : List V) (Ws : List Wl) (c0 : vs = [.ref lt, .ref ld]) (c1 : H lt = some (.lst us)) (c2 : H ld = some (.lst zs)) (c3 : RdVs H us (Ws.map dW)) (c4 : RdVs H zs (Ws.map dW)) (c5 : (∀ W ∈ Ws, Ok W)) (c6 : Ws.Nodup) (c7 : Ws.length ≤ 100) (c8 : ∀ H' : Hp, Same H H' → Q (.bl true) H') : spMeets  vs H Q E0_
noncomputable abbrev pLMeets : List Str := ["_law_told", "_law_due"]
noncomputable abbrev nLMeets : List Str := ["_law_told", "_law_due", "_law_world_here"]
theorem scLMeets : FnScope nLMeets pLMeets (defScope sLMeets) := ⟨rfl, rfl, rfl, by decide +kernel, rfl, by decide +kernel, by decide +kernel⟩
end
end K07
namespace K07
open PySem L2 Tx Rk PyProof.Rows PySem.SeqAt
open PySem.PyData (strOk)
section
variable {P : Program} {w : World} {K : PySem.W.Frag} {mg : Str → Option Value} {base : Heap}
theorem ok_same {f : Addr} {fd : FuncData} (F : Fun K "_law_same" "_law_same" sSame f fd) (T : Bl mg) : FnOk P w K mg base CX0 1 f fd ["_law_told", "_law_world_here"] spSame := by
  refine F.ok scSame (fun vs H Q E h => ?_) (fun cdv A outer s H vs Q E hr h => ?_)
  · obtain ⟨u, v, W, rfl, _⟩ := h
    rfl
  · obtain ⟨u, v, W, rfl, ru, rv, ok, q⟩ := h
    have hun := hr.units
    have hsh := sh_dW ok
    obtain ⟨c, v0, hb, cl, xs, ys, rfl, ea, r0, eb, rb, ec, rc⟩ := parts ru
    have at1 : atI [v0, V.ref hb, V.ref cl] ((1 : Nat) : Int) = some (.ref hb) := atI_nat rfl
    have at2 : atI [v0, V.ref hb, V.ref cl] ((2 : Nat) : Int) = some (.ref cl) := atI_nat rfl
    refine ⟨_, pss_cons (ps_if (PW.pt (pw_or (pt_not (pt_val (pe_callB call_isiT (by rfl) T.isi bt_isi (pa_cons (pv 0) (pa_cons (pe_bltn (v := .ty "tuple") (by rfl) T.tuple bt_tuple rfl) pa_nil)))))
          (pw_or (pt_cmpR op_ne (pe_callB call_len (by rfl) T.len PySem.boot_len (pa_cons (pv 0) pa_nil)) pe_int (nomark _)) (pw_or1 (pt_cmpR (op_neD hun) (pv 0) (pv 1) (nomark _)))))) (pss_one (ps_ret pe_bl)) pss_nil)
      (pss_cons (ps_for PassesOwn.never rfl (pi_tup (pe_ix ix_tup (pv 0) pe_int (fun _ _ => rfl))) (pg_name (i := 2) scSame.nd rfl (Or.inl rfl))
          (pss_one (ps_if (pt_not (pt_val (pe_callB call_isiT (by rfl) T.isi bt_isi (pa_cons (pv 2) (pa_cons (pe_bltn (v := .ty "tuple") (by rfl) T.tuple bt_tuple rfl) pa_nil))))) (pss_one (ps_ret pe_bl)) pss_nil)))
      (pss_one (ps_ret (pe_and (pe_callB call_isiT (by rfl) T.isi bt_isi (pa_cons (pe_ix ix_tup (pv 0) pe_int (fun _ _ => rfl)) (pa_cons (pe_bltn (v := .ty "tuple") (by rfl) T.tuple bt_tuple rfl) pa_nil)))
        (pe_one (pe_callB call_isiT (by rfl) T.isi bt_isi (pa_cons (pe_ix ix_tup (pv 0) pe_int (fun _ _ => rfl)) (pa_cons (pe_bltn (v := .ty "tuple") (by rfl) T.tuple bt_tuple rfl) pa_nil)))))))), ?_⟩
    refine ⟨_, rfl, c, _, rfl, ea, _, rfl, ?_⟩
    refine iteF ?_
    refine ⟨_, rfl, _, _, rfl, .inr ⟨_, SqT.of ea, rfl⟩, rfl, _, rfl, ?_⟩
    refine iteNS rfl ?_
    refine ⟨_, rfl, _, rfl, dW W, dW W, ru, rv, hsh, hsh, _, rfl, ?_⟩
    rw [eqv_refl _ (canLay_of_shaped hsh)]
    refine iteF ?_
    refine ⟨_, rfl, c, _, _, _, rfl, rfl, SqT.of ea, at1, hb, rfl, ⟨_, SqT.of eb⟩, ?_⟩
    refine for_tup (K := K) (a := hb) (xs := xs) (fun j σ H5 => ∃ v3 : Option V, σ = [some (.ref c), some v, v3] ∧ H5 = H) ⟨none, rfl, rfl⟩ (fun j σ H5 _ hh0 => by obtain ⟨_, _, e⟩ := hh0; rw [e]; exact SqT.of eb) ?_ ?_
    · rintro j y σ H5 hy ⟨v3, rfl, rfl⟩
      obtain ⟨d, hd, rd⟩ := rb.get hy
      rw [List.getElem?_map] at hd
      cases hj : W.heaps[j]? with
      | none => rw [hj] at hd; cases hd
      | some hp =>
        rw [hj] at hd
        have hd' : dH hp = d := Option.some.inj hd
        subst hd'
        unfold dH at rd
        cases rd with
        | tup eh rh =>
          refine ⟨_, rfl, _, _, rfl, eh, _, rfl, ?_⟩
          refine iteF ?_
          exact ⟨_, rfl, rfl⟩
    · rintro σ H5 ⟨v3, rfl, rfl⟩
      refine ⟨_, rfl, c, _, _, _, rfl, rfl, SqT.of ea, at1, hb, _, rfl, eb, _, rfl, ?_⟩
      refine iteT ?_
      exact ⟨_, rfl, c, _, _, _, rfl, rfl, SqT.of ea, at2, cl, _, rfl, ec, q _ (Same.refl _)⟩
end
end K07
namespace K07
open PySem L2 Tx Rk PyProof.Rows PySem.SeqAt
open PySem.PyData (strOk)
section
variable {P : Program} {w : World} {K : PySem.W.Frag} {mg : Str → Option Value} {base : Heap}
theorem ok_meets {f f1 : Addr} {fd d1 : FuncData} (F : Fun K "_law_meets" "_law_meets" sLMeets f fd) (T : Bl mg) (D_l_same : Df K mg "_law_same" sSame pSame f1 d1) (G_l_same : FnOk P w K mg base CX0 1 f1 d1 pSame spSame) : FnOk P w K mg base CX0 2 f fd pLMeets spMeets := by
  refine F.ok scLMeets (fun vs H Q E h => ?_) (fun cdv A outer s H vs Q E hr1 h => ?_)
  · obtain ⟨lt, ld, us, zs, Ws, rfl, _⟩ := h
    rfl
  · obtain ⟨lt, ld, us, zs, Ws, rfl, el, ed, ru, rz, ok, nd, few, q⟩ := h
    have hsl : sizeLine = 16777216 := sizeLine_eq
    have hun1 : _ + 65 < cLine := Nat.lt_of_le_of_lt (Nat.add_le_add_left (by decide : 65 ≤ 16 * 1 + 200) _) hr1.un
    have hul := ru.length
    have hzl := rz.length
    rw [List.length_map] at hul hzl
    refine ⟨_, (pss_cons (ps_if (PW.pt (pw_or (pt_not (pt_val (pe_callB call_isiL (by rfl) T.isi bt_isi (pa_cons (pv 0) (pa_cons (pe_bltn (v := .ty "list") (by rfl) T.list bt_list rfl) pa_nil))))) (pw_or1 (pt_cmpR op_ne (pe_callB call_len (by rfl) T.len PySem.boot_len (pa_cons (pv 0) pa_nil)) (pe_callB call_len (by rfl) T.len PySem.boot_len (pa_cons (pv 1) pa_nil)) (nomark _))))) (pss_one (ps_ret pe_bl)) pss_nil)
      (pss_cons (ps_for PassesOwn.never rfl (pi_list (pv 0)) (pg_name (i := 2) scLMeets.nd rfl (Or.inl rfl))
        (pss_one (ps_if (PW.pt (pw_or (pt_not (pt_val (pe_call G_l_same hr1 (by rfl) D_l_same.m D_l_same.F.kp D_l_same.b .nil pass0 (pa_cons (pv 2) (pa_cons (pv 2) pa_nil))))) (pw_or1 (pt_cmpR (op_notInD' hun1) (pv 2) (pv 1) (by rfl))))) (pss_one (ps_ret pe_bl)) pss_nil)))
      (pss_one (ps_ret (pe_cmpR op_notIn_seq pe_bl (pe_lc (N := ["_law_k", "_law_told"]) (sc := defScope sLMeets) (own := ["_law_k"]) (fr := ["_law_told"]) (js := [0]) ⟨rfl, rfl, rfl, rfl, by decide +kernel, by decide +kernel, by decide +kernel, rfl, by decide +kernel⟩ rfl (pi_range1 (by rfl) T.range (pa_cons (pe_callB call_len (by rfl) T.len PySem.boot_len (pa_cons (pv 0) pa_nil)) pa_nil)) (fun _ _ _ _ => pg_name (i := 0) (show List.Nodup (["_law_k", "_law_told"] : List Str) by decide +kernel) rfl (Or.inl rfl)) (fun _ _ _ _ => pif_nil) (fun _ _ _ _ => (pe_cmpR (op_inD hun1) (pe_ix (ix_listK K rfl) (pv 1) (pv 0) (fun _ _ => rfl)) (pe_slice (sl_listK K rfl) (pv 1) po_none (po_some (pv 0))) (by rfl)))) (by rfl)))))), ?_⟩
    refine ⟨_, rfl, lt, _, rfl, el, _, rfl, iteF ?_⟩
    refine ⟨_, rfl, _, _, rfl, .inl ⟨_, SqL.of el, rfl⟩, _, rfl, _, _, rfl, .inl ⟨_, SqL.of ed, rfl⟩, rfl, _, rfl, iteNS (by rw [hul, hzl]) ?_⟩
    refine ⟨_, rfl, lt, rfl, ⟨_, SqL.of el⟩, for_list (K := K) (a := lt) (xs := us) (fun i σ H5 => ∃ v2 : Option V, σ = [some (.ref lt), some (.ref ld), v2] ∧ Same H H5) ⟨none, rfl, Same.refl _⟩ (fun i σ H5 _ hh0 => by obtain ⟨_, _, s5⟩ := hh0; exact SqL.of (s5 _ _ el)) ?_ ?_⟩
    · rintro i y σ H5 hy ⟨v2, rfl, s5⟩
      obtain ⟨d, hd, rd⟩ := ru.get hy
      rw [List.getElem?_map] at hd
      cases hj : Ws[i]? with
      | none => rw [hj] at hd; cases hd
      | some W =>
        rw [hj] at hd
        have hd' : dW W = d := Option.some.inj hd
        subst hd'
        have hm := List.mem_of_getElem? hj
        have okW := ok W hm
        have rd5 := s5.rd rd
        refine ⟨_, rfl, _, rfl, y, y, W, rfl, rd5, rd5, okW, fun H6 s6 => ⟨_, rfl, iteF ?_⟩⟩
        have s56 := s5.trans s6
        refine ⟨_, rfl, _, rfl, ld, zs, dW W, Ws.map dW, rfl, s56 _ _ ed, s56.rds rz, s6.rd rd5, sh_dW okW, sh_dWs ok, _, rfl, ?_⟩
        rw [any_dW, decide_eq_true hm]
        exact iteF ⟨_, rfl, s56⟩
    · rintro σ H5 ⟨v2, rfl, s5⟩
      have el5 := s5 _ _ el
      have ru5 := s5.rds ru
      refine ⟨_, rfl, _, _, rfl, .inl ⟨_, SqL.of el5, rfl⟩, _, rfl, by lia, by lia, fun D hD => ?_⟩
      refine lcJ (n := us.length) (fun i ys H6 => Same H5 H6 ∧ H6 D = some (.lst ys) ∧ ys = (List.replicate i false).map V.bl) ⟨Same.new hD, upd_same, rfl⟩ (fun i ys H6 hi _ => by show i < ((us.length : Nat) : Int).toNat; lia) (fun ys H6 _ => by show ((us.length : Nat) : Int).toNat ≤ us.length; lia) ?_ ?_
      · rintro i ys H6 y H7 hi ⟨s6, e6, y0⟩ ⟨rfl, rfl⟩
        subst y0
        refine lc_yes ?_
        have e56 := s6 _ _ el5
        have hiw : i < Ws.length := by lia
        have ax : atI us (0 + (i : Int)) = some us[i] := at0 (List.getElem?_eq_getElem hi)
        have rd6 : RdV H7 us[i] (dW Ws[i]) := by
          obtain ⟨d, hd, rd⟩ := (s6.rds ru5).get (List.getElem?_eq_getElem hi)
          rw [List.getElem?_map, List.getElem?_eq_getElem hiw] at hd
          have hd' : dW Ws[i] = d := Option.some.inj hd
          subst hd'
          exact rd
        have hcut : cutV us none (some (0 + (i : Int))) = us.take i := by
          unfold cutV
          rw [Int.zero_add, HT.sIx_none, HT.sIx_nat, List.drop_zero, Nat.sub_zero]
          congr 1
          lia
        refine ⟨_, rfl, _, rfl, lt, _, _, _, rfl, rfl, SqL.of e56, ax, _, rfl, _, rfl, _, rfl, lt, us, rfl, SqL.of e56, fun lp hlp => ?_⟩
        rw [hcut]
        have s7 : Same H7 (upd H7 lp (.lst (us.take i))) := Same.new hlp
        have e7 : (upd H7 lp (.lst (us.take i))) lp = some (.lst (us.take i)) := upd_same
        generalize upd H7 lp (.lst (us.take i)) = H8 at s7 e7 ⊢
        have s58 := s6.trans s7
        refine ⟨lp, _, dW Ws[i], (Ws.take i).map dW, rfl, e7, ?_, s7.rd rd6, sh_dW (ok _ (List.getElem_mem hiw)), sh_dWs (fun W hW => ok W (List.mem_of_mem_take hW)), ?_⟩
        · rw [List.map_take]
          exact rds_take i (s58.rds ru5)
        · have hno : ¬ Ws[i] ∈ Ws.take i := fun z => by
            obtain ⟨j, hj⟩ := List.getElem?_of_mem z
            obtain ⟨hl, he⟩ := List.getElem?_eq_some_iff.mp hj
            rw [List.getElem_take] at he
            rw [List.length_take] at hl
            have := (List.getElem_inj nd).mp he
            lia
          rw [any_dW, decide_eq_false hno]
          refine ⟨_, s7 _ _ e6, by rw [List.length_map, List.length_replicate]; lia, s58.put hD, upd_same, ?_⟩
          rw [List.replicate_succ', List.map_append]
          rfl
      · rintro ys H6 ⟨s6, e6, y0⟩
        subst y0
        refine ⟨D, _, rfl, .inl (SqL.of e6), rfl, flat_bls _, ?_⟩
        show Q (.bl (!inV (V.bl true) ((List.replicate us.length false).map V.bl))) H6
        rw [inV_no]
        exact q H6 (s5.trans s6)
end
end K07
namespace K07
open PySem L2 Tx Rk PyProof.Rows PySem.SeqAt
open PySem.PyData (strOk)
section
variable {P : Program} {w : World} {K : PySem.W.Frag} {mg : Str → Option Value} {base : Heap}
inductive spLHeap (vs : List V) (H : Hp) (Q : VK) (E0_ : XK) : Prop
  | mk (v : V) (W : Wl) (i : Nat) (a : V) (hq : List Str) (c0 : vs = [v, .int (i : Int), a]) (c1 : RdV H v (dW W)) (c2 : RdV H a (dH hq)) (c3 : i < W.heaps.length) (c4 : W.heaps.length ≤ 100) (c5 : ∀ (v' : V) (H' : Hp), Same H H' → RdV H' v' (dW ⟨W.hand, W.heaps.set i hq, W.lids⟩) → Q v' H') : spLHeap  vs H Q E0_
noncomputable abbrev pLHeap : List Str := ["_law_world_here", "_law_at", "_law_heap_here"]
noncomputable abbrev nLHeap : List Str := ["_law_world_here", "_law_at", "_law_heap_here", "_law_heaps"]
theorem scLHeap : FnScope nLHeap pLHeap (defScope sLHeap) := ⟨rfl, rfl, rfl, by decide +kernel, rfl, by decide +kernel, by decide +kernel⟩
inductive spLLaid (vs : List V) (H : Hp) (Q : VK) (E0_ : XK) : Prop
  | mk (v : V) (W : Wl) (i : Nat) (t : Str) (c0 : vs = [v, .int (i : Int)]) (c1 : RdV H v (dW W)) (c2 : i < W.heaps.length) (c3 : W.heaps.length ≤ 100) (c4 : (W.heaps.getD i []).length ≤ 100) (c5 : W.hand = some t) (c6 : ∀ (v' : V) (H' : Hp), Same H H' → RdV H' v' (dW (layF t W i)) → Q v' H') : spLLaid  vs H Q E0_
noncomputable abbrev pLLaid : List Str := ["_law_world_here", "_law_at"]
noncomputable abbrev nLLaid : List Str := ["_law_world_here", "_law_at", "_law_found"]
theorem scLLaid : FnScope nLLaid pLLaid (defScope sLLaid) := ⟨rfl, rfl, rfl, by decide +kernel, rfl, by decide +kernel, by decide +kernel⟩
noncomputable def tip0 (W : Wl) (i : Nat) (hp : List Str) (j : Nat) (hq : List Str) (lq : Str) : List Wl := if lq = "open" then [⟨none, (W.heaps.set i []).set j (hq ++ hp.reverse), W.lids⟩] else []
inductive spLTip (vs : List V) (H : Hp) (Q : VK) (E0_ : XK) : Prop
  | mk (rs : List Ro) (v : V) (W : Wl) (i : Nat) (p : Plc) (hp : List Str) (l : Str) (j : Nat) (pj : Plc) (hq : List Str) (lq : Str) (c0 : vs = [v, .int (i : Int), .int (j : Int)]) (c1 : RdV H v (dW W)) (c2 : Pt rs W i p hp l) (c3 : Pt rs W j pj hq lq) (c4 : i ≠ j) (c5 : W.hand = none) (c6 : ∀ (lw : Addr) (us : List V) (H' : Hp), Same H H' → H' lw = some (.lst us) → RdVs H' us ((tip0 W i hp j hq lq).map dW) → Q (.ref lw) H') : spLTip  vs H Q E0_
noncomputable abbrev pLTip : List Str := ["_law_world_here", "_law_at", "_law_to"]
noncomputable abbrev nLTip : List Str := ["_law_world_here", "_law_at", "_law_to", "_law_heap_here", "_law_turned"]
theorem scLTip : FnScope nLTip pLTip (defScope sLTip) := ⟨rfl, rfl, rfl, by decide +kernel, rfl, by decide +kernel, by decide +kernel⟩
inductive spLMoves (vs : List V) (H : Hp) (Q : VK) (E0_ : XK) : Prop
  | mk (rs : List Ro) (v : V) (W : Wl) (w : Str) (i : Nat) (p : Plc) (hp : List Str) (l : Str) (j : Nat) (pj : Plc) (hq : List Str) (lq : Str) (c0 : vs = [.str w, .int (i : Int), .int (j : Int), v]) (c1 : RdV H v (dW W)) (c2 : Pt rs W i p hp l) (c3 : Pt rs W j pj hq lq) (c4 : (w = "tip" → i ≠ j)) (c5 : w ∈ movW) (c6 : (∀ h ∈ W.heaps, h.length ≤ 100)) (c7 : ∀ (lw : Addr) (us : List V) (H' : Hp), Same H H' → H' lw = some (.lst us) → RdVs H' us ((allF w W i hp l j hq lq).map dW) → Q (.ref lw) H') : spLMoves  vs H Q E0_
noncomputable abbrev pLMoves : List Str := ["_law_word", "_law_at", "_law_to", "_law_world_here"]
noncomputable abbrev nLMoves : List Str := ["_law_word", "_law_at", "_law_to", "_law_world_here", "_law_heap_here", "_law_found"]
theorem scLMoves : FnScope nLMoves pLMoves (defScope sLMoves) := ⟨rfl, rfl, rfl, by decide +kernel, rfl, by decide +kernel, by decide +kernel⟩
inductive spLLine (K : PySem.W.Frag) (vs : List V) (H : Hp) (Q : VK) (E0_ : XK) : Prop
  | mk (a pp : Addr) (ns : List Int) (k : Int) (xs : List Str) (c0 : vs = [.ref a, .int k, .ref pp]) (c1 : SqL K H a (ns.map V.int)) (c2 : ns.length ≤ 63) (c3 : 0 ≤ k) (c4 : k < 10000) (c5 : H pp = some (.lst (xs.map V.str))) (c6 : 1 ≤ xs.length) (c7 : xs.length ≤ 6) (c8 : ∀ (lw : Addr) (w : Str) (i j : Nat) (H' : Hp), Same H H' → H' lw = some (.lst [.str w, .int (i : Int), .int (j : Int)]) → w ∈ movW → i < xs.length → j < xs.length → (w = "tip" → i ≠ j) → Q (.ref lw) H') : spLLine K vs H Q E0_
noncomputable abbrev pLLine : List Str := ["_law_script", "_law_k", "_law_places"]
noncomputable abbrev nLLine : List Str := ["_law_script", "_law_k", "_law_places", "_law_word", "_law_at"]
theorem scLLine : FnScope nLLine pLLine (defScope sLLine) := ⟨rfl, rfl, rfl, by decide +kernel, rfl, by decide +kernel, by decide +kernel⟩
inductive spLaw (K : PySem.W.Frag) (vs : List V) (H : Hp) (Q : VK) (E0_ : XK) : Prop
  | mk (a : Addr) (ns : List Int) (c0 : vs = [.ref a]) (c1 : SqL K H a (ns.map V.int)) (c2 : ns.length ≤ 63) (c3 : ∀ H', Q (.bl true) H') : spLaw K vs H Q E0_
noncomputable abbrev pLaw : List Str := ["_law_script"]
noncomputable abbrev nLaw : List Str := ["_law_script", "_law_places", "_law_things", "_law_drawn", "_law_room_here", "_law_k", "_law_world_here", "_law_word", "_law_at", "_law_to", "_law_line_here", "_law_due", "_law_told"]
theorem scLaw : FnScope nLaw pLaw (defScope sLaw) := ⟨rfl, rfl, rfl, by decide +kernel, rfl, by decide +kernel, by decide +kernel⟩
theorem allF_tip {W : Wl} {w : Str} {i j : Nat} {hp hq : List Str} {l lq : Str} (h : w = "tip") : allF w W i hp l j hq lq = tipF W i hp l j hq lq := by
  unfold allF
  rw [if_pos h]
theorem allF_take {W : Wl} {w : Str} {i j : Nat} {hp hq : List Str} {l lq : Str} (h : w = "take") : allF w W i hp l j hq lq = takeF W i hp l := by
  subst h
  unfold allF movF
  rw [if_neg (by decide +kernel), if_pos rfl]
theorem allF_put {W : Wl} {w : Str} {i j : Nat} {hp hq : List Str} {l lq : Str} (h : w = "put") : allF w W i hp l j hq lq = putF W i hp l := by
  subst h
  unfold allF movF
  rw [if_neg (by decide +kernel), if_neg (by decide +kernel), if_pos rfl]
theorem allF_toss {W : Wl} {w : Str} {i j : Nat} {hp hq : List Str} {l lq : Str} (h : w = "toss") : allF w W i hp l j hq lq = tossF W i hp l := by
  subst h
  unfold allF movF
  rw [if_neg (by decide +kernel), if_neg (by decide +kernel), if_neg (by decide +kernel), if_pos rfl]
theorem allF_shake {W : Wl} {w : Str} {i j : Nat} {hp hq : List Str} {l lq : Str} (h : w = "shake") : allF w W i hp l j hq lq = shakeF W i hp l := by
  subst h
  unfold allF movF
  rw [if_neg (by decide +kernel), if_neg (by decide +kernel), if_neg (by decide +kernel), if_neg (by decide +kernel)]
theorem put_some {W : Wl} {i : Nat} {hp : List Str} {l t : Str} (hh : W.hand = some t) (hl : l = "open") : putF W i hp l = [layF t W i] := by
  unfold putF
  rw [hh]
  dsimp only
  rw [if_pos hl]
theorem put_none {W : Wl} {i : Nat} {hp : List Str} {l : Str} (h : W.hand = none ∨ l ≠ "open") : putF W i hp l = [] := by
  unfold putF
  split
  · rename_i t ht
    rcases h with h | h
    · rw [h] at ht
      cases ht
    · rw [if_neg h]
  · rfl
theorem toss_some {W : Wl} {i : Nat} {hp : List Str} {l t : Str} (hh : W.hand = some t) (hl : l = "open") : tossF W i hp l = (tossJ i).map (layF t W) := by
  unfold tossF
  rw [hh]
  dsimp only
  rw [if_pos hl]
theorem toss_none {W : Wl} {i : Nat} {hp : List Str} {l : Str} (h : W.hand = none ∨ l ≠ "open") : tossF W i hp l = [] := by
  unfold tossF
  split
  · rename_i t ht
    rcases h with h | h
    · rw [h] at ht
      cases ht
    · rw [if_neg h]
  · rfl
theorem heap_tup {H : Hp} {W : Wl} {xs : List V} {i : Nat} {hp : List Str} (rb : RdVs H xs (W.heaps.map dH)) (he : W.heaps[i]? = some hp) : ∃ t, xs[i]? = some (V.ref t) ∧ H t = some (.tup (hp.map V.str)) := by
  have hl := rb.length
  rw [List.length_map] at hl
  have hi := (List.getElem?_eq_some_iff.mp he).1
  have hxi : xs[i]? = some (xs[i]'(by lia)) := List.getElem?_eq_getElem (by lia)
  obtain ⟨d, hd, rd⟩ := rb.get hxi
  rw [List.getElem?_map, he] at hd
  have hd' : dH hp = d := Option.some.inj hd
  subst hd'
  generalize xs[i]'(by lia) = y at hxi rd
  unfold dH at rd
  cases rd with
  | tup eh rh =>
    have hys := rds_str rh
    subst hys
    exact ⟨_, hxi, eh⟩
theorem lay_ne {t : Str} {W : Wl} {i : Nat} (hi : i < W.heaps.length) (h0 : i ≠ 0) : layF t W i ≠ layF t W 0 := fun e => by
  have e1 : (W.heaps.set i (W.heaps.getD i [] ++ [t]))[i]? = (W.heaps.set 0 (W.heaps.getD 0 [] ++ [t]))[i]? := by
    have := congrArg Wl.heaps e
    unfold layF at this
    exact congrArg (fun z => z[i]?) this
  rw [List.getElem?_set_self hi, List.getElem?_set_ne (fun z => h0 z.symm), List.getD_eq_getElem?_getD, List.getElem?_eq_getElem hi] at e1
  have e2 := congrArg List.length (Option.some.inj e1)
  simp at e2
theorem allF_nd {rs : List Ro} {W : Wl} {w : Str} {i j : Nat} {p pj : Plc} {hp hq : List Str} {l lq : Str} (pt : Pt rs W i p hp l) (nd : W.heaps.flatten.Nodup) : (allF w W i hp l j hq lq).Nodup := by
  have hi := (List.getElem?_eq_some_iff.mp pt.he).1
  have one : ∀ z : Wl, [z].Nodup := fun z => by simp
  unfold allF
  split
  · unfold tipF
    split
    · exact one _
    · exact .nil
  · unfold movF
    split
    · unfold takeF
      split
      · exact one _
      · exact .nil
    · split
      · unfold putF
        split
        · split
          · exact one _
          · exact .nil
        · exact .nil
      · split
        · unfold tossF
          split
          · split
            · unfold tossJ
              split
              · exact one _
              · rename_i h0
                have := lay_ne (t := ‹Str›) hi h0
                simp [this]
            · exact .nil
          · exact .nil
        · unfold shakeF
          split
          · rename_i h
            have hne : W ≠ ⟨none, W.heaps.set i (swF hp), W.lids⟩ := fun e => by
              have e1 : W.heaps[i]? = (W.heaps.set i (swF hp))[i]? := congrArg (fun z => z[i]?) (congrArg Wl.heaps e)
              rw [List.getElem?_set_self hi, pt.he] at e1
              have e2 := Option.some.inj e1
              obtain ⟨r, b, a, rfl⟩ := two_last h.2.2
              rw [sw_two] at e2
              have e3 := List.append_cancel_left e2
              have e4 : b = a := by injection e3
              have hn : (r ++ [b, a]).Nodup := (List.pairwise_flatten.mp nd).1 _ (List.mem_of_getElem? pt.he)
              have hn2 := (List.nodup_append.mp hn).2.1
              rw [e4] at hn2
              simp at hn2
            simp [hne]
          · exact .nil
theorem allF_len {W : Wl} {w : Str} {i j : Nat} {hp hq : List Str} {l lq : Str} : (allF w W i hp l j hq lq).length ≤ 100 := by
  unfold allF
  split
  · unfold tipF
    split <;> simp
  · unfold movF
    split
    · unfold takeF
      split <;> simp
    · split
      · unfold putF
        split
        · split <;> simp
        · simp
      · split
        · unfold tossF
          split
          · split
            · unfold tossJ
              split <;> simp
            · simp
          · simp
        · unfold shakeF
          split <;> simp
theorem set_ok {W : Wl} (ok : Ok W) {hand : Option Str} {heaps : List (List Str)} (h1 : ∀ x ∈ hand, Sk x) (h2 : ∀ h ∈ heaps, h.length ≤ 100 ∧ ∀ x ∈ h, Sk x) : Ok ⟨hand, heaps, W.lids⟩ := ⟨h1, fun h hh => (h2 h hh).2, ok.lids, fun h hh => (h2 h hh).1⟩
theorem heaps_set {hs : List (List Str)} {i : Nat} {hq : List Str} {P : List Str → Prop} (h : ∀ z ∈ hs, P z) (hp : P hq) : ∀ z ∈ hs.set i hq, P z := fun z hz => by
  rcases List.mem_or_eq_of_mem_set hz with e | e
  · exact h z e
  · rw [e]
    exact hp
theorem allF_ok {rs : List Ro} {W : Wl} {w : Str} {i j : Nat} {p pj : Plc} {hp hq : List Str} {l lq : Str} (pt : Pt rs W i p hp l) (pq : Pt rs W j pj hq lq) (ok : Ok W) (few : ∀ h ∈ W.heaps, h.length ≤ 6) : ∀ Z ∈ allF w W i hp l j hq lq, Ok Z := by
  have hpm := List.mem_of_getElem? pt.he
  have hqm := List.mem_of_getElem? pq.he
  have all : ∀ z ∈ W.heaps, z.length ≤ 100 ∧ ∀ x ∈ z, Sk x := fun z hz => ⟨ok.few z hz, ok.heaps z hz⟩
  have hp6 := few hp hpm
  have hq6 := few hq hqm
  have no : ∀ x ∈ (none : Option Str), Sk x := fun x hx => by cases hx
  have lay : ∀ t k, W.hand = some t → Ok (layF t W k) := fun t k ht => by
    refine set_ok ok no (heaps_set all ?_)
    have h1 : (W.heaps.getD k []).length ≤ 6 ∧ ∀ x ∈ W.heaps.getD k [], Sk x := by
      (rw [List.getD_eq_getElem?_getD])
      cases hk : W.heaps[k]? with
      | none => exact ⟨Nat.zero_le _, fun x hx => by cases hx⟩
      | some z => exact ⟨few z (List.mem_of_getElem? hk), ok.heaps z (List.mem_of_getElem? hk)⟩
    refine ⟨by rw [List.length_append, List.length_singleton]; lia, fun x hx => ?_⟩
    rcases List.mem_append.mp hx with h | h
    · exact h1.2 x h
    · rw [List.mem_singleton.mp h]
      exact ok.hand t ht
  intro Z hZ
  unfold allF at hZ
  split at hZ
  · unfold tipF at hZ
    split at hZ
    · rw [List.mem_singleton.mp hZ]
      refine set_ok ok no (heaps_set (heaps_set all ⟨Nat.zero_le _, fun x hx => by cases hx⟩) ⟨by rw [List.length_append, List.length_reverse]; lia, fun x hx => ?_⟩)
      rcases List.mem_append.mp hx with h | h
      · exact ok.heaps hq hqm x h
      · exact ok.heaps hp hpm x (List.mem_reverse.mp h)
    · cases hZ
  · unfold movF at hZ
    split at hZ
    · unfold takeF at hZ
      split at hZ
      · rw [List.mem_singleton.mp hZ]
        refine set_ok ok (fun x hx => ok.heaps hp hpm x (List.mem_of_getLast? hx)) (heaps_set all ⟨by rw [List.length_dropLast]; lia, fun x hx => ok.heaps hp hpm x ((List.dropLast_sublist hp).subset hx)⟩)
      · cases hZ
    · split at hZ
      · unfold putF at hZ
        split at hZ
        · rename_i t ht
          split at hZ
          · rw [List.mem_singleton.mp hZ]
            exact lay t i ht
          · cases hZ
        · cases hZ
      · split at hZ
        · unfold tossF at hZ
          split at hZ
          · rename_i t ht
            split at hZ
            · obtain ⟨k, _, e⟩ := List.mem_map.mp hZ
              rw [← e]
              exact lay t k ht
            · cases hZ
          · cases hZ
        · unfold shakeF at hZ
          split at hZ
          · rcases List.mem_cons.mp hZ with e | e
            · rw [e]
              exact ok
            · rw [List.mem_singleton.mp e]
              refine set_ok ok no (heaps_set all ⟨?_, fun x hx => ?_⟩)
              · unfold swF
                rw [List.length_append, List.length_reverse, List.length_take, List.length_drop]
                lia
              · unfold swF at hx
                rcases List.mem_append.mp hx with h | h
                · exact ok.heaps hp hpm x (List.mem_of_mem_take h)
                · exact ok.heaps hp hpm x (List.mem_of_mem_drop (List.mem_reverse.mp h))
          · cases hZ
end
end K07
namespace K07
open PySem L2 Tx Rk PyProof.Rows PySem.SeqAt
open PySem.PyData (strOk)
section
variable {P : Program} {w : World} {K : PySem.W.Frag} {mg : Str → Option Value} {base : Heap}
theorem ok_lheap {f : Addr} {fd : FuncData} (F : Fun K "_law_heap" "_law_heap" sLHeap f fd) : FnOk P w K mg base CX0 1 f fd pLHeap spLHeap := by
  refine F.ok scLHeap (fun vs H Q E h => ?_) (fun cdv A outer s H vs Q E hr h => ?_)
  · obtain ⟨v, W, i, a, hq, rfl, _⟩ := h
    rfl
  · obtain ⟨v, W, i, a, hq, rfl, rv, ra, hi, hx, q⟩ := h
    have hsl : sizeLine = 16777216 := sizeLine_eq
    obtain ⟨c, v0, hb, cl, xs, ys, rfl, ea, r0, eb, rb, ec, rc⟩ := parts rv
    have hxl := rb.length
    rw [List.length_map] at hxl
    have at0 : atI [v0, V.ref hb, V.ref cl] ((0 : Nat) : Int) = some v0 := atI_nat rfl
    have at1 : atI [v0, V.ref hb, V.ref cl] ((1 : Nat) : Int) = some (.ref hb) := atI_nat rfl
    have at2 : atI [v0, V.ref hb, V.ref cl] ((2 : Nat) : Int) = some (.ref cl) := atI_nat rfl
    have c1 : cutV xs none (some ((i : Nat) : Int)) = xs.take i := by
      unfold cutV
      rw [HT.sIx_none, HT.sIx_nat, List.drop_zero, Nat.sub_zero]
      congr 1
      lia
    have c2 : cutV xs (some (((i + 1 : Nat)) : Int)) none = xs.drop (i + 1) := cut_from (by lia)
    refine ⟨_, (pss_cons (ps_set (i := 3) scLHeap.nd rfl (Or.inl rfl) (pe_ix ix_tup (pv 0) pe_int (fun _ _ => rfl)))
      (pss_one (ps_ret (pe_tup (pa_cons (pe_ix ix_tup (pv 0) pe_int (fun _ _ => rfl)) (pa_cons (pe_op op_catA (pe_op op_catA (pe_slice sl_tup (pv 3) po_none (po_some (pv 1))) (pe_tup (pa_cons (pv 2) pa_nil))) (pe_slice sl_tup (pv 3) (po_some (pe_op op_add (pv 1) pe_int)) po_none)) (pa_cons (pe_ix ix_tup (pv 0) pe_int (fun _ _ => rfl)) pa_nil))))))), ?_⟩
    refine ⟨_, rfl, c, _, _, _, rfl, rfl, SqT.of ea, at1, ?_⟩
    refine ⟨_, rfl, c, _, _, _, rfl, rfl, SqT.of ea, at0, _, rfl, _, rfl, _, rfl, hb, _, rfl, SqT.of eb, ?_, fun p1 hp1 => ?_⟩
    · rw [HT.sIx_none, HT.sIx_nat]
      lia
    rw [c1]
    have s2 : Same H (upd H p1 (.tup (xs.take i))) := Same.new hp1
    have e2 : (upd H p1 (.tup (xs.take i))) p1 = some (.tup (xs.take i)) := upd_same
    generalize (upd H p1 (.tup (xs.take i))) = H2 at s2 e2 ⊢
    refine ⟨_, rfl, by show 1 ≤ sizeLine; lia, fun p2 hp2 => ?_⟩
    have s3 : Same H2 (upd H2 p2 (.tup [a])) := Same.new hp2
    have e3 : (upd H2 p2 (.tup [a])) p2 = some (.tup [a]) := upd_same
    generalize (upd H2 p2 (.tup [a])) = H3 at s3 e3 ⊢
    refine catA_any (s3 _ _ e2) e3 (by rw [List.length_take]; show _ + 1 ≤ _; lia) fun p3 H4 s4 e4 => ?_
    have s14 := s2.trans (s3.trans s4)
    refine ⟨_, rfl, _, rfl, _, _, rfl, rfl, _, rfl, hb, _, rfl, SqT.of (s14 _ _ eb), ?_, fun p4 hp4 => ?_⟩
    · rw [show ((i : Int) + 1) = ((i + 1 : Nat) : Int) from rfl, HT.sIx_nat]
      lia
    rw [show ((i : Int) + 1) = ((i + 1 : Nat) : Int) from rfl, c2]
    have s5 : Same H4 (upd H4 p4 (.tup (xs.drop (i + 1)))) := Same.new hp4
    refine catA_any (s5 _ _ e4) upd_same (by rw [List.length_append, List.length_take, List.length_drop]; show _ + 1 + _ ≤ _; lia) fun t H6 s6 e6 => ?_
    have s16 := s14.trans (s5.trans s6)
    refine ⟨_, rfl, c, _, _, _, rfl, rfl, SqT.of (s16 _ _ ea), at2, by show 3 ≤ sizeLine; lia, fun tw htw => ?_⟩
    have s7 : Same H6 (upd H6 tw (.tup [v0, .ref t, .ref cl])) := Same.new htw
    have sA := s16.trans s7
    refine q (.ref tw) _ sA (whole upd_same (sA.rd r0) (s7 _ _ e6) ?_ (sA _ _ ec) (sA.rds rc))
    have e : xs.take i ++ [a] ++ xs.drop (i + 1) = xs.set i a := by
      rw [List.set_eq_take_append_cons_drop, if_pos (by lia), List.append_assoc]
      rfl
    rw [e]
    show RdVs _ (xs.set i a) ((W.heaps.set i hq).map dH)
    rw [List.map_set]
    exact rds_set i (sA.rds rb) (sA.rd ra)
end
end K07
namespace K07
open PySem L2 Tx Rk PyProof.Rows PySem.SeqAt
open PySem.PyData (strOk)
section
variable {P : Program} {w : World} {K : PySem.W.Frag} {mg : Str → Option Value} {base : Heap}
theorem ok_llaid {f f1 : Addr} {fd d1 : FuncData} (F : Fun K "_law_laid" "_law_laid" sLLaid f fd) (D_l_heap : Df K mg "_law_heap" sLHeap pLHeap f1 d1) (G_l_heap : FnOk P w K mg base CX0 1 f1 d1 pLHeap spLHeap) : FnOk P w K mg base CX0 2 f fd pLLaid spLLaid := by
  refine F.ok scLLaid (fun vs H Q E h => ?_) (fun cdv A outer s H vs Q E hr1 h => ?_)
  · obtain ⟨v, W, i, t, rfl, _⟩ := h
    rfl
  · obtain ⟨v, W, i, t, rfl, rv, hi, hx, hl, hh, q⟩ := h
    have hsl : sizeLine = 16777216 := sizeLine_eq
    have rv' := rv
    obtain ⟨c, v0, hb, cl, xs, ys, rfl, ea, r0, eb, rb, ec, rc⟩ := parts rv
    have hv0 := hand_at r0
    subst hv0
    have hxl := rb.length
    rw [List.length_map] at hxl
    have at0' : atI [oV W.hand, V.ref hb, V.ref cl] ((0 : Nat) : Int) = some (.str t) := by
      rw [hh]
      exact atI_nat rfl
    have at1 : atI [oV W.hand, V.ref hb, V.ref cl] ((1 : Nat) : Int) = some (.ref hb) := atI_nat rfl
    have hit : W.heaps[i]? = some (W.heaps.getD i []) := by
      (rw [List.getD_eq_getElem?_getD, List.getElem?_eq_getElem hi])
      rfl
    obtain ⟨y, hy, ry⟩ : ∃ y, xs[i]? = some y ∧ RdV H y (dH (W.heaps.getD i [])) := by
      have hxi : xs[i]? = some (xs[i]'(by lia)) := List.getElem?_eq_getElem (by lia)
      obtain ⟨d, hd, rd⟩ := rb.get hxi
      rw [List.getElem?_map, hit] at hd
      have hd' : dH (W.heaps.getD i []) = d := Option.some.inj hd
      subst hd'
      exact ⟨_, hxi, rd⟩
    unfold dH at ry
    cases ry with
    | tup eh rh =>
      have hys := rds_str rh
      subst hys
      refine ⟨_, (pss_cons (ps_set (i := 2) scLLaid.nd rfl (Or.inl rfl) (pe_call G_l_heap hr1 (by rfl) D_l_heap.m D_l_heap.F.kp D_l_heap.b .nil pass0 (pa_cons (pv 0) (pa_cons (pv 1) (pa_cons (pe_op op_catA (pe_ix ix_tup (pe_ix ix_tup (pv 0) pe_int (fun _ _ => rfl)) (pv 1) (fun _ _ => rfl)) (pe_tup (pa_cons (pe_ix ix_tup (pv 0) pe_int (fun _ _ => rfl)) pa_nil))) pa_nil)))))
      (pss_one (ps_ret (pe_tup (pa_cons pe_non (pa_cons (pe_ix ix_tup (pv 2) pe_int (fun _ _ => rfl)) (pa_cons (pe_ix ix_tup (pv 2) pe_int (fun _ _ => rfl)) pa_nil))))))), ?_⟩
      refine ⟨_, rfl, _, rfl, _, rfl, c, _, _, _, rfl, rfl, SqT.of ea, at1, _, rfl, hb, _, _, _, rfl, rfl, SqT.of eb, atI_nat hy, ?_⟩
      refine ⟨_, rfl, c, _, _, _, rfl, rfl, SqT.of ea, at0', by show 1 ≤ sizeLine; lia, fun p2 hp2 => ?_⟩
      have s2 : Same H (upd H p2 (.tup [V.str t])) := Same.new hp2
      have e2 : (upd H p2 (.tup [V.str t])) p2 = some (.tup [V.str t]) := upd_same
      generalize (upd H p2 (.tup [V.str t])) = H2 at s2 e2 ⊢
      refine catA_any (s2 _ _ eh) e2 (by rw [List.length_map]; show _ + 1 ≤ _; lia) fun p3 H3 s3 e3 => ?_
      have s13 := s2.trans s3
      refine ⟨_, W, i, .ref p3, W.heaps.getD i [] ++ [t], rfl, s13.rd rv', .tup e3 ?_, hi, hx, fun v' H4 s4 r4 => ?_⟩
      · rw [show (W.heaps.getD i []).map V.str ++ [V.str t] = (W.heaps.getD i [] ++ [t]).map V.str by simp]
        exact RdVs.strs _
      obtain ⟨c', u0, hb', cl', xs', ys', rfl, ea', r0', eb', rb', ec', rc'⟩ := parts r4
      have b1 : atI [u0, V.ref hb', V.ref cl'] ((1 : Nat) : Int) = some (.ref hb') := atI_nat rfl
      have b2 : atI [u0, V.ref hb', V.ref cl'] ((2 : Nat) : Int) = some (.ref cl') := atI_nat rfl
      refine ⟨_, rfl, c', _, _, _, rfl, rfl, SqT.of ea', b1, _, rfl, c', _, _, _, rfl, rfl, SqT.of ea', b2, by show 3 ≤ sizeLine; lia, fun tw htw => ?_⟩
      have s5 : Same H4 (upd H4 tw (.tup [V.non, .ref hb', .ref cl'])) := Same.new htw
      exact q (.ref tw) _ ((s13.trans s4).trans s5) (whole upd_same .non (s5 _ _ eb') (s5.rds rb') (s5 _ _ ec') (s5.rds rc'))
end
end K07
namespace K07
open PySem L2 Tx Rk PyProof.Rows PySem.SeqAt
open PySem.PyData (strOk)
section
variable {P : Program} {w : World} {K : PySem.W.Frag} {mg : Str → Option Value} {base : Heap}
theorem ok_ltip {f f1 : Addr} {fd d1 : FuncData} (F : Fun K "_law_tip" "_law_tip" sLTip f fd) (T : Bl mg) (D_l_heap : Df K mg "_law_heap" sLHeap pLHeap f1 d1) (G_l_heap : FnOk P w K mg base CX0 1 f1 d1 pLHeap spLHeap) : FnOk P w K mg base CX0 2 f fd pLTip spLTip := by
  refine F.ok scLTip (fun vs H Q E h => ?_) (fun cdv A outer s H vs Q E hr1 h => ?_)
  · obtain ⟨rs, v, W, i, p, hp, l, j, pj, hq, lq, rfl, _⟩ := h
    rfl
  · obtain ⟨rs, v, W, i, p, hp, l, j, pj, hq, lq, rfl, rv, pt, pq, hij, hh, q⟩ := h
    have hsl : sizeLine = 16777216 := sizeLine_eq
    have hlen := pt.len
    have hlenq := pq.len
    have hif := pt.few
    have rv' := rv
    obtain ⟨c, v0, hb, cl, xs, ys, rfl, ea, r0, eb, rb, ec, rc⟩ := parts rv
    have hys := rds_str rc
    subst hys
    have w1 : atI [v0, V.ref hb, V.ref cl] ((1 : Nat) : Int) = some (.ref hb) := atI_nat rfl
    have w2 : atI [v0, V.ref hb, V.ref cl] ((2 : Nat) : Int) = some (.ref cl) := atI_nat rfl
    obtain ⟨ti, hyi, eti⟩ := heap_tup rb pt.he
    obtain ⟨tj, hyj, etj⟩ := heap_tup rb pq.he
    have hih := (List.getElem?_eq_some_iff.mp pt.he).1
    have hjh := (List.getElem?_eq_some_iff.mp pq.he).1
    have elj : (W.lids.map V.str)[j]? = some (.str lq) := by rw [List.getElem?_map, pq.li]; rfl
    have hlm : (hp.map V.str).length = hp.length := List.length_map ..
    unfold tip0 at q
    refine ⟨_, (pss_cons (ps_if (PW.pt (pw_or (pt_cmpR op_ne (pe_ix ix_tup (pe_ix ix_tup (pv 0) pe_int (fun _ _ => rfl)) (pv 2) (fun _ _ => rfl)) pe_str (nomark _)) (pw_or1 (pt_cmpR op_eq (pv 1) (pv 2) (nomark _))))) (pss_one (ps_ret (pe_lst pa_nil))) pss_nil)
      (pss_cons (ps_set (i := 3) scLTip.nd rfl (Or.inr rfl) (pe_ix ix_tup (pe_ix ix_tup (pv 0) pe_int (fun _ _ => rfl)) (pv 1) (fun _ _ => rfl)))
      (pss_cons (ps_set (i := 4) scLTip.nd rfl (Or.inl rfl) (pe_callTy call_tuple_of (by rfl) T.tuple bt_tuple (pa_cons (pe_lc (N := ["_law_k", "_law_heap_here"]) (sc := defScope sLTip) (own := ["_law_k"]) (fr := ["_law_heap_here"]) (js := [3]) ⟨rfl, rfl, rfl, rfl, by decide +kernel, by decide +kernel, by decide +kernel, rfl, by decide +kernel⟩ rfl (pi_range1 (by rfl) T.range (pa_cons (pe_callB call_len (by rfl) T.len PySem.boot_len (pa_cons (pv 3) pa_nil)) pa_nil)) (fun _ _ _ _ => pg_name (i := 0) (show List.Nodup (["_law_k", "_law_heap_here"] : List Str) by decide +kernel) rfl (Or.inl rfl)) (fun _ _ _ _ => pif_nil) (fun _ _ _ _ => (pe_ix (ix_tupK K rfl) (pv 1) (pe_op op_sub (pe_op op_sub (pe_callB (call_lenK K rfl) (by rfl) T.len PySem.boot_len (pa_cons (pv 1) pa_nil)) pe_int) (pv 0)) (fun _ _ => rfl)))) pa_nil)))
      (pss_one (ps_ret (pe_lst (pa_cons (pe_call G_l_heap hr1 (by rfl) D_l_heap.m D_l_heap.F.kp D_l_heap.b .nil pass0 (pa_cons (pe_call G_l_heap hr1 (by rfl) D_l_heap.m D_l_heap.F.kp D_l_heap.b .nil pass0 (pa_cons (pv 0) (pa_cons (pv 2) (pa_cons (pe_op op_catA (pe_ix ix_tup (pe_ix ix_tup (pv 0) pe_int (fun _ _ => rfl)) (pv 2) (fun _ _ => rfl)) (pv 4)) pa_nil)))) (pa_cons (pv 1) (pa_cons (pe_tup pa_nil) pa_nil)))) pa_nil))))))), ?_⟩
    refine ⟨_, rfl, c, _, _, _, rfl, rfl, SqT.of ea, w2, _, rfl, cl, _, _, _, rfl, rfl, SqT.of ec, atI_nat elj, rfl, _, rfl, ?_⟩
    by_cases hl : lq = "open"
    · rw [if_pos hl] at q
      refine iteNS' hl ?_
      refine ⟨_, rfl, _, rfl, rfl, _, rfl, ?_⟩
      refine ite2 (fun z => ?_) (fun _ => ?_)
      · exfalso
        have := V.int.inj (of_decide_eq_true z)
        lia
      refine ⟨_, rfl, c, _, _, _, rfl, rfl, SqT.of ea, w1, _, rfl, hb, _, _, _, rfl, rfl, SqT.of eb, atI_nat hyi, ?_⟩
      refine ⟨_, rfl, _, _, rfl, .inr ⟨_, SqT.of eti, rfl⟩, _, rfl, by lia, by lia, fun D hD => ?_⟩
      refine lcJ (n := hp.length) (fun k ys H4 => Same H H4 ∧ H4 D = some (.lst ys) ∧ ys = (hp.reverse.take k).map V.str) ⟨Same.new hD, upd_same, rfl⟩ (fun k ys H4 hk _ => by show k < (((hp.map V.str).length : Nat) : Int).toNat; lia) (fun ys H4 _ => by show (((hp.map V.str).length : Nat) : Int).toNat ≤ hp.length; lia) ?_ ?_
      · rintro k ys H4 y H5 hk ⟨s4, e4, y0⟩ ⟨rfl, rfl⟩
        subst y0
        refine lc_yes ?_
        have hkr : k < hp.reverse.length := by rw [List.length_reverse]; exact hk
        have ax : atI (hp.map V.str) (((hp.map V.str).length : Int) - 1 - (0 + (k : Int))) = some (.str hp.reverse[k]) := by
          rw [show ((hp.map V.str).length : Int) - 1 - (0 + (k : Int)) = ((hp.length - 1 - k : Nat) : Int) by lia]
          refine atI_nat ?_
          rw [List.getElem?_map, List.getElem?_eq_getElem (by lia), List.getElem_reverse]
          rfl
        refine ⟨_, rfl, _, rfl, _, _, rfl, .inr ⟨_, SqT.of (s4 _ _ eti), rfl⟩, _, _, rfl, rfl, _, rfl, _, _, rfl, rfl, ti, _, _, _, rfl, rfl, SqT.of (s4 _ _ eti), ax, ?_⟩
        refine ⟨_, e4, by rw [List.length_map, List.length_take]; lia, s4.put hD, upd_same, ?_⟩
        rw [List.take_succ_eq_append_getElem hkr, List.map_append]
        rfl
      · rintro ys H4 ⟨s4, e4, y0⟩
        rw [List.take_of_length_le (by rw [List.length_reverse]; exact Nat.le_refl _)] at y0
        subst y0
        refine ⟨D, _, rfl, .inl ⟨SqL.of e4, fun p2 hp2 => ?_⟩⟩
        have s5 : Same H4 (upd H4 p2 (.tup (hp.reverse.map V.str))) := Same.new hp2
        have e5 : (upd H4 p2 (.tup (hp.reverse.map V.str))) p2 = some (.tup (hp.reverse.map V.str)) := upd_same
        generalize (upd H4 p2 (.tup (hp.reverse.map V.str))) = H5 at s5 e5 ⊢
        have s15 := s4.trans s5
        refine ⟨_, rfl, _, rfl, _, rfl, c, _, _, _, rfl, rfl, SqT.of (s15 _ _ ea), w1, _, rfl, hb, _, _, _, rfl, rfl, SqT.of (s15 _ _ eb), atI_nat hyj, _, rfl, ?_⟩
        refine catA_any (s15 _ _ etj) e5 (by rw [List.length_map, List.length_map, List.length_reverse]; lia) fun p3 H6 s6 e6 => ?_
        have s16 := s15.trans s6
        refine ⟨_, W, j, .ref p3, hq ++ hp.reverse, rfl, s16.rd rv', .tup e6 ?_, hjh, hif, fun v' H7 s7 r7 => ?_⟩
        · rw [← List.map_append]
          exact RdVs.strs _
        have s17 := s16.trans s7
        refine ⟨_, rfl, Nat.zero_le _, fun p4 hp4 => ?_⟩
        have s8 : Same H7 (upd H7 p4 (.tup [])) := Same.new hp4
        refine ⟨v', ⟨W.hand, W.heaps.set j (hq ++ hp.reverse), W.lids⟩, i, .ref p4, [], rfl, s8.rd r7, .tup upd_same .nil, by show i < (W.heaps.set j _).length; rw [List.length_set]; exact hih, by show (W.heaps.set j _).length ≤ 100; rw [List.length_set]; exact hif, fun v2 H9 s9 r9 => ⟨by show 1 ≤ sizeLine; lia, fun lw hlw => ?_⟩⟩
        refine q lw [v2] _ (((s17.trans s8).trans s9).trans (Same.new hlw)) upd_same (.cons ((Same.new hlw).rd ?_) .nil)
        rw [← hh, List.set_comm _ _ hij]
        exact r9
    · rw [if_neg hl] at q
      refine iteNN hl (iteT ?_)
      exact ⟨Nat.zero_le _, fun l' hl' => q l' [] _ (Same.new hl') upd_same .nil⟩
end
end K07
namespace K07
open PySem L2 Tx Rk PyProof.Rows PySem.SeqAt
open PySem.PyData (strOk)
section
variable {P : Program} {w : World} {K : PySem.W.Frag} {mg : Str → Option Value} {base : Heap}
theorem ok_lmoves {f f1 f2 f3 : Addr} {fd d1 d2 d3 : FuncData} (F : Fun K "_law_moves" "_law_moves" sLMoves f fd) (T : Bl mg) (D_l_heap : Df K mg "_law_heap" sLHeap pLHeap f1 d1) (G_l_heap : FnOk P w K mg base CX0 1 f1 d1 pLHeap spLHeap) (D_l_laid : Df K mg "_law_laid" sLLaid pLLaid f2 d2) (G_l_laid : FnOk P w K mg base CX0 2 f2 d2 pLLaid spLLaid) (D_l_tip : Df K mg "_law_tip" sLTip pLTip f3 d3) (G_l_tip : FnOk P w K mg base CX0 2 f3 d3 pLTip spLTip) : FnOk P w K mg base CX0 3 f fd pLMoves spLMoves := by
  refine F.ok scLMoves (fun vs H Q E h => ?_) (fun cdv A outer s H vs Q E hr2 h => ?_)
  · obtain ⟨rs, v, W, w, i, p, hp, l, j, pj, hq, lq, rfl, _⟩ := h
    rfl
  · obtain ⟨rs, v, W, w, i, p, hp, l, j, pj, hq, lq, rfl, rv, pt, pq, hij, hw, fh, q⟩ := h
    have hr1 : Room 1 _ := hr2.mono (by decide)
    have hsl : sizeLine = 16777216 := sizeLine_eq
    have hlen := pt.len
    have hif := pt.few
    have rv' := rv
    obtain ⟨c, v0, hb, cl, xs, ys, rfl, ea, r0, eb, rb, ec, rc⟩ := parts rv
    have hv0 := hand_at r0
    subst hv0
    have hys := rds_str rc
    subst hys
    have w0 : atI [oV W.hand, V.ref hb, V.ref cl] ((0 : Nat) : Int) = some (oV W.hand) := atI_nat rfl
    have w1 : atI [oV W.hand, V.ref hb, V.ref cl] ((1 : Nat) : Int) = some (.ref hb) := atI_nat rfl
    have w2 : atI [oV W.hand, V.ref hb, V.ref cl] ((2 : Nat) : Int) = some (.ref cl) := atI_nat rfl
    obtain ⟨ti, hyi, eti⟩ := heap_tup rb pt.he
    have hih := (List.getElem?_eq_some_iff.mp pt.he).1
    have eli : (W.lids.map V.str)[i]? = some (.str l) := by rw [List.getElem?_map, pt.li]; rfl
    have hlm : (hp.map V.str).length = hp.length := List.length_map ..
    have none' : allF w W i hp l j hq lq = [] → ∀ l' : Addr, H l' = none → Q (.ref l') (upd H l' (.lst [])) := fun e l' hl' => q l' [] _ (Same.new hl') upd_same (by rw [e]; exact .nil)
    refine ⟨_, (pss_cons (ps_set (i := 4) scLMoves.nd rfl (Or.inl rfl) (pe_ix ix_tup (pe_ix ix_tup (pv 3) pe_int (fun _ _ => rfl)) (pv 1) (fun _ _ => rfl)))
      (pss_cons (ps_if (PW.pt (pw_and (pt_cmpR op_eq (pv 0) pe_str (nomark _)) (pw_and (pt_cmpR op_isN (pe_ix ix_tup (pv 3) pe_int (fun _ _ => rfl)) pe_non (nomark _)) (pw_and (pt_cmpR op_ne (pe_ix ix_tup (pe_ix ix_tup (pv 3) pe_int (fun _ _ => rfl)) (pv 1) (fun _ _ => rfl)) pe_str (nomark _)) (pw_and1 (pt_cmpR op_gt (pe_callB call_len (by rfl) T.len PySem.boot_len (pa_cons (pv 4) pa_nil)) pe_int (nomark _))))))) (pss_one (ps_ret (pe_lst (pa_cons (pv 3) (pa_cons (pe_call G_l_heap hr1 (by rfl) D_l_heap.m D_l_heap.F.kp D_l_heap.b .nil pass0 (pa_cons (pv 3) (pa_cons (pv 1) (pa_cons (pe_op op_catA (pe_slice sl_tup (pv 4) po_none (po_some (pe_un un_neg pe_int))) (pe_tup (pa_cons (pe_ix ix_tup (pv 4) (pe_un un_neg pe_int) (fun _ _ => rfl)) (pa_cons (pe_ix ix_tup (pv 4) (pe_un un_neg pe_int) (fun _ _ => rfl)) pa_nil)))) pa_nil)))) pa_nil))))) pss_nil)
      (pss_cons (ps_if (pt_cmpR op_ne (pe_ix ix_tup (pe_ix ix_tup (pv 3) pe_int (fun _ _ => rfl)) (pv 1) (fun _ _ => rfl)) pe_str (nomark _)) (pss_one (ps_ret (pe_lst pa_nil))) pss_nil)
      (pss_cons (ps_if (PW.pt (pw_and (pt_cmpR op_eq (pv 0) pe_str (nomark _)) (pw_and (pt_cmpR op_isN (pe_ix ix_tup (pv 3) pe_int (fun _ _ => rfl)) pe_non (nomark _)) (pw_and1 (pt_cmpR op_gt (pe_callB call_len (by rfl) T.len PySem.boot_len (pa_cons (pv 4) pa_nil)) pe_int (nomark _)))))) (pss_cons (ps_set (i := 5) scLMoves.nd rfl (Or.inl rfl) (pe_call G_l_heap hr1 (by rfl) D_l_heap.m D_l_heap.F.kp D_l_heap.b .nil pass0 (pa_cons (pv 3) (pa_cons (pv 1) (pa_cons (pe_slice sl_tup (pv 4) po_none (po_some (pe_un un_neg pe_int))) pa_nil)))))
      (pss_one (ps_ret (pe_lst (pa_cons (pe_tup (pa_cons (pe_ix ix_tup (pv 4) (pe_un un_neg pe_int) (fun _ _ => rfl)) (pa_cons (pe_ix ix_tup (pv 5) pe_int (fun _ _ => rfl)) (pa_cons (pe_ix ix_tup (pv 5) pe_int (fun _ _ => rfl)) pa_nil)))) pa_nil))))) pss_nil)
      (pss_cons (ps_if (PW.pt (pw_and (pt_cmpR op_eq (pv 0) pe_str (nomark _)) (pw_and (pt_cmpR op_isN (pe_ix ix_tup (pv 3) pe_int (fun _ _ => rfl)) pe_non (nomark _)) (pw_and1 (pt_cmpR op_gt (pe_callB call_len (by rfl) T.len PySem.boot_len (pa_cons (pv 4) pa_nil)) pe_int (nomark _)))))) (pss_one (ps_ret (pe_call G_l_tip hr2 (by rfl) D_l_tip.m D_l_tip.F.kp D_l_tip.b .nil pass0 (pa_cons (pv 3) (pa_cons (pv 1) (pa_cons (pv 2) pa_nil)))))) pss_nil)
      (pss_cons (ps_if (PW.pt (pw_and (pt_cmpR op_eq (pv 0) pe_str (nomark _)) (pw_and1 (pt_cmpR op_notN (pe_ix ix_tup (pv 3) pe_int (fun _ _ => rfl)) pe_non (nomark _))))) (pss_one (ps_ret (pe_lst (pa_cons (pe_call G_l_laid hr2 (by rfl) D_l_laid.m D_l_laid.F.kp D_l_laid.b .nil pass0 (pa_cons (pv 3) (pa_cons (pv 1) pa_nil))) pa_nil)))) pss_nil)
      (pss_cons (ps_if (PW.pt (pw_and (pt_cmpR op_eq (pv 0) pe_str (nomark _)) (pw_and1 (pt_cmpR op_notN (pe_ix ix_tup (pv 3) pe_int (fun _ _ => rfl)) pe_non (nomark _))))) (pss_cons (ps_if (pt_cmpR op_eq (pv 1) pe_int (nomark _)) (pss_one (ps_ret (pe_lst (pa_cons (pe_call G_l_laid hr2 (by rfl) D_l_laid.m D_l_laid.F.kp D_l_laid.b .nil pass0 (pa_cons (pv 3) (pa_cons pe_int pa_nil))) pa_nil)))) pss_nil)
      (pss_one (ps_ret (pe_lst (pa_cons (pe_call G_l_laid hr2 (by rfl) D_l_laid.m D_l_laid.F.kp D_l_laid.b .nil pass0 (pa_cons (pv 3) (pa_cons (pv 1) pa_nil))) (pa_cons (pe_call G_l_laid hr2 (by rfl) D_l_laid.m D_l_laid.F.kp D_l_laid.b .nil pass0 (pa_cons (pv 3) (pa_cons pe_int pa_nil))) pa_nil)))))) pss_nil)
      (pss_one (ps_ret (pe_lst pa_nil)))))))))), ?_⟩
    refine ⟨_, rfl, c, _, _, _, rfl, rfl, SqT.of ea, w1, _, rfl, hb, _, _, _, rfl, rfl, SqT.of eb, atI_nat hyi, ?_⟩
    dsimp only
    -- shake
    refine seq_gen (fun σ' H' => σ' = [some (.str w), some (.int (i : Int)), some (.int (j : Int)), some (.ref c), some (.ref ti), none] ∧ H = H' ∧ (w = "shake" → l ≠ "open" → allF w W i hp l j hq lq = [])) ?_ (fun N hN => ?_)
    rotate_left
    · refine ⟨_, rfl, rfl, _, rfl, ?_⟩
      by_cases hs : w = "shake"
      · refine iteS hs ?_
        refine ⟨_, rfl, c, _, _, _, rfl, rfl, SqT.of ea, w0, rfl, _, rfl, ?_⟩
        cases hh : W.hand with
        | some t => exact iteF (iteF (hN _ _ ⟨rfl, rfl, fun _ _ => by rw [allF_shake hs]; unfold shakeF; rw [if_neg (fun z => by rw [hh] at z; cases z.1)]⟩))
        | none =>
          refine iteT ?_
          refine ⟨_, rfl, c, _, _, _, rfl, rfl, SqT.of ea, w2, _, rfl, cl, _, _, _, rfl, rfl, SqT.of ec, atI_nat eli, rfl, _, rfl, ?_⟩
          by_cases hl : l = "open"
          · exact iteNS' hl (iteF (hN _ _ ⟨rfl, rfl, fun _ z => absurd hl z⟩))
          refine iteNN hl ?_
          refine ⟨_, rfl, _, _, rfl, .inr ⟨_, SqT.of eti, rfl⟩, _, _, rfl, rfl, _, rfl, ?_⟩
          refine ite2 (fun z => ?_) (fun z => ?_)
          · have h2 : 2 ≤ hp.length := by
              have := of_decide_eq_true z
              lia
            obtain ⟨r, b, a, hr⟩ := two_last h2
            subst hr
            have em : (r ++ [b, a]).map V.str = r.map V.str ++ [V.str b, V.str a] := by simp
            have em' : (r ++ [b, a]).map V.str = (r.map V.str ++ [V.str b]) ++ [V.str a] := by simp
            have cut : cutV ((r ++ [b, a]).map V.str) none (some (-2)) = r.map V.str := by
              unfold cutV
              rw [HT.sIx_none, List.drop_zero, Nat.sub_zero, sIx_m2, em]
              have e : (r.map V.str ++ [V.str b, V.str a]).length - 2 = (r.map V.str).length := by simp
              rw [e, List.take_left]
            have hrl : (r ++ [b, a]).length = r.length + 2 := by simp
            refine ⟨_, rfl, _, rfl, _, rfl, _, rfl, _, rfl, _, rfl, ti, _, rfl, SqT.of eti, ?_, fun p1 hp1 => ?_⟩
            · rw [HT.sIx_none, sIx_m2]
              lia
            rw [cut]
            have s3 : Same H (upd H p1 (.tup (r.map V.str))) := Same.new hp1
            have e3 : (upd H p1 (.tup (r.map V.str))) p1 = some (.tup (r.map V.str)) := upd_same
            generalize (upd H p1 (.tup (r.map V.str))) = H3 at s3 e3 ⊢
            have et3 := s3 _ _ eti
            have am1 : atI ((r ++ [b, a]).map V.str) (-1) = some (.str a) := by rw [em']; exact atI_last _ _
            have am2 : atI ((r ++ [b, a]).map V.str) (-2) = some (.str b) := by rw [em]; exact atI_two _ _ _
            refine ⟨_, rfl, _, rfl, ti, _, _, _, rfl, rfl, SqT.of et3, am1, _, rfl, _, rfl, ti, _, _, _, rfl, rfl, SqT.of et3, am2, by show 2 ≤ sizeLine; lia, fun p2 hp2 => ?_⟩
            have s4 : Same H3 (upd H3 p2 (.tup [V.str a, V.str b])) := Same.new hp2
            have e4 : (upd H3 p2 (.tup [V.str a, V.str b])) p2 = some (.tup [V.str a, V.str b]) := upd_same
            generalize (upd H3 p2 (.tup [V.str a, V.str b])) = H4 at s4 e4 ⊢
            refine catA_any (s4 _ _ e3) e4 (by rw [List.length_map]; show _ + 2 ≤ _; lia) fun p3 H5 s5 e5 => ?_
            have s15 := s3.trans (s4.trans s5)
            refine ⟨_, W, i, .ref p3, r ++ [a, b], rfl, s15.rd rv', .tup e5 ?_, hih, hif, fun v' H6 s6 r6 => ⟨by show 2 ≤ sizeLine; lia, fun lw hlw => ?_⟩⟩
            · rw [show r.map V.str ++ [V.str a, V.str b] = (r ++ [a, b]).map V.str by simp]
              exact RdVs.strs _
            have s16 := s15.trans s6
            refine q lw [.ref c, v'] _ (s16.trans (Same.new hlw)) upd_same ?_
            rw [allF_shake hs]
            unfold shakeF
            rw [if_pos ⟨hh, hl, h2⟩, sw_two]
            rw [hh] at r6
            exact .cons ((s16.trans (Same.new hlw)).rd rv') (.cons ((Same.new hlw).rd r6) .nil)
          · refine hN _ _ ⟨rfl, rfl, fun _ _ => ?_⟩
            rw [allF_shake hs]
            unfold shakeF
            rw [if_neg (fun y => z (decide_eq_true (by lia)))]
      · exact iteN hs (iteF (hN _ _ ⟨rfl, rfl, fun z => absurd z hs⟩))
    rintro _ _ ⟨rfl, rfl, n1⟩
    -- not open
    refine seq_gen (fun σ' H' => σ' = [some (.str w), some (.int (i : Int)), some (.int (j : Int)), some (.ref c), some (.ref ti), none] ∧ H = H' ∧ l = "open") ?_ (fun N hN => ?_)
    rotate_left
    · refine ⟨_, rfl, c, _, _, _, rfl, rfl, SqT.of ea, w2, _, rfl, cl, _, _, _, rfl, rfl, SqT.of ec, atI_nat eli, rfl, _, rfl, ?_⟩
      by_cases hl : l = "open"
      · exact iteNS' hl (hN _ _ ⟨rfl, rfl, hl⟩)
      refine iteNN hl ?_
      refine ⟨Nat.zero_le _, none' ?_⟩
      rcases movW_cases hw with e | e | e | e | e
      · rw [allF_take e]
        unfold takeF
        rw [if_neg (fun z => hl z.2.1)]
      · rw [allF_put e, put_none (.inr hl)]
      · rw [allF_toss e, toss_none (.inr hl)]
      · rw [allF_tip e]
        unfold tipF
        rw [if_neg (fun z => hl z.2.1)]
      · exact n1 e hl
    rintro _ _ ⟨rfl, rfl, hl⟩
    -- take
    refine seq_gen (fun σ' H' => σ' = [some (.str w), some (.int (i : Int)), some (.int (j : Int)), some (.ref c), some (.ref ti), none] ∧ H = H' ∧ (w = "take" → allF w W i hp l j hq lq = [])) ?_ (fun N hN => ?_)
    rotate_left
    · refine ⟨_, rfl, rfl, _, rfl, ?_⟩
      by_cases hs : w = "take"
      · refine iteS hs ?_
        refine ⟨_, rfl, c, _, _, _, rfl, rfl, SqT.of ea, w0, rfl, _, rfl, ?_⟩
        cases hh : W.hand with
        | some t => exact iteF (iteF (hN _ _ ⟨rfl, rfl, fun _ => by rw [allF_take hs]; unfold takeF; rw [if_neg (fun z => by rw [hh] at z; cases z.1)]⟩))
        | none =>
          refine iteT ?_
          refine ⟨_, rfl, _, _, rfl, .inr ⟨_, SqT.of eti, rfl⟩, _, _, rfl, rfl, _, rfl, ?_⟩
          refine ite2 (fun z => ?_) (fun z => ?_)
          · have hpos : 0 < hp.length := by
              have := of_decide_eq_true z
              lia
            have hne : hp ≠ [] := List.length_pos_iff.mp hpos
            obtain ⟨y, hy⟩ : ∃ y, hp.getLast? = some y := by
              cases hg : hp.getLast? with
              | none => exact absurd (List.getLast?_eq_none_iff.mp hg) hne
              | some y => exact ⟨y, rfl⟩
            have cut : cutV (hp.map V.str) none (some (-1)) = (hp.dropLast).map V.str := by
              unfold cutV
              rw [HT.sIx_none, List.drop_zero, Nat.sub_zero, sIx_m1, hlm, ← List.map_take, List.dropLast_eq_take]
            refine ⟨_, rfl, _, rfl, _, rfl, _, rfl, _, rfl, ti, _, rfl, SqT.of eti, ?_, fun p1 hp1 => ?_⟩
            · rw [HT.sIx_none, sIx_m1]
              lia
            rw [cut]
            have s3 : Same H (upd H p1 (.tup ((hp.dropLast).map V.str))) := Same.new hp1
            refine ⟨_, W, i, .ref p1, hp.dropLast, rfl, s3.rd rv', .tup upd_same (RdVs.strs _), hih, hif, fun v' H6 s6 r6 => ?_⟩
            have s16 := s3.trans s6
            obtain ⟨c', u0, hb', cl', xs', ys', rfl, ea', r0', eb', rb', ec', rc'⟩ := parts r6
            have b1 : atI [u0, V.ref hb', V.ref cl'] ((1 : Nat) : Int) = some (.ref hb') := atI_nat rfl
            have b2 : atI [u0, V.ref hb', V.ref cl'] ((2 : Nat) : Int) = some (.ref cl') := atI_nat rfl
            refine ⟨_, rfl, _, rfl, ti, _, _, _, rfl, rfl, SqT.of (s16 _ _ eti), at_last (by rw [List.getLast?_map, hy]; rfl), _, rfl, c', _, _, _, rfl, rfl, SqT.of ea', b1, _, rfl, c', _, _, _, rfl, rfl, SqT.of ea', b2, by show 3 ≤ sizeLine; lia, fun tw htw => ⟨by show 1 ≤ sizeLine; lia, fun lw hlw => ?_⟩⟩
            have s7 : Same H6 (upd H6 tw (.tup [V.str y, .ref hb', .ref cl'])) := Same.new htw
            have s8 : Same (upd H6 tw (.tup [V.str y, .ref hb', .ref cl'])) (upd (upd H6 tw (.tup [V.str y, .ref hb', .ref cl'])) lw (.lst [V.ref tw])) := Same.new hlw
            have s78 := s7.trans s8
            refine q lw [.ref tw] _ (s16.trans s78) upd_same ?_
            rw [allF_take hs]
            unfold takeF
            rw [if_pos ⟨hh, hl, hne⟩, hy]
            exact .cons (whole (s8 _ _ upd_same) (.str y) (s78 _ _ eb') (s78.rds rb') (s78 _ _ ec') (s78.rds rc')) .nil
          · refine hN _ _ ⟨rfl, rfl, fun _ => ?_⟩
            rw [allF_take hs]
            unfold takeF
            rw [if_neg (fun y => z (decide_eq_true (by have := List.length_pos_iff.mpr y.2.2; lia)))]
      · exact iteN hs (iteF (hN _ _ ⟨rfl, rfl, fun z => absurd z hs⟩))
    rintro _ _ ⟨rfl, rfl, n2⟩
    -- tip
    refine seq_gen (fun σ' H' => σ' = [some (.str w), some (.int (i : Int)), some (.int (j : Int)), some (.ref c), some (.ref ti), none] ∧ H = H' ∧ (w = "tip" → allF w W i hp l j hq lq = [])) ?_ (fun N hN => ?_)
    rotate_left
    · refine ⟨_, rfl, rfl, _, rfl, ?_⟩
      by_cases hs : w = "tip"
      · refine iteS hs ?_
        refine ⟨_, rfl, c, _, _, _, rfl, rfl, SqT.of ea, w0, rfl, _, rfl, ?_⟩
        cases hh : W.hand with
        | some t => exact iteF (iteF (hN _ _ ⟨rfl, rfl, fun _ => by rw [allF_tip hs]; unfold tipF; rw [if_neg (fun z => by rw [hh] at z; cases z.1)]⟩))
        | none =>
          refine iteT ?_
          refine ⟨_, rfl, _, _, rfl, .inr ⟨_, SqT.of eti, rfl⟩, _, _, rfl, rfl, _, rfl, ?_⟩
          refine ite2 (fun z => ?_) (fun z => ?_)
          · have hne : hp ≠ [] := List.length_pos_iff.mp (by
              have := of_decide_eq_true z
              lia)
            refine ⟨_, rfl, _, rfl, _, rfl, rs, _, W, i, p, hp, l, j, pj, hq, lq, rfl, rv', pt, pq, hij hs, hh, fun lw us H6 s6 e6 r6 => q lw us H6 s6 e6 ?_⟩
            have e : allF w W i hp l j hq lq = tip0 W i hp j hq lq := by
              rw [allF_tip hs]
              unfold tipF tip0
              by_cases hlq : lq = "open"
              · rw [if_pos ⟨hh, hl, hlq, hne⟩, if_pos hlq]
              · rw [if_neg (fun y => hlq y.2.2.1), if_neg hlq]
            rw [e]
            exact r6
          · refine hN _ _ ⟨rfl, rfl, fun _ => ?_⟩
            rw [allF_tip hs]
            unfold tipF
            rw [if_neg (fun y => z (decide_eq_true (by have := List.length_pos_iff.mpr y.2.2.2; lia)))]
      · exact iteN hs (iteF (hN _ _ ⟨rfl, rfl, fun z => absurd z hs⟩))
    rintro _ _ ⟨rfl, rfl, n3⟩
    have lay : ∀ t, W.hand = some t → ∀ k : Nat, k < W.heaps.length → (W.heaps.getD k []).length ≤ 100 := fun t _ k hk => by
      rw [List.getD_eq_getElem?_getD, List.getElem?_eq_getElem hk]
      exact fh _ (List.getElem_mem hk)
    -- put
    refine seq_gen (fun σ' H' => σ' = [some (.str w), some (.int (i : Int)), some (.int (j : Int)), some (.ref c), some (.ref ti), none] ∧ H = H' ∧ (w = "put" → allF w W i hp l j hq lq = [])) ?_ (fun N hN => ?_)
    rotate_left
    · refine ⟨_, rfl, rfl, _, rfl, ?_⟩
      by_cases hs : w = "put"
      · refine iteS hs ?_
        refine ⟨_, rfl, c, _, _, _, rfl, rfl, SqT.of ea, w0, rfl, _, rfl, ?_⟩
        cases hh : W.hand with
        | none => exact iteF (hN _ _ ⟨rfl, rfl, fun _ => by rw [allF_put hs, put_none (.inl hh)]⟩)
        | some t =>
          refine iteT ?_
          refine ⟨_, rfl, _, rfl, _, W, i, t, rfl, rv', hih, hif, lay t hh i hih, hh, fun v' H6 s6 r6 => ⟨by show 1 ≤ sizeLine; lia, fun lw hlw => ?_⟩⟩
          refine q lw [v'] _ (s6.trans (Same.new hlw)) upd_same ?_
          rw [allF_put hs, put_some hh hl]
          exact .cons ((Same.new hlw).rd r6) .nil
      · exact iteN hs (iteF (hN _ _ ⟨rfl, rfl, fun z => absurd z hs⟩))
    rintro _ _ ⟨rfl, rfl, n4⟩
    -- toss
    refine seq_gen (fun σ' H' => σ' = [some (.str w), some (.int (i : Int)), some (.int (j : Int)), some (.ref c), some (.ref ti), none] ∧ H = H' ∧ (w = "toss" → allF w W i hp l j hq lq = [])) ?_ (fun N hN => ?_)
    rotate_left
    · refine ⟨_, rfl, rfl, _, rfl, ?_⟩
      by_cases hs : w = "toss"
      · refine iteS hs ?_
        refine ⟨_, rfl, c, _, _, _, rfl, rfl, SqT.of ea, w0, rfl, _, rfl, ?_⟩
        cases hh : W.hand with
        | none => exact iteF (hN _ _ ⟨rfl, rfl, fun _ => by rw [allF_toss hs, toss_none (.inl hh)]⟩)
        | some t =>
          refine iteT ?_
          have h0 : 0 < W.heaps.length := by lia
          have fin : ∀ ws : List V, ∀ H6 : Hp, Same H H6 → ∀ lw, H6 lw = none → RdVs H6 ws ((tossJ i).map fun k => dW (layF t W k)) → Q (.ref lw) (upd H6 lw (.lst ws)) := fun ws H6 s6 lw hlw r6 => by
            refine q lw ws _ (s6.trans (Same.new hlw)) upd_same ?_
            rw [allF_toss hs, toss_some hh hl, List.map_map]
            exact (Same.new hlw).rds r6
          refine ⟨_, rfl, rfl, _, rfl, ?_⟩
          refine ite2 (fun z => ?_) (fun z => ?_)
          · have hi0 : i = 0 := by
              have := V.int.inj (of_decide_eq_true z)
              lia
            refine ⟨_, rfl, _, W, 0, t, rfl, rv', h0, hif, lay t hh 0 h0, hh, fun v' H6 s6 r6 => ⟨by show 1 ≤ sizeLine; lia, fun lw hlw => fin [v'] H6 s6 lw hlw ?_⟩⟩
            unfold tossJ
            rw [if_pos hi0]
            exact .cons r6 .nil
          · have hi0 : i ≠ 0 := fun e => z (decide_eq_true (by rw [e]; rfl))
            refine ⟨_, rfl, _, rfl, _, W, i, t, rfl, rv', hih, hif, lay t hh i hih, hh, fun v' H6 s6 r6 => ?_⟩
            refine ⟨_, rfl, _, W, 0, t, rfl, s6.rd rv', h0, hif, lay t hh 0 h0, hh, fun v2 H7 s7 r7 => ⟨by show 2 ≤ sizeLine; lia, fun lw hlw => fin [v', v2] H7 (s6.trans s7) lw hlw ?_⟩⟩
            unfold tossJ
            rw [if_neg hi0]
            exact .cons (s7.rd r6) (.cons r7 .nil)
      · exact iteN hs (iteF (hN _ _ ⟨rfl, rfl, fun z => absurd z hs⟩))
    rintro _ _ ⟨rfl, rfl, n5⟩
    refine ⟨Nat.zero_le _, none' ?_⟩
    rcases movW_cases hw with e | e | e | e | e
    · exact n2 e
    · exact n4 e
    · exact n5 e
    · exact n3 e
    · rw [allF_shake e]
      unfold shakeF
      rw [if_neg (fun y => y.2.1 hl)]
end
end K07
namespace K07
open PySem L2 Tx Rk PyProof.Rows PySem.SeqAt
open PySem.PyData (strOk)
section
variable {P : Program} {w : World} {K : PySem.W.Frag} {mg : Str → Option Value} {base : Heap}
theorem ok_lline {f f1 : Addr} {fd d1 : FuncData} (F : Fun K "_law_line" "_law_line" sLLine f fd) (T : Bl mg) (D_l_pick : Df K mg "_law_pick" sPick pPick f1 d1) (G_l_pick : FnOk P w K mg base CX0 1 f1 d1 pPick (spPick K)) : FnOk P w K mg base CX0 2 f fd pLLine (spLLine K) := by
  refine F.ok scLLine (fun vs H Q E h => ?_) (fun cdv A outer s H vs Q E hr1 h => ?_)
  · obtain ⟨a, pp, ns, k, xs, rfl, _⟩ := h
    rfl
  · obtain ⟨a, pp, ns, k, xs, rfl, hS, hn, k0, k1, ep, x1, x6, q⟩ := h
    have hsl : sizeLine = 16777216 := sizeLine_eq
    have hxm : (xs.map V.str).length = xs.length := List.length_map ..
    refine ⟨_, (pss_cons (ps_set (i := 3) scLLine.nd rfl (Or.inl rfl) (pe_ix ix_list (pe_lst (pa_cons pe_str (pa_cons pe_str (pa_cons pe_str (pa_cons pe_str (pa_cons pe_str pa_nil)))))) (pe_call G_l_pick hr1 (by rfl) D_l_pick.m D_l_pick.F.kp D_l_pick.b .nil pass0 (pa_cons (pv 0) (pa_cons (pv 1) (pa_cons pe_int pa_nil)))) (fun _ _ => rfl)))
      (pss_cons (ps_set (i := 4) scLLine.nd rfl (Or.inl rfl) (pe_call G_l_pick hr1 (by rfl) D_l_pick.m D_l_pick.F.kp D_l_pick.b .nil pass0 (pa_cons (pv 0) (pa_cons (pe_op op_add (pv 1) pe_int) (pa_cons (pe_callB call_len (by rfl) T.len PySem.boot_len (pa_cons (pv 2) pa_nil)) pa_nil)))))
      (pss_cons (ps_if (PW.pt (pw_or (pt_cmpR op_ne (pv 3) pe_str (nomark _)) (pw_or1 (pt_cmpR op_eq (pe_callB call_len (by rfl) T.len PySem.boot_len (pa_cons (pv 2) pa_nil)) pe_int (nomark _))))) (pss_one (ps_ret (pe_lst (pa_cons (pe_ix ix_list (pe_lst (pa_cons pe_str (pa_cons (pv 3) pa_nil))) (pe_callTy call_int1 (by rfl) T.int bt_int (pa_cons (pe_cmpR op_ne (pv 3) pe_str (nomark _)) pa_nil)) (fun _ _ => rfl)) (pa_cons (pv 4) (pa_cons (pv 4) pa_nil)))))) pss_nil)
      (pss_one (ps_ret (pe_lst (pa_cons (pv 3) (pa_cons (pv 4) (pa_cons (pe_op op_mod (pe_op op_add (pe_op op_add (pv 4) pe_int) (pe_call G_l_pick hr1 (by rfl) D_l_pick.m D_l_pick.F.kp D_l_pick.b .nil pass0 (pa_cons (pv 0) (pa_cons (pe_op op_add (pv 1) pe_int) (pa_cons (pe_op op_sub (pe_callB call_len (by rfl) T.len PySem.boot_len (pa_cons (pv 2) pa_nil)) pe_int) pa_nil))))) (pe_callB call_len (by rfl) T.len PySem.boot_len (pa_cons (pv 2) pa_nil))) pa_nil))))))))), ?_⟩
    refine ⟨by show 5 ≤ sizeLine; lia, fun lw hlw => ?_⟩
    have s8 : Same H (upd H lw (.lst [V.str "take", V.str "put", V.str "toss", V.str "tip", V.str "shake"])) := Same.new hlw
    have e8 : (upd H lw (.lst [V.str "take", V.str "put", V.str "toss", V.str "tip", V.str "shake"])) lw = some (.lst [V.str "take", V.str "put", V.str "toss", V.str "tip", V.str "shake"]) := upd_same
    generalize (upd H lw (.lst [V.str "take", V.str "put", V.str "toss", V.str "tip", V.str "shake"])) = H8 at s8 e8 ⊢
    have hS8 := s8.seq hS
    have ep8 := s8 _ _ ep
    refine ⟨_, rfl, _, rfl, a, ns, _, _, rfl, hS8, hn, by lia, by lia, by decide, fun j j0 j1 => ?_⟩
    obtain ⟨wd, hwd, hat⟩ := at_map (xs := movW) j0 j1
    refine ⟨lw, _, _, _, rfl, rfl, SqL.of e8, hat, ?_⟩
    refine ⟨_, rfl, _, rfl, _, _, rfl, rfl, _, rfl, _, _, rfl, .inl ⟨_, SqL.of ep8, rfl⟩, a, ns, _, _, rfl, hS8, hn, by lia, by lia, by lia, fun ix ix0 ix1 => ?_⟩
    rw [hxm] at ix1
    obtain ⟨ii, hii⟩ : ∃ n : Nat, (n : Int) = ix := ⟨ix.toNat, Int.toNat_of_nonneg ix0⟩
    subst hii
    have fin : ∀ (w' : Str) (l2 : Addr), H8 l2 = none → w' ∈ movW → w' ≠ "tip" → ∀ lr, (upd H8 l2 (.lst [V.str "take", V.str wd])) lr = none → Q (.ref lr) (upd (upd H8 l2 (.lst [V.str "take", V.str wd])) lr (.lst [V.str w', V.int (ii : Int), V.int (ii : Int)])) := fun w' l2 hl2 hw' ht lr hlr =>
      q lr w' ii ii _ ((s8.trans (Same.new hl2)).trans (Same.new hlr)) upd_same hw' (by lia) (by lia) (fun z => absurd z ht)
    refine ⟨_, rfl, rfl, _, rfl, ?_⟩
    by_cases ht : wd = "tip"
    · refine iteNS' ht ?_
      refine ⟨_, rfl, _, _, rfl, .inl ⟨_, SqL.of ep8, rfl⟩, rfl, _, rfl, ?_⟩
      refine ite2 (fun z => ?_) (fun z => ?_)
      · refine ⟨_, rfl, by show 2 ≤ sizeLine; lia, fun l2 hl2 => ?_⟩
        have hx : atI [V.str "take", V.str wd] (if (!decide (V.str wd = V.str "tip")) = true then 1 else 0) = some (.str "take") := by
          rw [decide_eq_true (by rw [ht])]
          exact atI_nat (j := 0) rfl
        exact ⟨_, rfl, rfl, .inr ⟨_, rfl, l2, _, _, _, rfl, rfl, SqL.of upd_same, hx, _, rfl, _, rfl, by show 3 ≤ sizeLine; lia, fun lr hlr => fin "take" l2 hl2 (by decide +kernel) (by decide +kernel) lr hlr⟩⟩
      · have hx1 : xs.length ≠ 1 := fun e => z (decide_eq_true (by rw [hxm, e]; rfl))
        refine ⟨_, rfl, _, rfl, _, rfl, _, _, rfl, rfl, _, rfl, _, rfl, _, _, rfl, rfl, _, rfl, _, _, rfl, .inl ⟨_, SqL.of ep8, rfl⟩, _, _, rfl, rfl, a, ns, _, _, rfl, hS8, hn, by lia, by lia, by rw [hxm]; lia, fun m m0 m1 => ?_⟩
        rw [hxm] at m1
        refine ⟨_, _, rfl, rfl, _, rfl, _, _, rfl, .inl ⟨_, SqL.of ep8, rfl⟩, _, _, rfl, rfl, by rw [hxm]; lia, by show 3 ≤ sizeLine; lia, fun lr hlr => ?_⟩
        have hm : ∃ jj : Nat, (jj : Int) = ((ii : Int) + 1 + m) % ((xs.map V.str).length : Int) ∧ jj < xs.length ∧ ii ≠ jj := by
          rw [hxm]
          by_cases h : (ii : Int) + 1 + m < xs.length
          · refine ⟨((ii : Int) + 1 + m).toNat, ?_, by lia, by lia⟩
            rw [Int.emod_eq_of_lt (by lia) h]
            lia
          · refine ⟨((ii : Int) + 1 + m - xs.length).toNat, ?_, by lia, by lia⟩
            rw [show (ii : Int) + 1 + m = ((ii : Int) + 1 + m - xs.length) + xs.length by lia, Int.add_emod_right, Int.emod_eq_of_lt (by lia) (by lia)]
            lia
        obtain ⟨jj, e, hj1, hj2⟩ := hm
        rw [← e]
        exact q lr wd ii jj _ (s8.trans (Same.new hlr)) upd_same hwd (by lia) hj1 (fun _ => hj2)
    · refine iteNN ht (iteT ?_)
      refine ⟨_, rfl, by show 2 ≤ sizeLine; lia, fun l2 hl2 => ?_⟩
      have hx : atI [V.str "take", V.str wd] (if (!decide (V.str wd = V.str "tip")) = true then 1 else 0) = some (.str wd) := by
        rw [decide_eq_false (fun z => ht (V.str.inj z))]
        exact atI_nat (j := 1) rfl
      exact ⟨_, rfl, rfl, .inr ⟨_, rfl, l2, _, _, _, rfl, rfl, SqL.of upd_same, hx, _, rfl, _, rfl, by show 3 ≤ sizeLine; lia, fun lr hlr => fin wd l2 hl2 hwd ht lr hlr⟩⟩
end
end K07
namespace K07
open PySem L2 Tx Rk PyProof.Rows PySem.SeqAt
open PySem.PyData (strOk)
section
variable {P : Program} {w : World} {K : PySem.W.Frag} {mg : Str → Option Value} {base : Heap}
theorem ok_law {f C fI fS fR fW fH fD fT fM : Addr} {fd dI dS dR dV dH' dD dT dM : FuncData} (F : Fun K "law" "law" sLaw f fd) (D_l_sizes : Df K mg "_law_sizes" sSizes ["_law_script"] fS dS) (D_l_room : Df K mg "_law_room" sRoom pRoom fR dR) (D_l_world : Df K mg "_law_world" sWorld pWorld fW dV)
    (D_l_line : Df K mg "_law_line" sLLine pLLine fH dH') (D_l_moves : Df K mg "_law_moves" sLMoves pLMoves fD dD) (D_turns : Df K mg "turns" sTurns pTurns fT dT) (D_l_meets : Df K mg "_law_meets" sLMeets pLMeets fM dM) (T : Bl mg) (MC : L2.Mk K C fI) (mC : mg "Room" = some (.ref C)) (bI : Binds K dI ["self", "lines"] [])
    (GI : FnOk P w K mg base CX0 4 fI dI ["self", "lines"] (spInit C)) (G_l_sizes : FnOk P w K mg base CX0 2 fS dS ["_law_script"] (spSizes K)) (G_l_room : FnOk P w K mg base CX0 3 fR dR pRoom (spRoom K)) (G_l_world : FnOk P w K mg base CX0 2 fW dV pWorld (spWorld K))
    (G_l_line : FnOk P w K mg base CX0 2 fH dH' pLLine (spLLine K)) (G_l_moves : FnOk P w K mg base CX0 3 fD dD pLMoves spLMoves) (G_turns : FnOk P w K mg base CX0 7 fT dT pTurns (spTurnsT C)) (G_l_meets : FnOk P w K mg base CX0 2 fM dM pLMeets spMeets) : FnOk P w K mg base CX0 9 f fd ["_law_script"] (spLaw K) := by
  refine F.ok scLaw (fun vs H Q E h => ?_) (fun cdv A outer s H vs Q E hr8 h => ?_)
  · obtain ⟨a, ns, rfl, _⟩ := h
    rfl
  · obtain ⟨a, ns, rfl, hS, hn, q⟩ := h
    have hr : Room 5 _ := hr8.mono (by decide)
    have hr2 : Room 2 _ := hr8.mono (by decide)
    have hr3 : Room 3 _ := hr8.mono (by decide)
    have hr7 : Room 7 _ := hr8.mono (by decide)
    have hu := hu_of hr
    have hsl : sizeLine = 16777216 := sizeLine_eq
    refine ⟨_, (pss_cons (ps_asg (pe_call G_l_sizes hr2 (by rfl) D_l_sizes.m D_l_sizes.F.kp D_l_sizes.b .nil pass0 (pa_cons (pv 0) pa_nil)) (pg_tup rfl (pgs_cons (pg_name (i := 1) scLaw.nd rfl (Or.inl rfl)) (pgs_cons (pg_name (i := 2) scLaw.nd rfl (Or.inl rfl)) pgs_nil))))
      (pss_cons (ps_set (i := 3) scLaw.nd rfl (Or.inl rfl) (pe_call G_l_room hr3 (by rfl) D_l_room.m D_l_room.F.kp D_l_room.b .nil pass0 (pa_cons (pv 0) (pa_cons (pv 1) (pa_cons (pv 2) pa_nil)))))
      (pss_cons (ps_set (i := 4) scLaw.nd rfl (Or.inl rfl) (pe_make MC GI hr (by rfl) mC bI .nil pass0 (pa_cons (pe_callTy call_list_of (by rfl) T.list bt_list (pa_cons (pe_dget hu (pv 3) pe_str (fun _ _ => rfl)) pa_nil)) pa_nil)))
      (pss_cons (ps_for PassesOwn.never rfl (pi_range1 (by rfl) T.range (pa_cons pe_int pa_nil)) (pg_name (i := 5) scLaw.nd rfl (Or.inl rfl))
        (pss_cons (ps_set (i := 6) scLaw.nd rfl (Or.inl rfl) (pe_call G_l_world hr2 (by rfl) D_l_world.m D_l_world.F.kp D_l_world.b .nil pass0 (pa_cons (pv 0) (pa_cons (pe_op op_add pe_int (pe_op op_mul pe_int (pv 5))) (pa_cons (pv 3) pa_nil)))))
      (pss_cons (ps_asg (pe_call G_l_line hr2 (by rfl) D_l_line.m D_l_line.F.kp D_l_line.b .nil pass0 (pa_cons (pv 0) (pa_cons (pe_op op_add pe_int (pe_op op_mul pe_int (pv 5))) (pa_cons (pe_dget hu (pv 3) pe_str (fun _ _ => rfl)) pa_nil)))) (pg_ul rfl (pgs_cons (pg_name (i := 7) scLaw.nd rfl (Or.inl rfl)) (pgs_cons (pg_name (i := 8) scLaw.nd rfl (Or.inl rfl)) (pgs_cons (pg_name (i := 9) scLaw.nd rfl (Or.inl rfl)) pgs_nil)))))
      (pss_cons (ps_set (i := 10) scLaw.nd rfl (Or.inl rfl) (pe_op op_add_str (pe_op op_add_str (pv 7) pe_str) (pe_ix ix_list (pe_dget hu (pv 3) pe_str (fun _ _ => rfl)) (pv 8) (fun _ _ => rfl))))
      (pss_cons (ps_if (pt_cmpR op_eq (pv 7) pe_str (nomark _)) (pss_one (ps_set (i := 10) scLaw.nd rfl (Or.inl rfl) (pe_op op_add_str (pe_op op_add_str (pv 10) pe_str) (pe_ix ix_list (pe_dget hu (pv 3) pe_str (fun _ _ => rfl)) (pv 9) (fun _ _ => rfl))))) pss_nil)
      (pss_cons (ps_set (i := 11) scLaw.nd rfl (Or.inl rfl) (pe_call G_l_moves hr3 (by rfl) D_l_moves.m D_l_moves.F.kp D_l_moves.b .nil pass0 (pa_cons (pv 7) (pa_cons (pv 8) (pa_cons (pv 9) (pa_cons (pv 6) pa_nil))))))
      (pss_cons (ps_set (i := 12) scLaw.nd rfl (Or.inl rfl) (pe_call G_turns hr7 (by rfl) D_turns.m D_turns.F.kp D_turns.b .nil pass0 (pa_cons (pv 4) (pa_cons (pv 10) (pa_cons (pv 6) pa_nil)))))
      (pss_cons (ps_if (pt_not (pt_val (pe_call G_l_meets hr2 (by rfl) D_l_meets.m D_l_meets.F.kp D_l_meets.b .nil pass0 (pa_cons (pv 12) (pa_cons (pv 11) pa_nil))))) (pss_one (ps_ret pe_bl)) pss_nil)
      (pss_cons (ps_expr (pe_bm PySem.F.plainAttrs_list PySem.F.slot_list_append PySem.F.type_list_append mt_append (pv 12) (pa_cons (pv 6) pa_nil)))
      (pss_one (ps_if (pt_not (pt_val (pe_call G_l_meets hr2 (by rfl) D_l_meets.m D_l_meets.F.kp D_l_meets.b .nil pass0 (pa_cons (pe_call G_turns hr7 (by rfl) D_turns.m D_turns.F.kp D_turns.b .nil pass0 (pa_cons (pv 4) (pa_cons (pv 10) (pa_cons (pv 6) pa_nil)))) (pa_cons (pv 11) pa_nil))))) (pss_one (ps_ret pe_bl)) pss_nil)))))))))))
      (pss_one (ps_ret pe_bl)))))), ?_⟩
    refine ⟨_, rfl, a, ns, rfl, hS, hn, fun t p m H1 s1 e1 p0 p1 m0 m1 => ?_⟩
    refine ⟨t, _, rfl, SqT.of e1, rfl, _, _, rfl, _, _, rfl, rfl, ?_⟩
    refine ⟨_, rfl, _, rfl, _, rfl, a, ns, p, m, rfl, s1.seq hS, hn, p0, p1, m0, m1, fun dr rs H2 s2 R hpl htl hrl => ?_⟩
    have s12 := s1.trans s2
    have g := R.good
    obtain ⟨kvs, L3, pp, pt, d1, d2, d3, D, k1, k2, k3, k4, k5, k6, k7, g1, g2, g3, g4, g5, g6, g7⟩ := R.ex
    refine ⟨_, rfl, dr, _, rfl, dget k1 k7, D, _, rfl, .inl (SqL.of g6), fun l hl => ?_⟩
    have s3 : Same H2 (upd H2 l (.lst ((rs.map Ro.txt).map V.str))) := Same.new hl
    have e3 : (upd H2 l (.lst ((rs.map Ro.txt).map V.str))) l = some (.lst ((rs.map Ro.txt).map V.str)) := upd_same
    generalize (upd H2 l (.lst ((rs.map Ro.txt).map V.str))) = H3 at s3 e3 ⊢
    intro x dx nx ndx nex
    have s4 : Same H3 (upd (upd H3 dx (.own x)) x (.ins C dx [])) := fun b o e => by
      rw [upd_ne (ne_of_none e nx), upd_ne (ne_of_none e ndx)]
      exact e
    refine ⟨x, dx, l, rs, rfl, upd_same, s4 _ _ e3, g, hrl, fun H5 kp RA => ⟨rfl, ?_⟩⟩
    have s5 : Same H3 H5 := fun b o e => kp b o (s4 _ _ e) (ne_of_none e nx)
    have s25 := s3.trans s5
    have R5 := R.same s25
    have hS5 := (s12.trans s25).seq hS
    have hpn : 1 ≤ (plc rs).length := by lia
    refine ⟨_, rfl, by decide, by decide, for_range (n := (8 : Int).toNat) (fun i σ H6 => ∃ v5 v6 v7 v8 v9 v10 v11 v12 : Option V, σ = [some (.ref a), some (.int p), some (.int m), some (.ref dr), some (.ref x), v5, v6, v7, v8, v9, v10, v11, v12] ∧ Same H5 H6) ⟨none, none, none, none, none, none, none, none, rfl, Same.refl _⟩ ?_ ?_⟩
    · rintro i σ H6 hi ⟨v5, v6, v7, v8, v9, v10, v11, v12, rfl, s6⟩
      have hi2 : i < 8 := hi
      have R6 := R5.same s6
      refine ⟨_, rfl, _, rfl, _, _, rfl, rfl, .inl ⟨by decide, by decide⟩, _, _, rfl, rfl, _, rfl, a, ns, _, dr, rs, rfl, s6.seq hS5, hn, by lia, by lia, R6, hpn, fun v W H7 s7 r7 z7 w7 => ?_⟩
      have s67 := s6.trans s7
      have s27 := s25.trans s67
      have okW := w7.ok g z7
      have few6 : ∀ h ∈ W.heaps, h.length ≤ 6 := fun h hh => by
        have h1 := len_flat hh
        have h2 := w7.perm.length_eq
        rw [List.length_append, List.length_map] at h2
        have := g.fewT
        lia
      have nd : W.heaps.flatten.Nodup := by
        have h1 : ((ths rs).map (·.1)).Nodup := (List.nodup_append.mp ((names_perm rs).nodup_iff.mp g.nd)).2.1
        exact (List.nodup_append.mp (w7.perm.nodup_iff.mpr h1)).2.1
      have hfp := g.fewP
      have k17 := s27 _ _ k1
      have g17 := s27 _ _ g1
      have hnm : ((plc rs).map (·.1)).length = (plc rs).length := List.length_map ..
      refine ⟨_, rfl, _, rfl, _, _, rfl, rfl, .inl ⟨by decide, by decide⟩, _, _, rfl, rfl, _, rfl, dr, _, rfl, dget k17 k2, a, pp, ns, _, (plc rs).map (·.1), rfl, s67.seq hS5, hn, by lia, by lia, g17, by lia, by lia, fun ll wd ii jj H8 s8 e8 hwd hii hjj hij => ?_⟩
      refine ⟨ll, _, rfl, SqL.of e8, rfl, _, _, rfl, _, _, rfl, _, _, rfl, rfl, ?_⟩
      have s68 := s67.trans s8
      have k18 := s8 _ _ k17
      have g18 := s8 _ _ g17
      rw [hnm] at hii hjj
      obtain ⟨pc, hp, li, pt'⟩ := Pt.of g w7 z7 hii
      obtain ⟨pd, hq, lj, pq'⟩ := Pt.of g w7 z7 hjj
      have ep : (((plc rs).map (·.1)).map V.str)[ii]? = some (.str pc.1) := by rw [List.getElem?_map, List.getElem?_map, pt'.pl]; rfl
      have eq' : (((plc rs).map (·.1)).map V.str)[jj]? = some (.str pd.1) := by rw [List.getElem?_map, List.getElem?_map, pq'.pl]; rfl
      have nvp := good_nv g (mem_plc_name (List.mem_map_of_mem (List.mem_of_getElem? pt'.pl)))
      have nvq := good_nv g (mem_plc_name (List.mem_map_of_mem (List.mem_of_getElem? pq'.pl)))
      have lp := (nv_sk nvp).2
      have lq := (nv_sk nvq).2
      have hwl : 32 ∉ cs wd ∧ wd.length ≤ 16 := by
        rcases movW_cases hwd with e | e | e | e | e <;> (rw [e]; decide +kernel)
      have b1 : (Str.ofString " ").length = 1 := by decide +kernel
      refine ⟨_, rfl, _, _, rfl, rfl, by rw [b1]; lia, _, rfl, dr, _, rfl, dget k18 k2, _, rfl, pp, _, _, _, rfl, rfl, SqL.of g18, atI_nat ep, _, _, rfl, rfl, by rw [len_app, b1]; lia, ?_⟩
      dsimp only
      refine seq_gen (fun σ' H' => ∃ (u5 : Option V) (line : Str), σ' = [some (.ref a), some (.int p), some (.int m), some (.ref dr), some (.ref x), u5, some v, some (.str wd), some (.int (ii : Int)), some (.int (jj : Int)), some (.str line), v11, v12] ∧ H8 = H' ∧ Wd line (wdsT wd pc.1 pd.1) ∧ line.length ≤ 1000) ?_ (fun N hN => ?_)
      rotate_left
      · refine ⟨_, rfl, rfl, _, rfl, ?_⟩
        by_cases ht : wd = "tip"
        · refine iteS ht ?_
          refine ⟨_, rfl, _, _, rfl, rfl, by rw [len_app, len_app, b1]; lia, _, rfl, dr, _, rfl, dget k18 k2, _, rfl, pp, _, _, _, rfl, rfl, SqL.of g18, atI_nat eq', _, _, rfl, rfl, by rw [len_app, len_app, len_app, b1]; lia, ?_⟩
          refine hN _ _ ⟨_, _, rfl, rfl, ?_, by rw [len_app, len_app, len_app, len_app, b1]; lia⟩
          unfold wdsT
          rw [if_pos ht]
          refine ⟨rfl, List.cons_ne_nil _ _, fun y hy => ?_⟩
          rcases List.mem_cons.mp hy with e | e
          · rw [e]; exact hwl.1
          · rcases List.mem_cons.mp e with e | e
            · rw [e]; exact nvp.noblank
            · rw [List.mem_singleton.mp e]; exact nvq.noblank
        · refine iteN ht (hN _ _ ⟨_, _, rfl, rfl, ?_, by rw [len_app, len_app, b1]; lia⟩)
          unfold wdsT
          rw [if_neg ht]
          refine ⟨rfl, List.cons_ne_nil _ _, fun y hy => ?_⟩
          rcases List.mem_cons.mp hy with e | e
          · rw [e]; exact hwl.1
          · rw [List.mem_singleton.mp e]; exact nvp.noblank
      rintro _ _ ⟨u5, line, rfl, rfl, hW, hlen⟩
      refine ⟨_, rfl, _, rfl, _, rfl, _, rfl, rs, v, W, wd, ii, pc, hp, li, jj, pd, hq, lj, rfl, s8.rd r7, pt', pq', hij, hwd, okW.few, fun ld zs H10 s10 e10 r10 => ?_⟩
      have s810 := s8.trans s10
      have s610 := s67.trans s810
      have r1 := s810.rd r7
      refine ⟨_, rfl, _, rfl, _, rfl, x, rs, v, W, line, wd, ii, pc, hp, li, jj, pd, hq, lj, rfl, RA.same s610, g, r1, hW, hlen, pt', pq', hij, hwd, okW.few, fun lt us H11 s11 f11 e11 r11 => ?_⟩
      have oks := allF_ok (w := wd) pt' pq' okW few6
      have nds := allF_nd (w := wd) (j := jj) (pj := pd) (hq := hq) (lq := lj) pt' nd
      refine ⟨_, rfl, _, rfl, lt, ld, us, zs, _, rfl, e11, s11 _ _ e10, r11, s11.rds r10, oks, nds, allF_len, fun H12 s12' => ⟨_, rfl, iteF ?_⟩⟩
      have e12 := s12' _ _ e11
      have hul := r11.length
      have hul2 := allF_len (W := W) (w := wd) (i := ii) (j := jj) (hp := hp) (hq := hq) (l := li) (lq := lj)
      rw [List.length_map] at hul
      refine ⟨_, rfl, .inl ⟨rfl, _, SqL.of e12⟩, _, rfl, lt, _, _, rfl, rfl, e12, by lia, ?_⟩
      have sX : Same H10 (upd H12 lt (.lst (us ++ [v]))) := (s11.trans s12').put f11
      generalize (upd H12 lt (.lst (us ++ [v]))) = H13 at sX ⊢
      refine ⟨_, rfl, _, rfl, _, rfl, x, rs, v, W, line, wd, ii, pc, hp, li, jj, pd, hq, lj, rfl, RA.same (s610.trans sX), g, sX.rd r1, hW, hlen, pt', pq', hij, hwd, okW.few, fun lt2 us2 H14 s14 f14 e14 r14 => ?_⟩
      refine ⟨_, rfl, lt2, ld, us2, zs, _, rfl, e14, s14 _ _ (sX _ _ e10), r14, (sX.trans s14).rds r10, oks, nds, allF_len, fun H15 s15 => ⟨_, rfl, iteF ?_⟩⟩
      exact ⟨_, _, _, _, _, _, _, _, rfl, ((s610.trans sX).trans s14).trans s15⟩
    · rintro σ H6 ⟨v5, v6, v7, v8, v9, v10, v11, v12, rfl, s6⟩
      exact q H6
end
end K07
namespace K07
open PySem L2 Tx Rk PyProof.Rows PySem.SeqAt
theorem ln1 {P : List Value → Prop} (h : ∀ a0 : Value, P [a0]) : ∀ us : List Value, us.length = 1 → P us := fun us hl => by
  obtain _ | ⟨a0, r0⟩ := us
  · exact absurd hl (by simp)
  obtain _ | ⟨b, r⟩ := r0
  · exact h a0
  · exact absurd hl (by simp)
theorem ln2 {P : List Value → Prop} (h : ∀ a0 a1 : Value, P [a0, a1]) : ∀ us : List Value, us.length = 2 → P us := fun us hl => by
  obtain _ | ⟨a0, r0⟩ := us
  · exact absurd hl (by simp)
  obtain _ | ⟨a1, r1⟩ := r0
  · exact absurd hl (by simp)
  obtain _ | ⟨b, r⟩ := r1
  · exact h a0 a1
  · exact absurd hl (by simp)
theorem ln3 {P : List Value → Prop} (h : ∀ a0 a1 a2 : Value, P [a0, a1, a2]) : ∀ us : List Value, us.length = 3 → P us := fun us hl => by
  obtain _ | ⟨a0, r0⟩ := us
  · exact absurd hl (by simp)
  obtain _ | ⟨a1, r1⟩ := r0
  · exact absurd hl (by simp)
  obtain _ | ⟨a2, r2⟩ := r1
  · exact absurd hl (by simp)
  obtain _ | ⟨b, r⟩ := r2
  · exact h a0 a1 a2
  · exact absurd hl (by simp)
theorem ln4 {P : List Value → Prop} (h : ∀ a0 a1 a2 a3 : Value, P [a0, a1, a2, a3]) : ∀ us : List Value, us.length = 4 → P us := fun us hl => by
  obtain _ | ⟨a0, r0⟩ := us
  · exact absurd hl (by simp)
  obtain _ | ⟨a1, r1⟩ := r0
  · exact absurd hl (by simp)
  obtain _ | ⟨a2, r2⟩ := r1
  · exact absurd hl (by simp)
  obtain _ | ⟨a3, r3⟩ := r2
  · exact absurd hl (by simp)
  obtain _ | ⟨b, r⟩ := r3
  · exact h a0 a1 a2 a3
  · exact absurd hl (by simp)
theorem all_mk {l : PySem.W.OpenLaw} {w : World} {K : PySem.W.Frag} {h : Heap} {mg : Str → Option Value} {fa C aN aF tF1 tF2 tF3 tF4 f1 f2 f3 f4 f5 f6 f7 f8 f9 f10 f11 f12 f13 f14 f15 f16 f17 f18 f19 f20 f21 f22 f23 f24 f25 f26 f27 f28 f29 f30 f31 f32 f33 f34 f35 f36 f37 f38 f39 : Addr} (X : K.In h) (G : h.Ns mainGlobals mg) (hfa : mg "law" = some (.ref fa))
    {od1 an1 od2 an2 od3 an3 od4 an4 od5 an5 od6 an6 od7 an7 od8 an8 od9 an9 od10 an10 od11 an11 od12 an12 od13 an13 od14 an14 od15 an15 od16 an16 od17 an17 od18 an18 od19 an19 od20 an20 od21 an21 od22 an22 od23 an23 od24 an24 od25 an25 od26 an26 od27 an27 od28 an28 od29 an29 od30 an30 od31 an31 od32 an32 od33 an33 od34 an34 od35 an35 od36 an36 od37 an37 od38 an38 od39 an39 odN odF oF1 oF2 oF3 oF4 : Option Addr} {sl1 sl2 sl3 sl4 sl5 sl6 sl7 sl8 sl9 sl10 sl11 sl12 sl13 sl14 sl15 sl16 sl17 sl18 sl19 sl20 sl21 sl22 sl23 sl24 sl25 sl26 sl27 sl28 sl29 sl30 sl31 sl32 sl33 sl34 sl35 sl36 sl37 sl38 sl39 slN slF sF1 sF2 sF3 sF4 : Array (Option Value)} {oc1 kV1 dc1 pm1 cd1 ct1 oc2 kV2 dc2 pm2 cd2 ct2 oc3 kV3 dc3 pm3 cd3 ct3 oc4 kV4 dc4 pm4 cd4 ct4 oc5 kV5 dc5 pm5 cd5 ct5 oc6 kV6 dc6 pm6 cd6 ct6 oc7 kV7 dc7 pm7 cd7 ct7 oc8 kV8 dc8 pm8 cd8 ct8 oc9 kV9 dc9 pm9 cd9 ct9 oc10 kV10 dc10 pm10 cd10 ct10 oc11 kV11 dc11 pm11 cd11 ct11 oc12 kV12 dc12 pm12 cd12 ct12 oc13 kV13 dc13 pm13 cd13 ct13 oc14 kV14 dc14 pm14 cd14 ct14 oc15 kV15 dc15 pm15 cd15 ct15 oc16 kV16 dc16 pm16 cd16 ct16 oc17 kV17 dc17 pm17 cd17 ct17 oc18 kV18 dc18 pm18 cd18 ct18 oc19 kV19 dc19 pm19 cd19 ct19 oc20 kV20 dc20 pm20 cd20 ct20 oc21 kV21 dc21 pm21 cd21 ct21 oc22 kV22 dc22 pm22 cd22 ct22 oc23 kV23 dc23 pm23 cd23 ct23 oc24 kV24 dc24 pm24 cd24 ct24 oc25 kV25 dc25 pm25 cd25 ct25 oc26 kV26 dc26 pm26 cd26 ct26 oc27 kV27 dc27 pm27 cd27 ct27 oc28 kV28 dc28 pm28 cd28 ct28 oc29 kV29 dc29 pm29 cd29 ct29 oc30 kV30 dc30 pm30 cd30 ct30 oc31 kV31 dc31 pm31 cd31 ct31 oc32 kV32 dc32 pm32 cd32 ct32 oc33 kV33 dc33 pm33 cd33 ct33 oc34 kV34 dc34 pm34 cd34 ct34 oc35 kV35 dc35 pm35 cd35 ct35 oc36 kV36 dc36 pm36 cd36 ct36 oc37 kV37 dc37 pm37 cd37 ct37 oc38 kV38 dc38 pm38 cd38 ct38 oc39 kV39 dc39 pm39 cd39 ct39 uL uO uP uT : Value} {itN itF iF1 iF2 iF3 iF4 : Array Value} {nN nF nF1 nF2 nF3 nF4 : Nat}
    {esP esL : Array DictEntry} {epP epL : Nat} {aP aL t1 t2 t3 t4 : Addr} {oT1 oT2 oT3 oT4 : Option Addr} {iT1 iT2 iT3 iT4 : Array Value} {nT1 nT2 nT3 nT4 : Nat} {sT1 sT2 sT3 sT4 : Array (Option Value)}
    (a1 : PySem.W.nsIn K mainGlobals "heap_in" = some (some (.ref f1))) (l1 : K.lookup f1 = some ⟨oc1, od1, .func (PySem.W.fnOf "heap_in" "heap_in" (defArgs sHeapIn) (defBody sHeapIn) (defScope sHeapIn) .none kV1 dc1 pm1 an1 cd1 ct1), sl1⟩) (c1 : PySem.W.codeIn K cd1 "heap_in" = true) (k1 : PySem.W.keepIn K (.ref f1) = true)
    (a2 : PySem.W.nsIn K mainGlobals "lid_on" = some (some (.ref f2))) (l2 : K.lookup f2 = some ⟨oc2, od2, .func (PySem.W.fnOf "lid_on" "lid_on" (defArgs sLidOn) (defBody sLidOn) (defScope sLidOn) .none kV2 dc2 pm2 an2 cd2 ct2), sl2⟩) (c2 : PySem.W.codeIn K cd2 "lid_on" = true) (k2 : PySem.W.keepIn K (.ref f2) = true)
    (a3 : PySem.W.nsIn K mainGlobals "turns" = some (some (.ref f3))) (l3 : K.lookup f3 = some ⟨oc3, od3, .func (PySem.W.fnOf "turns" "turns" (defArgs sTurns) (defBody sTurns) (defScope sTurns) .none kV3 dc3 pm3 an3 cd3 ct3), sl3⟩) (c3 : PySem.W.codeIn K cd3 "turns" = true) (k3 : PySem.W.keepIn K (.ref f3) = true)
    (a4 : PySem.W.nsIn K mainGlobals "read_deed" = some (some (.ref f4))) (l4 : K.lookup f4 = some ⟨oc4, od4, .func (PySem.W.fnOf "read_deed" "read_deed" (defArgs sReadDeed) (defBody sReadDeed) (defScope sReadDeed) .none kV4 dc4 pm4 an4 cd4 ct4), sl4⟩) (c4 : PySem.W.codeIn K cd4 "read_deed" = true) (k4 : PySem.W.keepIn K (.ref f4) = true)
    (a5 : PySem.W.nsIn K mainGlobals "move_things" = some (some (.ref f5))) (l5 : K.lookup f5 = some ⟨oc5, od5, .func (PySem.W.fnOf "move_things" "move_things" (defArgs sMoveThings) (defBody sMoveThings) (defScope sMoveThings) .none kV5 dc5 pm5 an5 cd5 ct5), sl5⟩) (c5 : PySem.W.codeIn K cd5 "move_things" = true) (k5 : PySem.W.keepIn K (.ref f5) = true)
    (a6 : PySem.W.nsIn K mainGlobals "take" = some (some (.ref f6))) (l6 : K.lookup f6 = some ⟨oc6, od6, .func (PySem.W.fnOf "take" "take" (defArgs sTake) (defBody sTake) (defScope sTake) .none kV6 dc6 pm6 an6 cd6 ct6), sl6⟩) (c6 : PySem.W.codeIn K cd6 "take" = true) (k6 : PySem.W.keepIn K (.ref f6) = true)
    (a7 : PySem.W.nsIn K mainGlobals "put" = some (some (.ref f7))) (l7 : K.lookup f7 = some ⟨oc7, od7, .func (PySem.W.fnOf "put" "put" (defArgs sPut) (defBody sPut) (defScope sPut) .none kV7 dc7 pm7 an7 cd7 ct7), sl7⟩) (c7 : PySem.W.codeIn K cd7 "put" = true) (k7 : PySem.W.keepIn K (.ref f7) = true)
    (a8 : PySem.W.nsIn K mainGlobals "toss" = some (some (.ref f8))) (l8 : K.lookup f8 = some ⟨oc8, od8, .func (PySem.W.fnOf "toss" "toss" (defArgs sToss) (defBody sToss) (defScope sToss) .none kV8 dc8 pm8 an8 cd8 ct8), sl8⟩) (c8 : PySem.W.codeIn K cd8 "toss" = true) (k8 : PySem.W.keepIn K (.ref f8) = true)
    (a9 : PySem.W.nsIn K mainGlobals "shake" = some (some (.ref f9))) (l9 : K.lookup f9 = some ⟨oc9, od9, .func (PySem.W.fnOf "shake" "shake" (defArgs sShake) (defBody sShake) (defScope sShake) .none kV9 dc9 pm9 an9 cd9 ct9), sl9⟩) (c9 : PySem.W.codeIn K cd9 "shake" = true) (k9 : PySem.W.keepIn K (.ref f9) = true)
    (a10 : PySem.W.nsIn K mainGlobals "tip" = some (some (.ref f10))) (l10 : K.lookup f10 = some ⟨oc10, od10, .func (PySem.W.fnOf "tip" "tip" (defArgs sTip) (defBody sTip) (defScope sTip) .none kV10 dc10 pm10 an10 cd10 ct10), sl10⟩) (c10 : PySem.W.codeIn K cd10 "tip" = true) (k10 : PySem.W.keepIn K (.ref f10) = true)
    (a11 : PySem.W.nsIn K mainGlobals "is_free" = some (some (.ref f11))) (l11 : K.lookup f11 = some ⟨oc11, od11, .func (PySem.W.fnOf "is_free" "is_free" (defArgs sIsFree) (defBody sIsFree) (defScope sIsFree) .none kV11 dc11 pm11 an11 cd11 ct11), sl11⟩) (c11 : PySem.W.codeIn K cd11 "is_free" = true) (k11 : PySem.W.keepIn K (.ref f11) = true)
    (a12 : PySem.W.nsIn K mainGlobals "is_open" = some (some (.ref f12))) (l12 : K.lookup f12 = some ⟨oc12, od12, .func (PySem.W.fnOf "is_open" "is_open" (defArgs sIsOpen) (defBody sIsOpen) (defScope sIsOpen) .none kV12 dc12 pm12 an12 cd12 ct12), sl12⟩) (c12 : PySem.W.codeIn K cd12 "is_open" = true) (k12 : PySem.W.keepIn K (.ref f12) = true)
    (a13 : PySem.W.nsIn K mainGlobals "can_put" = some (some (.ref f13))) (l13 : K.lookup f13 = some ⟨oc13, od13, .func (PySem.W.fnOf "can_put" "can_put" (defArgs sCanPut) (defBody sCanPut) (defScope sCanPut) .none kV13 dc13 pm13 an13 cd13 ct13), sl13⟩) (c13 : PySem.W.codeIn K cd13 "can_put" = true) (k13 : PySem.W.keepIn K (.ref f13) = true)
    (a14 : PySem.W.nsIn K mainGlobals "laid" = some (some (.ref f14))) (l14 : K.lookup f14 = some ⟨oc14, od14, .func (PySem.W.fnOf "laid" "laid" (defArgs sLaid) (defBody sLaid) (defScope sLaid) .none kV14 dc14 pm14 an14 cd14 ct14), sl14⟩) (c14 : PySem.W.codeIn K cd14 "laid" = true) (k14 : PySem.W.keepIn K (.ref f14) = true)
    (a15 : PySem.W.nsIn K mainGlobals "changed" = some (some (.ref f15))) (l15 : K.lookup f15 = some ⟨oc15, od15, .func (PySem.W.fnOf "changed" "changed" (defArgs sChanged) (defBody sChanged) (defScope sChanged) .none kV15 dc15 pm15 an15 cd15 ct15), sl15⟩) (c15 : PySem.W.codeIn K cd15 "changed" = true) (k15 : PySem.W.keepIn K (.ref f15) = true)
    (a16 : PySem.W.nsIn K mainGlobals "is_name" = some (some (.ref f16))) (l16 : K.lookup f16 = some ⟨oc16, od16, .func (PySem.W.fnOf "is_name" "is_name" (defArgs sIsName) (defBody sIsName) (defScope sIsName) .none kV16 dc16 pm16 an16 cd16 ct16), sl16⟩) (c16 : PySem.W.codeIn K cd16 "is_name" = true) (k16 : PySem.W.keepIn K (.ref f16) = true)
    (a17 : PySem.W.nsIn K mainGlobals "read_line" = some (some (.ref f17))) (l17 : K.lookup f17 = some ⟨oc17, od17, .func (PySem.W.fnOf "read_line" "read_line" (defArgs sReadLine) (defBody sReadLine) (defScope sReadLine) .none kV17 dc17 pm17 an17 cd17 ct17), sl17⟩) (c17 : PySem.W.codeIn K cd17 "read_line" = true) (k17 : PySem.W.keepIn K (.ref f17) = true)
    (a18 : PySem.W.nsIn K mainGlobals "read_rows" = some (some (.ref f18))) (l18 : K.lookup f18 = some ⟨oc18, od18, .func (PySem.W.fnOf "read_rows" "read_rows" (defArgs sReadRows) (defBody sReadRows) (defScope sReadRows) .none kV18 dc18 pm18 an18 cd18 ct18), sl18⟩) (c18 : PySem.W.codeIn K cd18 "read_rows" = true) (k18 : PySem.W.keepIn K (.ref f18) = true)
    (a19 : PySem.W.nsIn K mainGlobals "read_things" = some (some (.ref f19))) (l19 : K.lookup f19 = some ⟨oc19, od19, .func (PySem.W.fnOf "read_things" "read_things" (defArgs sReadThings) (defBody sReadThings) (defScope sReadThings) .none kV19 dc19 pm19 an19 cd19 ct19), sl19⟩) (c19 : PySem.W.codeIn K cd19 "read_things" = true) (k19 : PySem.W.keepIn K (.ref f19) = true)
    (a20 : PySem.W.nsIn K mainGlobals "read_places" = some (some (.ref f20))) (l20 : K.lookup f20 = some ⟨oc20, od20, .func (PySem.W.fnOf "read_places" "read_places" (defArgs sReadPlaces) (defBody sReadPlaces) (defScope sReadPlaces) .none kV20 dc20 pm20 an20 cd20 ct20), sl20⟩) (c20 : PySem.W.codeIn K cd20 "read_places" = true) (k20 : PySem.W.keepIn K (.ref f20) = true)
    (a21 : PySem.W.nsIn K mainGlobals "check_keys" = some (some (.ref f21))) (l21 : K.lookup f21 = some ⟨oc21, od21, .func (PySem.W.fnOf "check_keys" "check_keys" (defArgs sCheckKeys) (defBody sCheckKeys) (defScope sCheckKeys) .none kV21 dc21 pm21 an21 cd21 ct21), sl21⟩) (c21 : PySem.W.codeIn K cd21 "check_keys" = true) (k21 : PySem.W.keepIn K (.ref f21) = true)
    (a22 : PySem.W.nsIn K mainGlobals "_law_pick" = some (some (.ref f22))) (l22 : K.lookup f22 = some ⟨oc22, od22, .func (PySem.W.fnOf "_law_pick" "_law_pick" (defArgs sPick) (defBody sPick) (defScope sPick) .none kV22 dc22 pm22 an22 cd22 ct22), sl22⟩) (c22 : PySem.W.codeIn K cd22 "_law_pick" = true) (k22 : PySem.W.keepIn K (.ref f22) = true)
    (a23 : PySem.W.nsIn K mainGlobals "_law_fixed" = some (some (.ref f23))) (l23 : K.lookup f23 = some ⟨oc23, od23, .func (PySem.W.fnOf "_law_fixed" "_law_fixed" (defArgs sFixed) (defBody sFixed) (defScope sFixed) .none kV23 dc23 pm23 an23 cd23 ct23), sl23⟩) (c23 : PySem.W.codeIn K cd23 "_law_fixed" = true) (k23 : PySem.W.keepIn K (.ref f23) = true)
    (a24 : PySem.W.nsIn K mainGlobals "_law_names" = some (some (.ref f24))) (l24 : K.lookup f24 = some ⟨oc24, od24, .func (PySem.W.fnOf "_law_names" "_law_names" (defArgs sNames) (defBody sNames) (defScope sNames) .none kV24 dc24 pm24 an24 cd24 ct24), sl24⟩) (c24 : PySem.W.codeIn K cd24 "_law_names" = true) (k24 : PySem.W.keepIn K (.ref f24) = true)
    (a25 : PySem.W.nsIn K mainGlobals "_law_place_line" = some (some (.ref f25))) (l25 : K.lookup f25 = some ⟨oc25, od25, .func (PySem.W.fnOf "_law_place_line" "_law_place_line" (defArgs sLine) (defBody sLine) (defScope sLine) .none kV25 dc25 pm25 an25 cd25 ct25), sl25⟩) (c25 : PySem.W.codeIn K cd25 "_law_place_line" = true) (k25 : PySem.W.keepIn K (.ref f25) = true)
    (a26 : PySem.W.nsIn K mainGlobals "_law_room" = some (some (.ref f26))) (l26 : K.lookup f26 = some ⟨oc26, od26, .func (PySem.W.fnOf "_law_room" "_law_room" (defArgs sRoom) (defBody sRoom) (defScope sRoom) .none kV26 dc26 pm26 an26 cd26 ct26), sl26⟩) (c26 : PySem.W.codeIn K cd26 "_law_room" = true) (k26 : PySem.W.keepIn K (.ref f26) = true)
    (a27 : PySem.W.nsIn K mainGlobals "_law_sizes" = some (some (.ref f27))) (l27 : K.lookup f27 = some ⟨oc27, od27, .func (PySem.W.fnOf "_law_sizes" "_law_sizes" (defArgs sSizes) (defBody sSizes) (defScope sSizes) .none kV27 dc27 pm27 an27 cd27 ct27), sl27⟩) (c27 : PySem.W.codeIn K cd27 "_law_sizes" = true) (k27 : PySem.W.keepIn K (.ref f27) = true)
    (a28 : PySem.W.nsIn K mainGlobals "_law_lids" = some (some (.ref f28))) (l28 : K.lookup f28 = some ⟨oc28, od28, .func (PySem.W.fnOf "_law_lids" "_law_lids" (defArgs sLids) (defBody sLids) (defScope sLids) .none kV28 dc28 pm28 an28 cd28 ct28), sl28⟩) (c28 : PySem.W.codeIn K cd28 "_law_lids" = true) (k28 : PySem.W.keepIn K (.ref f28) = true)
    (a29 : PySem.W.nsIn K mainGlobals "_law_world" = some (some (.ref f29))) (l29 : K.lookup f29 = some ⟨oc29, od29, .func (PySem.W.fnOf "_law_world" "_law_world" (defArgs sWorld) (defBody sWorld) (defScope sWorld) .none kV29 dc29 pm29 an29 cd29 ct29), sl29⟩) (c29 : PySem.W.codeIn K cd29 "_law_world" = true) (k29 : PySem.W.keepIn K (.ref f29) = true)
    (a30 : PySem.W.nsIn K mainGlobals "_law_same" = some (some (.ref f30))) (l30 : K.lookup f30 = some ⟨oc30, od30, .func (PySem.W.fnOf "_law_same" "_law_same" (defArgs sSame) (defBody sSame) (defScope sSame) .none kV30 dc30 pm30 an30 cd30 ct30), sl30⟩) (c30 : PySem.W.codeIn K cd30 "_law_same" = true) (k30 : PySem.W.keepIn K (.ref f30) = true)
    (a31 : PySem.W.nsIn K mainGlobals "_law_heap" = some (some (.ref f31))) (l31 : K.lookup f31 = some ⟨oc31, od31, .func (PySem.W.fnOf "_law_heap" "_law_heap" (defArgs sLHeap) (defBody sLHeap) (defScope sLHeap) .none kV31 dc31 pm31 an31 cd31 ct31), sl31⟩) (c31 : PySem.W.codeIn K cd31 "_law_heap" = true) (k31 : PySem.W.keepIn K (.ref f31) = true)
    (a32 : PySem.W.nsIn K mainGlobals "_law_laid" = some (some (.ref f32))) (l32 : K.lookup f32 = some ⟨oc32, od32, .func (PySem.W.fnOf "_law_laid" "_law_laid" (defArgs sLLaid) (defBody sLLaid) (defScope sLLaid) .none kV32 dc32 pm32 an32 cd32 ct32), sl32⟩) (c32 : PySem.W.codeIn K cd32 "_law_laid" = true) (k32 : PySem.W.keepIn K (.ref f32) = true)
    (a33 : PySem.W.nsIn K mainGlobals "_law_tip" = some (some (.ref f33))) (l33 : K.lookup f33 = some ⟨oc33, od33, .func (PySem.W.fnOf "_law_tip" "_law_tip" (defArgs sLTip) (defBody sLTip) (defScope sLTip) .none kV33 dc33 pm33 an33 cd33 ct33), sl33⟩) (c33 : PySem.W.codeIn K cd33 "_law_tip" = true) (k33 : PySem.W.keepIn K (.ref f33) = true)
    (a34 : PySem.W.nsIn K mainGlobals "_law_moves" = some (some (.ref f34))) (l34 : K.lookup f34 = some ⟨oc34, od34, .func (PySem.W.fnOf "_law_moves" "_law_moves" (defArgs sLMoves) (defBody sLMoves) (defScope sLMoves) .none kV34 dc34 pm34 an34 cd34 ct34), sl34⟩) (c34 : PySem.W.codeIn K cd34 "_law_moves" = true) (k34 : PySem.W.keepIn K (.ref f34) = true)
    (a35 : PySem.W.nsIn K mainGlobals "_law_meets" = some (some (.ref f35))) (l35 : K.lookup f35 = some ⟨oc35, od35, .func (PySem.W.fnOf "_law_meets" "_law_meets" (defArgs sLMeets) (defBody sLMeets) (defScope sLMeets) .none kV35 dc35 pm35 an35 cd35 ct35), sl35⟩) (c35 : PySem.W.codeIn K cd35 "_law_meets" = true) (k35 : PySem.W.keepIn K (.ref f35) = true)
    (a36 : PySem.W.nsIn K mainGlobals "_law_line" = some (some (.ref f36))) (l36 : K.lookup f36 = some ⟨oc36, od36, .func (PySem.W.fnOf "_law_line" "_law_line" (defArgs sLLine) (defBody sLLine) (defScope sLLine) .none kV36 dc36 pm36 an36 cd36 ct36), sl36⟩) (c36 : PySem.W.codeIn K cd36 "_law_line" = true) (k36 : PySem.W.keepIn K (.ref f36) = true)
    (a37 : PySem.W.nsIn K mainGlobals "law" = some (some (.ref f37))) (l37 : K.lookup f37 = some ⟨oc37, od37, .func (PySem.W.fnOf "law" "law" (defArgs sLaw) (defBody sLaw) (defScope sLaw) .none kV37 dc37 pm37 an37 cd37 ct37), sl37⟩) (c37 : PySem.W.codeIn K cd37 "law" = true) (k37 : PySem.W.keepIn K (.ref f37) = true)
    (aC : PySem.W.nsIn K mainGlobals "Room" = some (some (.ref C)))
    (a38 : PySem.W.findIn K (.ref C) "__init__" = some (some (.ref f38))) (i38 : PySem.W.isFn K (.ref f38) = true) (l38 : K.lookup f38 = some ⟨oc38, od38, .func (PySem.W.fnOf "__init__" "Room.__init__" (defArgs sInit) (defBody sInit) (defScope sInit) .none kV38 dc38 pm38 an38 cd38 ct38), sl38⟩) (c38 : PySem.W.codeIn K cd38 "Room.__init__" = true) (k38 : PySem.W.keepIn K (.ref f38) = true)
    (a39 : PySem.W.findIn K (.ref C) "places" = some (some (.ref f39))) (i39 : PySem.W.isFn K (.ref f39) = true) (l39 : K.lookup f39 = some ⟨oc39, od39, .func (PySem.W.fnOf "places" "Room.places" (defArgs sPlaces) (defBody sPlaces) (defScope sPlaces) .none kV39 dc39 pm39 an39 cd39 ct39), sl39⟩) (c39 : PySem.W.codeIn K cd39 "Room.places" = true) (k39 : PySem.W.keepIn K (.ref f39) = true)
    (pg : PySem.W.plainGet K C Str.empty = true) (hd : PySem.W.hasDictIn K C = true) (po : PySem.W.plainOver K C = true) (sa : PySem.W.findIn K (.ref C) "__setattr__" = some (some (.builtin "object.__setattr__"))) (mk : PySem.W.makesIn K C = true) (kc : PySem.W.keepIn K (.ref C) = true)
    (nP : PySem.W.findIn K (.ref C) "told_places" = some none) (nS : PySem.W.findIn K (.ref C) "told_shapes" = some none)
    (gL : PySem.W.nsIn K mainGlobals "LETTERS" = some (some uL)) (vL : absV uL = some (.str abc))
    (gO : PySem.W.nsIn K mainGlobals "MOST_LETTERS" = some (some uO)) (vO : absV uO = some (.int 8))
    (gP : PySem.W.nsIn K mainGlobals "MOST_PLACES" = some (some uP)) (vP : absV uP = some (.int 6))
    (gT : PySem.W.nsIn K mainGlobals "MOST_THINGS" = some (some uT)) (vT : absV uT = some (.int 6))
    (gN : PySem.W.nsIn K mainGlobals "NO_NAMES" = some (some (.ref aN))) (lN : K.lookup aN = some ⟨.type "tuple", odN, .seq itN nN, slN⟩) (vN : absAll itN.toList = some (fixedS.map V.str))
    (gF : PySem.W.nsIn K mainGlobals "FORMS" = some (some (.ref aF))) (lF : K.lookup aF = some ⟨.type "tuple", odF, .seq itF nF, slF⟩) (vF : absAll itF.toList = some [.ref tF1, .ref tF2, .ref tF3, .ref tF4])
    (lF1 : K.lookup tF1 = some ⟨.type "tuple", oF1, .seq iF1 nF1, sF1⟩) (vF1 : absAll iF1.toList = some [.str "place", .int 2])
    (lF2 : K.lookup tF2 = some ⟨.type "tuple", oF2, .seq iF2 nF2, sF2⟩) (vF2 : absAll iF2.toList = some [.str "box", .int 2])
    (lF3 : K.lookup tF3 = some ⟨.type "tuple", oF3, .seq iF3 nF3, sF3⟩) (vF3 : absAll iF3.toList = some [.str "box", .int 3])
    (lF4 : K.lookup tF4 = some ⟨.type "tuple", oF4, .seq iF4 nF4, sF4⟩) (vF4 : absAll iF4.toList = some [.str "thing", .int 3])
    (gPl : PySem.W.nsIn K mainGlobals "PLACES" = some (some (.ref aP)))
    (lPl : K.lookup aP = some ⟨.type "dict", none, .dict esP epP, #[]⟩)
    (sPl : (aP == sysModules) = false)
    (vPl : dAbs esP.toList = some placesK)
    (hPl : esP.toList.map (·.hash) = placesK.map (fun kv => keyH w kv.1))
    (gLi : PySem.W.nsIn K mainGlobals "LIDS" = some (some (.ref aL)))
    (lLi : K.lookup aL = some ⟨.type "dict", none, .dict esL epL, #[]⟩)
    (sLi : (aL == sysModules) = false)
    (vLi : dAbs esL.toList = some (lidsKV t1 t2 t3 t4))
    (hLi : esL.toList.map (·.hash) = (lidsKV t1 t2 t3 t4).map (fun kv => keyH w kv.1))
    (lT1 : K.lookup t1 = some ⟨.type "tuple", oT1, .seq iT1 nT1, sT1⟩)
    (wT1 : absAll iT1.toList = some [V.str "shut", V.str "open"])
    (lT2 : K.lookup t2 = some ⟨.type "tuple", oT2, .seq iT2 nT2, sT2⟩)
    (wT2 : absAll iT2.toList = some [V.str "open", V.str "shut"])
    (lT3 : K.lookup t3 = some ⟨.type "tuple", oT3, .seq iT3 nT3, sT3⟩)
    (wT3 : absAll iT3.toList = some [V.str "shut", V.str "locked"])
    (lT4 : K.lookup t4 = some ⟨.type "tuple", oT4, .seq iT4 nT4, sT4⟩)
    (wT4 : absAll iT4.toList = some [V.str "locked", V.str "shut"])
    (z1 : PySem.W.nsIn K mainGlobals "len" = some none) (z2 : PySem.W.nsIn K mainGlobals "range" = some none) (z3 : PySem.W.nsIn K mainGlobals "tuple" = some none) (z4 : PySem.W.nsIn K mainGlobals "zip" = some none) (z5 : PySem.W.nsIn K mainGlobals "isinstance" = some none) (z6 : PySem.W.nsIn K mainGlobals "str" = some none) (z7 : PySem.W.nsIn K mainGlobals "list" = some none) (z8 : PySem.W.nsIn K mainGlobals "set" = some none) (z9 : PySem.W.nsIn K mainGlobals "all" = some none) (z10 : PySem.W.nsIn K mainGlobals "sorted" = some none) (z11 : PySem.W.nsIn K mainGlobals "int" = some none) (z12 : PySem.W.nsIn K mainGlobals "bool" = some none) (z13 : PySem.W.nsIn K mainGlobals "reversed" = some none) :
    ∃ fd : FuncData, (∀ (s : Shared) (v : Value), BindsTo s fd ⟨[v], []⟩ [("_law_script", v)]) ∧ ∀ base : Heap, K.In base → base.Ns mainGlobals mg → FnOk l.prog w K mg base CX0 9 fa fd ["_law_script"] (spLaw K) := by
  have e := hfa.symm.trans (PySem.W.mg_of X G a37)
  cases e
  have T : Bl mg := ⟨PySem.W.mg_none_of X G z1, PySem.W.mg_none_of X G z2, PySem.W.mg_none_of X G z3, PySem.W.mg_none_of X G z4, PySem.W.mg_none_of X G z5, PySem.W.mg_none_of X G z6, PySem.W.mg_none_of X G z7, PySem.W.mg_none_of X G z8, PySem.W.mg_none_of X G z9, PySem.W.mg_none_of X G z10, PySem.W.mg_none_of X G z11, PySem.W.mg_none_of X G z12, PySem.W.mg_none_of X G z13⟩
  obtain ⟨tL, eL⟩ := (rel_abs vL : RelV (.str abc) uL)
  rw [eL] at gL
  obtain ⟨tO, eO⟩ := (rel_abs vO : RelV (.int 8) uO)
  rw [eO] at gO
  obtain ⟨tP, eP⟩ := (rel_abs vP : RelV (.int 6) uP)
  rw [eP] at gP
  obtain ⟨tT, eT⟩ := (rel_abs vT : RelV (.int 6) uT)
  rw [eT] at gT
  have M : Md K mg aN aF := ⟨⟨_, PySem.W.mg_of X G gL⟩, ⟨_, PySem.W.mg_of X G gO⟩, ⟨_, PySem.W.mg_of X G gP⟩, ⟨_, PySem.W.mg_of X G gT⟩, PySem.W.mg_of X G gN, fun H => .inr ⟨_, itN, nN, lN, rfl, rfl, by
      have h1 := (vals_abs vN).length
      have h2 : itN.toList.length = itN.size := by simp
      have h3 : (fixedS.map V.str).length = 14 := by decide +kernel
      have hs : sizeLine = 16777216 := sizeLine_eq
      lia, vals_abs vN⟩, PySem.W.mg_of X G gF,
    rdK_tup lF vF (.cons (rdK_tup lF1 vF1 (.cons (rdK_flat rfl) (.cons (rdK_flat rfl) .nil))) (.cons (rdK_tup lF2 vF2 (.cons (rdK_flat rfl) (.cons (rdK_flat rfl) .nil))) (.cons (rdK_tup lF3 vF3 (.cons (rdK_flat rfl) (.cons (rdK_flat rfl) .nil))) (.cons (rdK_tup lF4 vF4 (.cons (rdK_flat rfl) (.cons (rdK_flat rfl) .nil))) .nil))))⟩
  have L : Cl K C := ⟨⟨pg, hd, po, sa⟩, nP, nS⟩
  have F1 := fun_mk (st := sHeapIn) l1 c1 k1
  have F2 := fun_mk (st := sLidOn) l2 c2 k2
  have F3 := fun_mk (st := sTurns) l3 c3 k3
  have F4 := fun_mk (st := sReadDeed) l4 c4 k4
  have F5 := fun_mk (st := sMoveThings) l5 c5 k5
  have F6 := fun_mk (st := sTake) l6 c6 k6
  have F7 := fun_mk (st := sPut) l7 c7 k7
  have F8 := fun_mk (st := sToss) l8 c8 k8
  have F9 := fun_mk (st := sShake) l9 c9 k9
  have F10 := fun_mk (st := sTip) l10 c10 k10
  have F11 := fun_mk (st := sIsFree) l11 c11 k11
  have F12 := fun_mk (st := sIsOpen) l12 c12 k12
  have F13 := fun_mk (st := sCanPut) l13 c13 k13
  have F14 := fun_mk (st := sLaid) l14 c14 k14
  have F15 := fun_mk (st := sChanged) l15 c15 k15
  have F16 := fun_mk (st := sIsName) l16 c16 k16
  have F17 := fun_mk (st := sReadLine) l17 c17 k17
  have F18 := fun_mk (st := sReadRows) l18 c18 k18
  have F19 := fun_mk (st := sReadThings) l19 c19 k19
  have F20 := fun_mk (st := sReadPlaces) l20 c20 k20
  have F21 := fun_mk (st := sCheckKeys) l21 c21 k21
  have F22 := fun_mk (st := sPick) l22 c22 k22
  have F23 := fun_mk (st := sFixed) l23 c23 k23
  have F24 := fun_mk (st := sNames) l24 c24 k24
  have F25 := fun_mk (st := sLine) l25 c25 k25
  have F26 := fun_mk (st := sRoom) l26 c26 k26
  have F27 := fun_mk (st := sSizes) l27 c27 k27
  have F28 := fun_mk (st := sLids) l28 c28 k28
  have F29 := fun_mk (st := sWorld) l29 c29 k29
  have F30 := fun_mk (st := sSame) l30 c30 k30
  have F31 := fun_mk (st := sLHeap) l31 c31 k31
  have F32 := fun_mk (st := sLLaid) l32 c32 k32
  have F33 := fun_mk (st := sLTip) l33 c33 k33
  have F34 := fun_mk (st := sLMoves) l34 c34 k34
  have F35 := fun_mk (st := sLMeets) l35 c35 k35
  have F36 := fun_mk (st := sLLine) l36 c36 k36
  have F37 := fun_mk (st := sLaw) l37 c37 k37
  have F38 := fun_mk (st := sInit) l38 c38 k38
  have b38 := F38.binds (ps := ["self", "lines"]) fun _ _ _ _ _ _ => ln2 fun _ _ => rfl
  have F39 := fun_mk (st := sPlaces) l39 c39 k39
  have b39 := F39.binds (ps := ["self"]) fun _ _ _ _ _ _ => ln1 fun _ => rfl
  have D1 : Df K mg "heap_in" sHeapIn ["room", "world", "place"] f1 _ := ⟨F1, PySem.W.mg_of X G a1, F1.binds (ps := ["room", "world", "place"]) fun _ _ _ _ _ _ => ln3 fun _ _ _ => rfl⟩
  have D2 : Df K mg "lid_on" sLidOn ["room", "world", "place"] f2 _ := ⟨F2, PySem.W.mg_of X G a2, F2.binds (ps := ["room", "world", "place"]) fun _ _ _ _ _ _ => ln3 fun _ _ _ => rfl⟩
  have D3 : Df K mg "turns" sTurns ["room", "line", "world"] f3 _ := ⟨F3, PySem.W.mg_of X G a3, F3.binds (ps := ["room", "line", "world"]) fun _ _ _ _ _ _ => ln3 fun _ _ _ => rfl⟩
  have D4 : Df K mg "read_deed" sReadDeed ["room", "line"] f4 _ := ⟨F4, PySem.W.mg_of X G a4, F4.binds (ps := ["room", "line"]) fun _ _ _ _ _ _ => ln2 fun _ _ => rfl⟩
  have D5 : Df K mg "move_things" sMoveThings ["room", "world", "word", "place"] f5 _ := ⟨F5, PySem.W.mg_of X G a5, F5.binds (ps := ["room", "world", "word", "place"]) fun _ _ _ _ _ _ => ln4 fun _ _ _ _ => rfl⟩
  have D6 : Df K mg "take" sTake ["room", "world", "place"] f6 _ := ⟨F6, PySem.W.mg_of X G a6, F6.binds (ps := ["room", "world", "place"]) fun _ _ _ _ _ _ => ln3 fun _ _ _ => rfl⟩
  have D7 : Df K mg "put" sPut ["room", "world", "place"] f7 _ := ⟨F7, PySem.W.mg_of X G a7, F7.binds (ps := ["room", "world", "place"]) fun _ _ _ _ _ _ => ln3 fun _ _ _ => rfl⟩
  have D8 : Df K mg "toss" sToss ["room", "world", "place"] f8 _ := ⟨F8, PySem.W.mg_of X G a8, F8.binds (ps := ["room", "world", "place"]) fun _ _ _ _ _ _ => ln3 fun _ _ _ => rfl⟩
  have D9 : Df K mg "shake" sShake ["room", "world", "place"] f9 _ := ⟨F9, PySem.W.mg_of X G a9, F9.binds (ps := ["room", "world", "place"]) fun _ _ _ _ _ _ => ln3 fun _ _ _ => rfl⟩
  have D10 : Df K mg "tip" sTip ["room", "world", "place", "other"] f10 _ := ⟨F10, PySem.W.mg_of X G a10, F10.binds (ps := ["room", "world", "place", "other"]) fun _ _ _ _ _ _ => ln4 fun _ _ _ _ => rfl⟩
  have D11 : Df K mg "is_free" sIsFree ["world"] f11 _ := ⟨F11, PySem.W.mg_of X G a11, F11.binds (ps := ["world"]) fun _ _ _ _ _ _ => ln1 fun _ => rfl⟩
  have D12 : Df K mg "is_open" sIsOpen ["room", "world", "place"] f12 _ := ⟨F12, PySem.W.mg_of X G a12, F12.binds (ps := ["room", "world", "place"]) fun _ _ _ _ _ _ => ln3 fun _ _ _ => rfl⟩
  have D13 : Df K mg "can_put" sCanPut ["room", "world", "place"] f13 _ := ⟨F13, PySem.W.mg_of X G a13, F13.binds (ps := ["room", "world", "place"]) fun _ _ _ _ _ _ => ln3 fun _ _ _ => rfl⟩
  have D14 : Df K mg "laid" sLaid ["room", "world", "place"] f14 _ := ⟨F14, PySem.W.mg_of X G a14, F14.binds (ps := ["room", "world", "place"]) fun _ _ _ _ _ _ => ln3 fun _ _ _ => rfl⟩
  have D15 : Df K mg "changed" sChanged ["room", "entries", "place", "entry"] f15 _ := ⟨F15, PySem.W.mg_of X G a15, F15.binds (ps := ["room", "entries", "place", "entry"]) fun _ _ _ _ _ _ => ln4 fun _ _ _ _ => rfl⟩
  have D16 : Df K mg "is_name" sIsName ["text"] f16 _ := ⟨F16, PySem.W.mg_of X G a16, F16.binds (ps := ["text"]) fun _ _ _ _ _ _ => ln1 fun _ => rfl⟩
  have D17 : Df K mg "read_line" sReadLine ["line"] f17 _ := ⟨F17, PySem.W.mg_of X G a17, F17.binds (ps := ["line"]) fun _ _ _ _ _ _ => ln1 fun _ => rfl⟩
  have D18 : Df K mg "read_rows" sReadRows ["lines"] f18 _ := ⟨F18, PySem.W.mg_of X G a18, F18.binds (ps := ["lines"]) fun _ _ _ _ _ _ => ln1 fun _ => rfl⟩
  have D19 : Df K mg "read_things" sReadThings ["rows"] f19 _ := ⟨F19, PySem.W.mg_of X G a19, F19.binds (ps := ["rows"]) fun _ _ _ _ _ _ => ln1 fun _ => rfl⟩
  have D20 : Df K mg "read_places" sReadPlaces ["rows"] f20 _ := ⟨F20, PySem.W.mg_of X G a20, F20.binds (ps := ["rows"]) fun _ _ _ _ _ _ => ln1 fun _ => rfl⟩
  have D21 : Df K mg "check_keys" sCheckKeys ["places", "shapes"] f21 _ := ⟨F21, PySem.W.mg_of X G a21, F21.binds (ps := ["places", "shapes"]) fun _ _ _ _ _ _ => ln2 fun _ _ => rfl⟩
  have D22 : Df K mg "_law_pick" sPick ["_law_script", "_law_k", "_law_many"] f22 _ := ⟨F22, PySem.W.mg_of X G a22, F22.binds (ps := ["_law_script", "_law_k", "_law_many"]) fun _ _ _ _ _ _ => ln3 fun _ _ _ => rfl⟩
  have D23 : Df K mg "_law_fixed" sFixed ["_law_text"] f23 _ := ⟨F23, PySem.W.mg_of X G a23, F23.binds (ps := ["_law_text"]) fun _ _ _ _ _ _ => ln1 fun _ => rfl⟩
  have D24 : Df K mg "_law_names" sNames ["_law_script", "_law_k", "_law_many"] f24 _ := ⟨F24, PySem.W.mg_of X G a24, F24.binds (ps := ["_law_script", "_law_k", "_law_many"]) fun _ _ _ _ _ _ => ln3 fun _ _ _ => rfl⟩
  have D25 : Df K mg "_law_place_line" sLine ["_law_script", "_law_k", "_law_room_here", "_law_name"] f25 _ := ⟨F25, PySem.W.mg_of X G a25, F25.binds (ps := ["_law_script", "_law_k", "_law_room_here", "_law_name"]) fun _ _ _ _ _ _ => ln4 fun _ _ _ _ => rfl⟩
  have D26 : Df K mg "_law_room" sRoom ["_law_script", "_law_places", "_law_things"] f26 _ := ⟨F26, PySem.W.mg_of X G a26, F26.binds (ps := ["_law_script", "_law_places", "_law_things"]) fun _ _ _ _ _ _ => ln3 fun _ _ _ => rfl⟩
  have D27 : Df K mg "_law_sizes" sSizes ["_law_script"] f27 _ := ⟨F27, PySem.W.mg_of X G a27, F27.binds (ps := ["_law_script"]) fun _ _ _ _ _ _ => ln1 fun _ => rfl⟩
  have D28 : Df K mg "_law_lids" sLids ["_law_room_here", "_law_place"] f28 _ := ⟨F28, PySem.W.mg_of X G a28, F28.binds (ps := ["_law_room_here", "_law_place"]) fun _ _ _ _ _ _ => ln2 fun _ _ => rfl⟩
  have D29 : Df K mg "_law_world" sWorld ["_law_script", "_law_k", "_law_room_here"] f29 _ := ⟨F29, PySem.W.mg_of X G a29, F29.binds (ps := ["_law_script", "_law_k", "_law_room_here"]) fun _ _ _ _ _ _ => ln3 fun _ _ _ => rfl⟩
  have D30 : Df K mg "_law_same" sSame ["_law_told", "_law_world_here"] f30 _ := ⟨F30, PySem.W.mg_of X G a30, F30.binds (ps := ["_law_told", "_law_world_here"]) fun _ _ _ _ _ _ => ln2 fun _ _ => rfl⟩
  have D31 : Df K mg "_law_heap" sLHeap ["_law_world_here", "_law_at", "_law_heap_here"] f31 _ := ⟨F31, PySem.W.mg_of X G a31, F31.binds (ps := ["_law_world_here", "_law_at", "_law_heap_here"]) fun _ _ _ _ _ _ => ln3 fun _ _ _ => rfl⟩
  have D32 : Df K mg "_law_laid" sLLaid ["_law_world_here", "_law_at"] f32 _ := ⟨F32, PySem.W.mg_of X G a32, F32.binds (ps := ["_law_world_here", "_law_at"]) fun _ _ _ _ _ _ => ln2 fun _ _ => rfl⟩
  have D33 : Df K mg "_law_tip" sLTip ["_law_world_here", "_law_at", "_law_to"] f33 _ := ⟨F33, PySem.W.mg_of X G a33, F33.binds (ps := ["_law_world_here", "_law_at", "_law_to"]) fun _ _ _ _ _ _ => ln3 fun _ _ _ => rfl⟩
  have D34 : Df K mg "_law_moves" sLMoves ["_law_word", "_law_at", "_law_to", "_law_world_here"] f34 _ := ⟨F34, PySem.W.mg_of X G a34, F34.binds (ps := ["_law_word", "_law_at", "_law_to", "_law_world_here"]) fun _ _ _ _ _ _ => ln4 fun _ _ _ _ => rfl⟩
  have D35 : Df K mg "_law_meets" sLMeets ["_law_told", "_law_due"] f35 _ := ⟨F35, PySem.W.mg_of X G a35, F35.binds (ps := ["_law_told", "_law_due"]) fun _ _ _ _ _ _ => ln2 fun _ _ => rfl⟩
  have D36 : Df K mg "_law_line" sLLine ["_law_script", "_law_k", "_law_places"] f36 _ := ⟨F36, PySem.W.mg_of X G a36, F36.binds (ps := ["_law_script", "_law_k", "_law_places"]) fun _ _ _ _ _ _ => ln3 fun _ _ _ => rfl⟩
  refine ⟨PySem.W.fnOf "law" "law" (defArgs sLaw) (defBody sLaw) (defScope sLaw) .none kV37 dc37 pm37 an37 cd37 ct37, fun s v => .of_eq rfl, fun base _ _ => ?_⟩
  have GQ := ok_pickD (P := l.prog) (w := w) (base := base) F22 T
  have GP := ok_pick GQ
  have GX := ok_fixed (P := l.prog) (w := w) (mg := mg) (base := base) F23
  have GN := ok_names (P := l.prog) (w := w) (base := base) F24 D22 D23 T GQ GX
  have GL := ok_line (P := l.prog) (w := w) (base := base) F25 D22 T GP
  have GR := ok_room (P := l.prog) (w := w) (base := base) F26 D22 D24 D25 T GP GN GL
  have GS := ok_sizes (P := l.prog) (w := w) (base := base) F27 D22 T GP
  have GI := ok_lids (P := l.prog) (w := w) (mg := mg) (base := base) F28
  have GW := ok_world (P := l.prog) (w := w) (base := base) F29 D22 D28 T GP GI
  have Gis := ok_isname (P := l.prog) (w := w) (base := base) F16 T M
  have Grl := ok_readline (P := l.prog) (w := w) (base := base) F17 D16 T M Gis
  have Grr := ok_readrows (P := l.prog) (w := w) (base := base) F18 D17 T Grl
  have Gth := ok_things (P := l.prog) (w := w) (base := base) F19 T M
  have Gpl := ok_places (P := l.prog) (w := w) (base := base) F20 T M
  have Gck := ok_check (P := l.prog) (w := w) (mg := mg) (base := base) F21
  have Gin := ok_init (P := l.prog) (w := w) (base := base) F38 L D18 D20 D19 D21 Grr Gpl Gth Gck
  have Gps := ok_pl (P := l.prog) (w := w) (base := base) F39 L T
  have DD : Dd l.prog w K mg aP := ⟨PySem.W.mg_of X G gPl, kd_of lPl sPl vPl hPl (by decide +kernel)⟩
  have DL : Dl l.prog w K mg aL t1 t2 t3 t4 := ⟨PySem.W.mg_of X G gLi, kd_of lLi sLi vLi hLi (by show List.Nodup ([Sum.inr "open", Sum.inr "shut", Sum.inr "lock", Sum.inr "unlock"] : List Key); decide +kernel), fun H => .inr ⟨_, iT1, nT1, lT1, rfl, rfl, by
      have h1 := (vals_abs wT1).length
      have h2 : iT1.toList.length = iT1.size := by simp
      have h3 : ([V.str "shut", V.str "open"] : List V).length = 2 := rfl
      have hs : sizeLine = 16777216 := sizeLine_eq
      lia, vals_abs wT1⟩, fun H => .inr ⟨_, iT2, nT2, lT2, rfl, rfl, by
      have h1 := (vals_abs wT2).length
      have h2 : iT2.toList.length = iT2.size := by simp
      have h3 : ([V.str "open", V.str "shut"] : List V).length = 2 := rfl
      have hs : sizeLine = 16777216 := sizeLine_eq
      lia, vals_abs wT2⟩, fun H => .inr ⟨_, iT3, nT3, lT3, rfl, rfl, by
      have h1 := (vals_abs wT3).length
      have h2 : iT3.toList.length = iT3.size := by simp
      have h3 : ([V.str "shut", V.str "locked"] : List V).length = 2 := rfl
      have hs : sizeLine = 16777216 := sizeLine_eq
      lia, vals_abs wT3⟩, fun H => .inr ⟨_, iT4, nT4, lT4, rfl, rfl, by
      have h1 := (vals_abs wT4).length
      have h2 : iT4.toList.length = iT4.size := by simp
      have h3 : ([V.str "locked", V.str "shut"] : List V).length = 2 := rfl
      have hs : sizeLine = 16777216 := sizeLine_eq
      lia, vals_abs wT4⟩⟩
  have Ghi := ok_heapin (P := l.prog) (w := w) (mg := mg) (base := base) F1 L b39 ⟨a39, i39, k39⟩ Gps
  have Gln := ok_lidon (P := l.prog) (w := w) (mg := mg) (base := base) F2 L b39 ⟨a39, i39, k39⟩ Gps
  have Gif := ok_isfree (P := l.prog) (w := w) (mg := mg) (base := base) F11
  have Gio := ok_isopen (P := l.prog) (w := w) (base := base) F12 D2 Gln
  have Gch := ok_changed (P := l.prog) (w := w) (mg := mg) (base := base) F15 L b39 ⟨a39, i39, k39⟩ Gps
  have Grd := ok_readdeedV (P := l.prog) (w := w) (base := base) F4 T L DD b39 ⟨a39, i39, k39⟩ Gps
  have Gcp := ok_canput (P := l.prog) (w := w) (base := base) F13 D11 Gif D12 Gio
  have Gla := ok_laid (P := l.prog) (w := w) (base := base) F14 D1 Ghi D15 Gch
  have Gpu := ok_put (P := l.prog) (w := w) (base := base) F7 D13 Gcp D14 Gla
  have Gto := ok_toss (P := l.prog) (w := w) (base := base) F8 L b39 ⟨a39, i39, k39⟩ Gps D13 Gcp D14 Gla
  have Gtk := ok_take (P := l.prog) (w := w) (base := base) F6 T D1 D11 D12 D15 Ghi Gif Gio Gch
  have Gsk := ok_shake (P := l.prog) (w := w) (base := base) F9 T D1 D11 D12 D15 Ghi Gif Gio Gch
  have Gti := ok_tip (P := l.prog) (w := w) (base := base) F10 T D1 D11 D12 D15 Ghi Gif Gio Gch
  have Gmt := ok_moveT (P := l.prog) (w := w) (base := base) F5 D6 Gtk D7 Gpu D8 Gto D9 Gsk
  have Gtu := ok_turnsT (P := l.prog) (w := w) (base := base) F3 DL D4 Grd D10 Gti D5 Gmt
  have Gsa := ok_same (P := l.prog) (w := w) (base := base) F30 T
  have Gme := ok_meets (P := l.prog) (w := w) (base := base) F35 T D30 Gsa
  have Glh := ok_lheap (P := l.prog) (w := w) (mg := mg) (base := base) F31
  have Gll := ok_llaid (P := l.prog) (w := w) (base := base) F32 D31 Glh
  have Glt := ok_ltip (P := l.prog) (w := w) (base := base) F33 T D31 Glh
  have Glm := ok_lmoves (P := l.prog) (w := w) (base := base) F34 T D31 Glh D32 Gll D33 Glt
  have Gli := ok_lline (P := l.prog) (w := w) (base := base) F36 T D22 GP
  exact ok_law F37 D27 D26 D29 D36 D34 D3 D35 T ⟨mk, a38, i38, kc⟩ (PySem.W.mg_of X G aC) b38 Gin GS GR GW Gli Glm Gtu Gme
theorem walk {l : PySem.W.OpenLaw} {q : Program} {loose : List Str} {XP : (Str → Option Value) → Heap → Prop} {YP : World → Heap → Prop} {d : DefRec} {K : Params → PySem.W.Frag} (hn : l.most = some 63) (hdf : d.params.defaults = [])
    (hY : ∀ (w : World) (h : Heap), YP w h → (K w.params).In h)
    (F : ∀ (w : World) (mg : Str → Option Value) (fa : Addr) (h : Heap), (K w.params).In h → h.Ns mainGlobals mg → mg d.name = some (.ref fa) →
      ∃ fd : FuncData, (∀ (s : Shared) (u : Value), BindsTo s fd ⟨[u], []⟩ [("_law_script", u)]) ∧ ∀ base : Heap, (K w.params).In base → base.Ns mainGlobals mg → FnOk l.prog w (K w.params) mg base CX0 9 fa fd ["_law_script"] (spLaw (K w.params))) :
    PySem.W.WalkO q loose XP YP l.row.toRowW d [] (fun f vs => PySem.call f vs) :=
  L2.walk_of (n := 63) (k := 9) (x := "_law_script") (CX := fun _ => CX0) (sp := fun w => spLaw (K w.params)) hn (by decide) hdf ⟨rfl, by decide, by decide⟩ hY F (fun _ _ a ns hl _ hS => ⟨a, ns, rfl, hS, hl, fun _ => rfl⟩) fun _ _ _ _ _ z => z
end K07
/-- names that are taken: the twins that would have them are made for the walk alone, and it goes without them as well -/
def PySem.W.Fast.tw4511647483919874244 : Nat := 0
def PySem.W.Fast.tw5336649873118994108 : Nat := 0
def PySem.W.Fast.tw15956651692424642978 : Nat := 0
def PySem.W.Fast.tw166001922640260561 : Nat := 0
def PySem.W.Fast.tw17144889018148001677 : Nat := 0
def PySem.W.Fast.tw9502328060283897331 : Nat := 0
def PySem.W.Fast.tw14751504346320753845 : Nat := 0
def PySem.W.Fast.tw5037388624174695621 : Nat := 0
def PySem.W.Fast.tw17519346551093977449 : Nat := 0
def PySem.W.Fast.tw4327230761940537253 : Nat := 0
def PySem.W.Fast.tw14989432466353289080 : Nat := 0
def PySem.W.Fast.tw4330275962600684835 : Nat := 0
def PySem.W.Fast.tw1802460216842293342 : Nat := 0
def PySem.W.Fast.tw5614487556971087492 : Nat := 0
def PySem.W.Fast.tw14423242784125742986 : Nat := 0
def PySem.W.Fast.tw8330226910582704403 : Nat := 0
def PySem.W.Fast.tw11141549523077015680 : Nat := 0
def PySem.W.Fast.tw15337189782598923200 : Nat := 0
def PySem.W.Fast.tw15803651491409727401 : Nat := 0
def PySem.W.Fast.tw15789190882262264252 : Nat := 0
def PySem.W.Fast.tw6493533667930513116 : Nat := 0
def PySem.W.Fast.tw14756881746314194593 : Nat := 0
def PySem.W.Fast.tw6074588445779462675 : Nat := 0
def PySem.W.Fast.tw2935838179120858988 : Nat := 0
def PySem.W.Fast.tw6672195885885393335 : Nat := 0
open PySem PySem.W PyProof.Rows
set_option maxRecDepth 100000 in
set_option maxHeartbeats 0 in
theorem PySem.Challenge.cw_grope_k07_things_moved_holds : PySem.Challenge.rw_grope_k07_things_moved.Holds := by
  w_on; o_law; k_head; (case hw => w_witness2)
  k_fill
  refine K07.walk (l := PySem.Challenge.rw_grope_k07_things_moved) rfl rfl (fun w h Y => PySem.W.kIn_of Y) ?F
  case F =>
    intro w mg fa h KX G hmg
    refine' K07.all_mk KX G hmg ?a1 ?l1 ?c1 ?k1 ?a2 ?l2 ?c2 ?k2 ?a3 ?l3 ?c3 ?k3 ?a4 ?l4 ?c4 ?k4 ?a5 ?l5 ?c5 ?k5 ?a6 ?l6 ?c6 ?k6 ?a7 ?l7 ?c7 ?k7 ?a8 ?l8 ?c8 ?k8 ?a9 ?l9 ?c9 ?k9 ?a10 ?l10 ?c10 ?k10 ?a11 ?l11 ?c11 ?k11 ?a12 ?l12 ?c12 ?k12 ?a13 ?l13 ?c13 ?k13 ?a14 ?l14 ?c14 ?k14 ?a15 ?l15 ?c15 ?k15 ?a16 ?l16 ?c16 ?k16 ?a17 ?l17 ?c17 ?k17 ?a18 ?l18 ?c18 ?k18 ?a19 ?l19 ?c19 ?k19 ?a20 ?l20 ?c20 ?k20 ?a21 ?l21 ?c21 ?k21 ?a22 ?l22 ?c22 ?k22 ?a23 ?l23 ?c23 ?k23 ?a24 ?l24 ?c24 ?k24 ?a25 ?l25 ?c25 ?k25 ?a26 ?l26 ?c26 ?k26 ?a27 ?l27 ?c27 ?k27 ?a28 ?l28 ?c28 ?k28 ?a29 ?l29 ?c29 ?k29 ?a30 ?l30 ?c30 ?k30 ?a31 ?l31 ?c31 ?k31 ?a32 ?l32 ?c32 ?k32 ?a33 ?l33 ?c33 ?k33 ?a34 ?l34 ?c34 ?k34 ?a35 ?l35 ?c35 ?k35 ?a36 ?l36 ?c36 ?k36 ?a37 ?l37 ?c37 ?k37 ?aC ?a38 ?i38 ?l38 ?c38 ?k38 ?a39 ?i39 ?l39 ?c39 ?k39 ?pg ?hd ?po ?sa ?mk ?kc ?nP ?nS ?gL ?vL ?gO ?vO ?gP ?vP ?gT ?vT ?gN ?lN ?vN ?gF ?lF ?vF ?lF1 ?vF1 ?lF2 ?vF2 ?lF3 ?vF3 ?lF4 ?vF4 ?gPl ?lPl ?sPl ?vPl ?hPl ?gLi ?lLi ?sLi ?vLi ?hLi ?lT1 ?wT1 ?lT2 ?wT2 ?lT3 ?wT3 ?lT4 ?wT4 ?z1 ?z2 ?z3 ?z4 ?z5 ?z6 ?z7 ?z8 ?z9 ?z10 ?z11 ?z12 ?z13
    (case a1 => k_is)
    (case l1 => k_is)
    (case c1 => k_is)
    (case k1 => k_is)
    (case a2 => k_is)
    (case l2 => k_is)
    (case c2 => k_is)
    (case k2 => k_is)
    (case a3 => k_is)
    (case l3 => k_is)
    (case c3 => k_is)
    (case k3 => k_is)
    (case a4 => k_is)
    (case l4 => k_is)
    (case c4 => k_is)
    (case k4 => k_is)
    (case a5 => k_is)
    (case l5 => k_is)
    (case c5 => k_is)
    (case k5 => k_is)
    (case a6 => k_is)
    (case l6 => k_is)
    (case c6 => k_is)
    (case k6 => k_is)
    (case a7 => k_is)
    (case l7 => k_is)
    (case c7 => k_is)
    (case k7 => k_is)
    (case a8 => k_is)
    (case l8 => k_is)
    (case c8 => k_is)
    (case k8 => k_is)
    (case a9 => k_is)
    (case l9 => k_is)
    (case c9 => k_is)
    (case k9 => k_is)
    (case a10 => k_is)
    (case l10 => k_is)
    (case c10 => k_is)
    (case k10 => k_is)
    (case a11 => k_is)
    (case l11 => k_is)
    (case c11 => k_is)
    (case k11 => k_is)
    (case a12 => k_is)
    (case l12 => k_is)
    (case c12 => k_is)
    (case k12 => k_is)
    (case a13 => k_is)
    (case l13 => k_is)
    (case c13 => k_is)
    (case k13 => k_is)
    (case a14 => k_is)
    (case l14 => k_is)
    (case c14 => k_is)
    (case k14 => k_is)
    (case a15 => k_is)
    (case l15 => k_is)
    (case c15 => k_is)
    (case k15 => k_is)
    (case a16 => k_is)
    (case l16 => k_is)
    (case c16 => k_is)
    (case k16 => k_is)
    (case a17 => k_is)
    (case l17 => k_is)
    (case c17 => k_is)
    (case k17 => k_is)
    (case a18 => k_is)
    (case l18 => k_is)
    (case c18 => k_is)
    (case k18 => k_is)
    (case a19 => k_is)
    (case l19 => k_is)
    (case c19 => k_is)
    (case k19 => k_is)
    (case a20 => k_is)
    (case l20 => k_is)
    (case c20 => k_is)
    (case k20 => k_is)
    (case a21 => k_is)
    (case l21 => k_is)
    (case c21 => k_is)
    (case k21 => k_is)
    (case a22 => k_is)
    (case l22 => k_is)
    (case c22 => k_is)
    (case k22 => k_is)
    (case a23 => k_is)
    (case l23 => k_is)
    (case c23 => k_is)
    (case k23 => k_is)
    (case a24 => k_is)
    (case l24 => k_is)
    (case c24 => k_is)
    (case k24 => k_is)
    (case a25 => k_is)
    (case l25 => k_is)
    (case c25 => k_is)
    (case k25 => k_is)
    (case a26 => k_is)
    (case l26 => k_is)
    (case c26 => k_is)
    (case k26 => k_is)
    (case a27 => k_is)
    (case l27 => k_is)
    (case c27 => k_is)
    (case k27 => k_is)
    (case a28 => k_is)
    (case l28 => k_is)
    (case c28 => k_is)
    (case k28 => k_is)
    (case a29 => k_is)
    (case l29 => k_is)
    (case c29 => k_is)
    (case k29 => k_is)
    (case a30 => k_is)
    (case l30 => k_is)
    (case c30 => k_is)
    (case k30 => k_is)
    (case a31 => k_is)
    (case l31 => k_is)
    (case c31 => k_is)
    (case k31 => k_is)
    (case a32 => k_is)
    (case l32 => k_is)
    (case c32 => k_is)
    (case k32 => k_is)
    (case a33 => k_is)
    (case l33 => k_is)
    (case c33 => k_is)
    (case k33 => k_is)
    (case a34 => k_is)
    (case l34 => k_is)
    (case c34 => k_is)
    (case k34 => k_is)
    (case a35 => k_is)
    (case l35 => k_is)
    (case c35 => k_is)
    (case k35 => k_is)
    (case a36 => k_is)
    (case l36 => k_is)
    (case c36 => k_is)
    (case k36 => k_is)
    (case a37 => k_is)
    (case l37 => k_is)
    (case c37 => k_is)
    (case k37 => k_is)
    (case aC => k_is)
    (case a38 => k_is)
    (case i38 => k_is)
    (case l38 => k_is)
    (case c38 => k_is)
    (case k38 => k_is)
    (case a39 => k_is)
    (case i39 => k_is)
    (case l39 => k_is)
    (case c39 => k_is)
    (case k39 => k_is)
    (case pg => k_is)
    (case hd => k_is)
    (case po => k_is)
    (case sa => k_is)
    (case mk => k_is)
    (case kc => k_is)
    (case nP => k_is)
    (case nS => k_is)
    (case gL => k_is)
    (case vL => first | rfl | decide +kernel | k_is)
    (case gO => k_is)
    (case vO => first | rfl | decide +kernel | k_is)
    (case gP => k_is)
    (case vP => first | rfl | decide +kernel | k_is)
    (case gT => k_is)
    (case vT => first | rfl | decide +kernel | k_is)
    (case gN => k_is)
    (case lN => k_is)
    (case vN => first | rfl | decide +kernel | k_is)
    (case gF => k_is)
    (case lF => k_is)
    (case vF => first | rfl | decide +kernel | k_is)
    (case lF1 => k_is)
    (case vF1 => first | rfl | decide +kernel | k_is)
    (case lF2 => k_is)
    (case vF2 => first | rfl | decide +kernel | k_is)
    (case lF3 => k_is)
    (case vF3 => first | rfl | decide +kernel | k_is)
    (case lF4 => k_is)
    (case vF4 => first | rfl | decide +kernel | k_is)
    (case gPl => k_is)
    (case lPl => k_is)
    (case sPl => first | rfl | decide +kernel)
    (case vPl => first | rfl | decide +kernel)
    (case hPl => first | rfl | (with_unfolding_all rfl))
    (case gLi => k_is)
    (case lLi => k_is)
    (case sLi => first | rfl | decide +kernel)
    (case vLi => first | rfl | decide +kernel)
    (case hLi => first | rfl | (with_unfolding_all rfl))
    (case lT1 => k_is)
    (case wT1 => first | rfl | decide +kernel | k_is)
    (case lT2 => k_is)
    (case wT2 => first | rfl | decide +kernel | k_is)
    (case lT3 => k_is)
    (case wT3 => first | rfl | decide +kernel | k_is)
    (case lT4 => k_is)
    (case wT4 => first | rfl | decide +kernel | k_is)
    (case z1 => k_is)
    (case z2 => k_is)
    (case z3 => k_is)
    (case z4 => k_is)
    (case z5 => k_is)
    (case z6 => k_is)
    (case z7 => k_is)
    (case z8 => k_is)
    (case z9 => k_is)
    (case z10 => k_is)
    (case z11 => k_is)
    (case z12 => k_is)
    (case z13 => k_is)
#print axioms PySem.Challenge.cw_grope_k07_things_moved_holds
