import PyProof.Rows.All
import Wide.All
import OpenK.AllK
import Wide.FinOn
import Lean
import PyProof.EqAt
import PyProof.EqKinds
import PyProof.TupleCall
import PySem.Challenge.RW_grope_k12_no_look
set_option Elab.async false
set_option linter.all false
set_option maxRecDepth 100000
set_option maxHeartbeats 4000000
namespace L2
open PySem PySem.Spec PyProof.Rows
noncomputable abbrev Key := Sum Int Str
noncomputable def keyIs : Key → Value → Bool
  | .inl k, v => Value.isInt k v
  | .inr x, v => Value.isStrOf x v
noncomputable def keyH (w : World) : Key → Int
  | .inl k => hashInt k
  | .inr x => hashStr w x
theorem keyIs_shape : ∀ {k : Key} {v : Value}, keyIs k v = true → (∃ i t, k = Sum.inl i ∧ v = Value.int i t) ∨ (∃ x t, k = Sum.inr x ∧ v = Value.str x t)
  | .inl i, v, h => by
    obtain ⟨t, e⟩ := Value.isInt_shape (k := i) (v := v) h
    exact .inl ⟨i, t, rfl, e⟩
  | .inr x, v, h => by
    obtain ⟨t, e⟩ := Value.isStrOf_shape (x := x) (v := v) h
    exact .inr ⟨x, t, rfl, e⟩
theorem keyIs_int (i : Int) (t : Tok) : keyIs (.inl i) (.int i t) = true := by simp [keyIs, Value.isInt]
theorem keyIs_str (x : Str) (t : Tok) : keyIs (.inr x) (.str x t) = true := by simp [keyIs, Value.isStrOf]
theorem key_ll (a b : Int) : decide ((Sum.inl a : Key) = Sum.inl b) = (a == b) := by
  by_cases e : a = b
  · subst e; simp
  · have h : ¬ (Sum.inl a : Key) = Sum.inl b := fun q => e (Sum.inl.inj q)
    rw [decide_eq_false h]
    exact (beq_eq_false_iff_ne.mpr e).symm
theorem key_rr (a b : Str) : decide ((Sum.inr a : Key) = Sum.inr b) = decide (a = b) := by
  by_cases e : a = b
  · subst e; simp
  · have h : ¬ (Sum.inr a : Key) = Sum.inr b := fun q => e (Sum.inr.inj q)
    rw [decide_eq_false h, decide_eq_false e]
theorem key_lr (a : Int) (b : Str) : decide ((Sum.inl a : Key) = Sum.inr b) = false := decide_eq_false (fun q => nomatch q)
theorem key_rl (a : Str) (b : Int) : decide ((Sum.inr a : Key) = Sum.inl b) = false := decide_eq_false (fun q => nomatch q)
noncomputable def mixKind (prog : Program) (w : World) : PySem.KeyKind prog w Key where
  is := keyIs
  hash := keyH w
  inj := fun v a b ha hb => by
    rcases keyIs_shape ha with ⟨i, t, rfl, rfl⟩ | ⟨x, t, rfl, rfl⟩
    · rcases keyIs_shape hb with ⟨j, u, rfl, e⟩ | ⟨y, u, rfl, e⟩
      · injection e with e1 _; rw [e1]
      · exact nomatch e
    · rcases keyIs_shape hb with ⟨j, u, rfl, e⟩ | ⟨y, u, rfl, e⟩
      · exact nomatch e
      · injection e with e1 _; rw [e1]
  byValue := fun k v h => by
    rcases keyIs_shape h with ⟨i, t, rfl, rfl⟩ | ⟨x, t, rfl, rfl⟩ <;> rfl
  pyHash := fun hv h => by
    rcases keyIs_shape hv with ⟨i, t, rfl, rfl⟩ | ⟨x, t, rfl, rfl⟩
    · exact wpAny_pyHash_int h
    · exact wpAny_pyHash_str h
  eqBool := fun hu hv h => by
    rcases keyIs_shape hu with ⟨i, t, rfl, rfl⟩ | ⟨x, t, rfl, rfl⟩
    · rcases keyIs_shape hv with ⟨j, u, rfl, rfl⟩ | ⟨y, u, rfl, rfl⟩
      · rw [key_ll] at h; exact wpAny_eqBool_int h
      · rw [key_lr] at h; exact SeqAt.EqAt.int_str i t y u _ _ _ _ h
    · rcases keyIs_shape hv with ⟨j, u, rfl, rfl⟩ | ⟨y, u, rfl, rfl⟩
      · rw [key_rl] at h; exact SeqAt.EqAt.str_int x t j u _ _ _ _ h
      · rw [key_rr] at h; exact wpAny_eqBool_str h
  «strs» := fun k x t v h => by
    rcases keyIs_shape h with ⟨i, u, rfl, e⟩ | ⟨y, u, rfl, e⟩
    · exact nomatch e
    · injection e with e1 _
      subst e1
      cases v <;> rfl
theorem mixKind_int (prog : Program) (w : World) (i : Int) (t : Tok) : (mixKind prog w).is (.inl i) (.int i t) = true := keyIs_int i t
theorem mixKind_str (prog : Program) (w : World) (x : Str) (t : Tok) : (mixKind prog w).is (.inr x) (.str x t) = true := keyIs_str x t
end L2
namespace L2
open PySem PySem.Spec PyProof.Rows
inductive V where
  | non | bl (b : Bool) | int (i : Int) | str (x : Str) | byt (b : Array UInt8) | flt (b : UInt64) | ref (a : Addr) | ty (n : String)
  deriving DecidableEq
noncomputable def RelV : V → Value → Prop
  | .non, u => u = Value.none
  | .bl b, u => u = Value.bool b
  | .int i, u => ∃ t, u = Value.int i t
  | .str x, u => ∃ t, u = Value.str x t
  | .byt b, u => ∃ t, u = Value.bytes b t
  | .flt b, u => ∃ t, u = Value.float b t
  | .ref a, u => u = Value.ref a
  | .ty n, u => u = Value.type n
noncomputable abbrev Vals : List V → List Value → Prop := Paired RelV
theorem Vals.length {xs : List V} {us : List Value} (r : Vals xs us) : xs.length = us.length := Paired.length r
theorem Vals.get : ∀ {xs : List V} {us : List Value} {i : Nat} {x : V}, Vals xs us → xs[i]? = some x → ∃ u, us[i]? = some u ∧ RelV x u
  | _, _, _, _, .nil, e => by simp at e
  | _, _, 0, _, .cons r _, e => by simp at e; subst e; exact ⟨_, rfl, r⟩
  | _, _, i + 1, x, .cons _ t, e => by
    obtain ⟨u, h1, h2⟩ := Vals.get (i := i) (x := x) t (by simpa using e)
    exact ⟨u, by simpa using h1, h2⟩
theorem Vals.append : ∀ {xs ys : List V} {us ws : List Value}, Vals xs us → Vals ys ws → Vals (xs ++ ys) (us ++ ws)
  | _, _, _, _, .nil, s => s
  | _, _, _, _, .cons r t, s => .cons r (Vals.append t s)
theorem Vals.take : ∀ {xs : List V} {us : List Value} (n : Nat), Vals xs us → Vals (xs.take n) (us.take n)
  | _, _, 0, _ => .nil
  | _, _, _ + 1, .nil => .nil
  | _, _, n + 1, .cons r t => .cons r (Vals.take n t)
theorem Vals.drop : ∀ {xs : List V} {us : List Value} (n : Nat), Vals xs us → Vals (xs.drop n) (us.drop n)
  | _, _, 0, r => r
  | _, _, _ + 1, .nil => .nil
  | _, _, n + 1, .cons _ t => Vals.drop n t
noncomputable def RelO : Option V → Option Value → Prop
  | some v, some u => RelV v u
  | none, none => True
  | _, _ => False
noncomputable def KV {κ : Type} : List (κ × V) → List (κ × Value) → Prop := Paired fun (p : κ × V) (q : κ × Value) => p.1 = q.1 ∧ RelV p.2 q.2
noncomputable def kV : Key → V
  | .inl i => .int i
  | .inr x => .str x
inductive HO where
  /-- a list -/
  | lst (xs : List V)
  /-- a tuple (never changes) -/
  | tup (xs : List V)
  /-- a dict whose keys are ints and texts; one whose keys are tuples of ints and texts (the empty one is both) -/
  | dK (kvs : List (Key × V)) | dT (kvs : List (List Key × V))
  /-- a set of ints: its members, its size -/
  | set (S : Int → Bool) (n : Nat)
  /-- an instance of the class at C, its dict at dx, its attributes -/
  | ins (C dx : Addr) (fs : List (Str × V))
  /-- the dict of the instance at x -/
  | own (x : Addr)
  /-- the dict of an exception -/
  | xd (fs : List (Str × V))
  /-- a bound method, f of x -/
  | met (f x : Addr)
  /-- a range object lo, lo + 1, .. below hi -/
  | rng (lo hi : Int)
  /-- a thing that is known to the object (the script; a dict while a loop walks it): read, never written while it is so -/
  | frz (o : Obj) (u : HO)
  /-- a code object's table -/
  | tbl (ps : Array Value)
  /-- any other thing, by what is true of its one object (a def of one's own: SetO a S n := HO.ext fun h => ..) -/
  | ext (φ : Heap → Prop)
noncomputable abbrev Hp := Addr → Option HO
noncomputable def upd (H : Hp) (a : Addr) (o : HO) : Hp := fun b => if b = a then some o else H b
theorem upd_same {H : Hp} {a : Addr} {o : HO} : upd H a o a = some o := by unfold upd; rw [if_pos rfl]
theorem upd_ne {H : Hp} {a b : Addr} {o : HO} (h : b ≠ a) : upd H a o b = H b := by unfold upd; rw [if_neg h]
theorem upd_upd {H : Hp} {a : Addr} {o u : HO} : upd (upd H a o) a u = upd H a u := by
  funext b; unfold upd; split <;> rfl
theorem ne_of {H : Hp} {a b : Addr} {o u : HO} (h : H a = some o) (h' : H b = some u) (d : o ≠ u) : a ≠ b := by
  intro e; subst e; rw [h] at h'; exact d (Option.some.inj h')
theorem ne_of_none {H : Hp} {a b : Addr} {o : HO} (h : H a = some o) (h' : H b = none) : a ≠ b := by
  intro e; subst e; rw [h] at h'; cases h'
section
variable (P : Program) (w : World)
noncomputable def ObjOk (H : Hp) (h : Heap) (a : Addr) : HO → Prop
  | .lst xs => xs.length ≤ sizeLine ∧ ∃ (its : List Value) (n : Nat), Vals xs its ∧ h.get? a = some { cls := .type "list", data := .seq its.toArray n }
  | .tup xs => xs.length ≤ sizeLine ∧ ∃ its : List Value, Vals xs its ∧ IsTup h a its.toArray
  | .dK kvs => kvs.length ≤ sizeLine ∧ (a == sysModules) = false ∧ ∃ vs, KV kvs vs ∧ h.DictOf (mixKind P w) a vs
  | .dT kvs => kvs.length ≤ sizeLine ∧ (a == sysModules) = false ∧ ∃ xs : List (List Key × Addr × Value),
      Paired (fun (p : List Key × V) (q : List Key × Addr × Value) => p.1 = q.1 ∧ H q.2.1 = some (.tup (p.1.map kV)) ∧ RelV p.2 q.2.2) kvs xs ∧
      ∃ o es ep, h.get? a = some o ∧ o.ExactDict ∧ o.data = .dict es ep ∧ es.toList = xs.map (entryOfKey (tupleKind (mixKind P w))) ∧ (xs.map (·.1)).Nodup
  | .set S n => h.SetOf (intKind P w) a S n
  | .ins C dx fs => H dx = some (.own a) ∧ fs.length ≤ 1000 ∧ dx ≠ a ∧ h.get? a = some (PySem.W.instObj C dx) ∧
      ∃ mA, h.Ns1 dx mA ∧ (∀ f, RelO (fs.lookup f) (mA f)) ∧ PySem.Within mA (fs.map (·.1))
  | .own _ => ∃ o, h.get? a = some o
  | .xd fs => ∃ mA, h.Ns1 a mA ∧ ∀ f, RelO (fs.lookup f) (mA f)
  | .rng lo hi => ∃ t u v, h.get? a = some { cls := .type "range", data := .fields #[.int lo t, .int hi u, .int 1 v] }
  | .frz o u => h.get? a = some o ∧ ObjOk H h a u
  | .tbl ps => h.get? a = some { cls := .none, data := .fields ps }
  | .met f x => h.get? a = some (PySem.W.methodObj (.ref f) (.ref x))
  | .ext φ => φ h ∧ (∃ o, h.get? a = some o) ∧ ∀ h1 h2 : Heap, φ h1 → (∀ o, h1.get? a = some o → h2.get? a = some o) → φ h2
noncomputable def HOk (H : Hp) (h : Heap) : Prop := ∀ a o, H a = some o → ObjOk P w H h a o
end
section
variable {P : Program} {w : World} {H H' : Hp} {h h' : Heap} {a : Addr} {o : HO}
theorem ObjOk.lt (x : ObjOk P w H h a o) : a < h.objs.size := by
  cases o with
  | lst xs => obtain ⟨_, _, _, _, e⟩ := x; exact Heap.lt_size e
  | tup xs => obtain ⟨_, _, _, p⟩ := x; exact p.lt
  | dK kvs => obtain ⟨_, _, _, _, o, _, _, e, _⟩ := x; exact Heap.lt_size e
  | dT kvs => obtain ⟨_, _, _, _, o, _, _, e, _⟩ := x; exact Heap.lt_size e
  | set S n => obtain ⟨o, _, _, _, e, _⟩ := x; exact Heap.lt_size e
  | ins C dx fs => obtain ⟨_, _, _, e, _⟩ := x; exact Heap.lt_size e
  | own y => obtain ⟨_, e⟩ := x; exact Heap.lt_size e
  | xd fs => obtain ⟨_, ⟨_, _, _, e, _⟩, _⟩ := x; exact Heap.lt_size e
  | rng lo hi => obtain ⟨_, _, _, e⟩ := x; exact Heap.lt_size e
  | frz ob u => obtain ⟨e, _⟩ := x; exact Heap.lt_size e
  | tbl ps => exact Heap.lt_size (show h.get? a = some _ from x)
  | met f y => exact Heap.lt_size (show h.get? a = some _ from x)
  | ext φ => obtain ⟨_, ⟨_, e⟩, _⟩ := x; exact Heap.lt_size e
theorem Paired.mapP {α β : Type} {F G : α → β → Prop} : ∀ {l₁ : List α} {l₂ : List β}, Paired F l₁ l₂ → (∀ a b, F a b → G a b) → Paired G l₁ l₂
  | _, _, .nil, _ => .nil
  | _, _, .cons r t, f => .cons (f _ _ r) (Paired.mapP t f)
theorem ObjOk.stay (x : ObjOk P w H h a o) (k : ∀ b u, (b = a ∨ H b = some (.own a)) → h.get? b = some u → h'.get? b = some u)
    (ho : ∀ b, H b = some (.own a) → H' b = some (.own a)) (ht : ∀ b xs, H b = some (.tup xs) → H' b = some (.tup xs)) : ObjOk P w H' h' a o := by
  induction o with
  | lst xs => obtain ⟨z, its, n, r, e⟩ := x; exact ⟨z, its, n, r, k _ _ (.inl rfl) e⟩
  | tup xs => obtain ⟨z, its, r, ob, e, c⟩ := x; exact ⟨z, its, r, ob, k _ _ (.inl rfl) e, c⟩
  | dK kvs => obtain ⟨z, y, vs, r, ob, es, ep, e, c⟩ := x; exact ⟨z, y, vs, r, ob, es, ep, k _ _ (.inl rfl) e, c⟩
  | dT kvs =>
    obtain ⟨z, y, xs, r, ob, es, ep, e, c⟩ := x
    exact ⟨z, y, xs, Paired.mapP r fun p q z => ⟨z.1, ht _ _ z.2.1, z.2.2⟩, ob, es, ep, k _ _ (.inl rfl) e, c⟩
  | set S n => obtain ⟨ob, es, ep, t, e, c⟩ := x; exact ⟨ob, es, ep, t, k _ _ (.inl rfl) e, c⟩
  | ins C dx fs =>
    obtain ⟨d, z, ne, e, mA, ⟨od, es, ep, e2, c⟩, r⟩ := x
    exact ⟨ho _ d, z, ne, k _ _ (.inl rfl) e, mA, ⟨od, es, ep, k _ _ (.inr d) e2, c⟩, r⟩
  | own y => obtain ⟨ob, e⟩ := x; exact ⟨ob, k _ _ (.inl rfl) e⟩
  | xd fs => obtain ⟨mA, ⟨od, es, ep, e, c⟩, r⟩ := x; exact ⟨mA, ⟨od, es, ep, k _ _ (.inl rfl) e, c⟩, r⟩
  | rng lo hi => obtain ⟨t, u, v, e⟩ := x; exact ⟨t, u, v, k _ _ (.inl rfl) e⟩
  | frz ob u ih => obtain ⟨e, q⟩ := x; exact ⟨k _ _ (.inl rfl) e, ih q⟩
  | tbl ps =>
    have e : h.get? a = some { cls := .none, data := .fields ps } := x
    show h'.get? a = some { cls := .none, data := .fields ps }
    exact k a _ (.inl rfl) e
  | met f y =>
    have e : h.get? a = some (PySem.W.methodObj (.ref f) (.ref y)) := x
    show h'.get? a = some (PySem.W.methodObj (.ref f) (.ref y))
    exact k a _ (.inl rfl) e
  | ext φ => obtain ⟨p, ⟨o, e⟩, st⟩ := x; exact ⟨st _ _ p fun o q => k _ _ (.inl rfl) q, ⟨o, k _ _ (.inl rfl) e⟩, st⟩
theorem HOk.lt (x : HOk P w H h) (e : H a = some o) : a < h.objs.size := (x a o e).lt
theorem HOk.fresh (x : HOk P w H h) (e : h.objs.size ≤ a) : H a = none := by
  cases q : H a with
  | none => rfl
  | some u => exact absurd (Nat.lt_of_lt_of_le (x.lt q) e) (Nat.lt_irrefl _)
theorem HOk.kept (x : HOk P w H h) (k : ∀ b u, h.get? b = some u → h'.get? b = some u) : HOk P w H h' := fun a o e =>
  (x a o e).stay (fun b u _ q => k b u q) (fun _ q => q) fun _ _ q => q
theorem HOk.laid (x : HOk P w H h) (k : ∀ b u, h.get? b = some u → h'.get? b = some u) (hp : h.objs.size ≤ a) (new : ObjOk P w (upd H a o) h' a o) : HOk P w (upd H a o) h' := fun b u e => by
  have hn := x.fresh hp
  by_cases hb : b = a
  · subst hb; rw [upd_same] at e; cases e; exact new
  · rw [upd_ne hb] at e
    exact (x b u e).stay (fun c v _ q => k c v q) (fun c q => by rw [upd_ne (ne_of_none q hn)]; exact q) fun c xs q => by rw [upd_ne (ne_of_none q hn)]; exact q
end
noncomputable def Rd (H : Hp) (a : Addr) (u : HO) : Prop := H a = some u ∨ ∃ o, H a = some (.frz o u)
theorem Rd.ok {P : Program} {w : World} {H : Hp} {h : Heap} {a : Addr} {u : HO} (r : Rd H a u) (x : HOk P w H h) : ObjOk P w H h a u := by
  rcases r with r | ⟨o, r⟩
  · exact x a u r
  · obtain ⟨_, q⟩ := x a _ r
    exact q
noncomputable def Mut : Option HO → Prop
  | some (.lst _) => True
  | some (.dK _) => True
  | some (.dT _) => True
  | some (.set _ _) => True
  | some (.ins _ _ _) => True
  | some (.ext _) => True
  | _ => False
section
variable {P : Program} {w : World} {H : Hp} {h h' : Heap} {x e : Addr} {o' : HO}
theorem HOk.write (ok : HOk P w H h) (mu : Mut (H x)) (he : e = x ∨ H e = some (.own x)) (k : ∀ b u, b ≠ e → h.get? b = some u → h'.get? b = some u) (heo : ∃ u, h'.get? e = some u)
    (new : ObjOk P w (upd H x o') h' x o') : HOk P w (upd H x o') h' := fun b u q => by
  have nown : ∀ c y, H c = some (.own y) → c ≠ x := fun c y r z => by subst z; rw [r] at mu; exact mu
  have ntup : ∀ c xs, H c = some (.tup xs) → c ≠ x := fun c xs r z => by subst z; rw [r] at mu; exact mu
  by_cases hb : b = x
  · subst hb; rw [upd_same] at q; cases q; exact new
  · rw [upd_ne hb] at q
    by_cases hbe : b = e
    · have q' : H b = some (.own x) := by
        rcases he with z | z
        · exact absurd (hbe.trans z) hb
        · rw [hbe]; exact z
      rw [q] at q'; cases q'
      obtain ⟨v, hv⟩ := heo
      exact ⟨v, by rw [hbe]; exact hv⟩
    · refine (ok b u q).stay (fun c v hc r => k c v ?_ r) (fun c r => by rw [upd_ne (nown c b r)]; exact r) fun c xs r => by rw [upd_ne (ntup c xs r)]; exact r
      rcases hc with rfl | hc
      · exact hbe
      · rintro rfl
        rcases he with z | z
        · exact nown c b hc z
        · rw [hc] at z; cases z; exact hb rfl
end
structure Un (fs ex : List Addr) (H H' : Hp) (h h' : Heap) : Prop where
  keep : ∀ b o, h.get? b = some o → H b = none → b ∉ fs → b ∉ ex → h'.get? b = some o
  slot : ∀ b o, h.get? b = some o → H b = none → b ∈ fs → b ∉ ex → ∃ sl, h'.get? b = some { o with slots := sl }
  free : ∀ b o, h.get? b = some o → H b = none → b ∉ ex → H' b = none
  there : ∀ b o, h.get? b = some o → b ∉ ex → ∃ o', h'.get? b = some o'
  tups : ∀ b xs, H b = some (.tup xs) → H' b = some (.tup xs)
  frzs : ∀ b o u, H b = some (.frz o u) → H' b = some (.frz o u)
  tbls : ∀ b ps, H b = some (.tbl ps) → ∃ more, H' b = some (.tbl (ps ++ more))
section
variable {fs fs' ex ex' : List Addr} {H H1 H2 : Hp} {h h1 h2 h' : Heap} {a x e : Addr} {o : HO}
theorem Un.any (u : Un fs ex H H1 h h1) {b : Addr} {ob : Obj} (q : h.get? b = some ob) (n : H b = none) (hx : b ∉ ex) : ∃ sl, h1.get? b = some { ob with slots := sl } := by
  by_cases hb : b ∈ fs
  · exact u.slot b ob q n hb hx
  · exact ⟨ob.slots, u.keep b ob q n hb hx⟩
theorem Un.kept (k : ∀ b u, h.get? b = some u → h'.get? b = some u) : Un fs ex H H h h' :=
  ⟨fun b ob q _ _ _ => k b ob q, fun b ob q _ _ _ => ⟨ob.slots, k b ob q⟩, fun _ _ _ n _ => n, fun b ob q _ => ⟨ob, k b ob q⟩, fun _ _ q => q, fun _ _ _ q => q, fun _ ps q => ⟨#[], by rw [q]; simp⟩⟩
theorem Un.refl : Un fs ex H H h h := Un.kept fun _ _ q => q
theorem Un.laid (k : ∀ b u, h.get? b = some u → h'.get? b = some u) (hp : h.objs.size ≤ a) (hn : H a = none) : Un fs ex H (upd H a o) h h' where
  keep := fun b u q _ _ _ => k b u q
  slot := fun b u q _ _ _ => ⟨u.slots, k b u q⟩
  free := fun b u q n _ => by rw [upd_ne (Nat.ne_of_lt (Nat.lt_of_lt_of_le (Heap.lt_size q) hp))]; exact n
  there := fun b u q _ => ⟨u, k b u q⟩
  tups := fun b xs q => by rw [upd_ne (ne_of_none q hn)]; exact q
  frzs := fun b u xs q => by rw [upd_ne (ne_of_none q hn)]; exact q
  tbls := fun b ps q => ⟨#[], by rw [upd_ne (ne_of_none q hn), q]; simp⟩
theorem Un.write (mu : Mut (H x)) (he : e = x ∨ H e = some (.own x)) (k : ∀ b u, b ≠ e → h.get? b = some u → h'.get? b = some u) (heo : ∃ u, h'.get? e = some u) : Un fs ex H (upd H x o) h h' := by
  have hx : ∀ b, H b = none → b ≠ x := fun b n z => by subst z; rw [n] at mu; exact mu
  have hb : ∀ b, H b = none → b ≠ e := fun b n z => by
    subst z
    rcases he with r | r
    · exact hx b n r
    · rw [n] at r; cases r
  have hm : ∀ b u, H b = some u → ¬ Mut (some u) → b ≠ x := fun b u q nm z => by subst z; rw [q] at mu; exact nm mu
  refine ⟨fun b u q n _ _ => k b u (hb b n) q, fun b u q n _ _ => ⟨u.slots, k b u (hb b n) q⟩, fun b u q n _ => by rw [upd_ne (hx b n)]; exact n, fun b u q _ => ?_,
    fun b xs q => by rw [upd_ne (hm b _ q fun z => z)]; exact q, fun b u xs q => by rw [upd_ne (hm b _ q fun z => z)]; exact q, fun b ps q => ⟨#[], by rw [upd_ne (hm b _ q fun z => z), q]; simp⟩⟩
  by_cases hbe : b = e
  · subst hbe; exact heo
  · exact ⟨u, k b u hbe q⟩
end
noncomputable def trk (h : Heap) (H : Hp) : List Addr := (List.range h.objs.size).filter fun a => (H a).isSome
noncomputable def hidT (h : Heap) (H : Hp) : Heap := PySem.W.hideAll h (trk h H)
theorem hidT_size (h : Heap) (H : Hp) : (hidT h H).objs.size = h.objs.size := PySem.W.hideAll_size _ _
theorem hidT_get {h : Heap} {H : Hp} {b : Addr} {o : Obj} (e : h.get? b = some o) (n : H b = none) : (hidT h H).get? b = some o :=
  PySem.W.hideAll_get _ e fun hm => by
    have q : (H b).isSome = true := (List.mem_filter.mp hm).2
    rw [n] at q; simp at q
theorem of_hidT {h : Heap} {H : Hp} {b : Addr} {o : Obj} (e : (hidT h H).get? b = some o) : h.get? b = some o ∧ H b = none := by
  have e' : h.get? b = some o := PySem.W.of_hideAll (trk h H) e
  refine ⟨e', ?_⟩
  cases q : H b with
  | none => rfl
  | some x =>
    have hm : b ∈ trk h H := List.mem_filter.mpr ⟨List.mem_range.mpr (Heap.lt_size e'), by simp [q]⟩
    have z : (hidT h H).get? b = none := PySem.W.hideAll_none (trk h H) hm
    rw [z] at e; cases e
end L2
namespace L2
open PySem PySem.Spec PyProof.Rows
structure Mod (K : PySem.W.Frag) (mg : Str → Option Value) (base : Heap) : Prop where
  kin : K.In base
  glob : base.Ns mainGlobals mg
  blt : ∃ mb, base.Ns builtinsNs mb ∧ ∀ x : Str, x ≠ "__name__" → mb x = bootBuiltins x
  nolimit : base.NoLimit
structure Cx where
  prog : Program
  w : World
  K : PySem.W.Frag
  mg : Str → Option Value
  base : Heap
  A : Around
  N : List Str
  s₀ : Shared
  H₀ : Hp
  env : Env
  outer : List Env
  stack : List Env
  ex : List Addr
  fn : Str → Bool
  calm : Bool
  pn : List (Addr × Obj)
  xe : Value → Shared → Prop
noncomputable def frs (l : List Env) : List Addr := l.filterMap (·.frame)
noncomputable abbrev Cx.fs (X : Cx) : List Addr := frs X.outer
noncomputable def Vis (sc : Scope) (x : Str) : Prop := sc.names.lookup x = some .local ∨ sc.names.lookup x = some .cell ∨ sc.names.lookup x = some .free
noncomputable def Loc (sc : Scope) (x : Str) : Prop := sc.names.lookup x = some .local ∨ sc.names.lookup x = some .cell
noncomputable def Look (env : Env) (h : Heap) (m : Str → Option Value) (x : Str) (u : Value) : Prop :=
  (env.kindOf x = some .local ∧ m x = some u) ∨ ((env.kindOf x = some .cell ∨ env.kindOf x = some .free) ∧ ∃ c, env.cells.lookup x = some c ∧ h.IsCell c (some u))
structure Cx.Ok (X : Cx) : Prop where
  mod : Mod X.K X.mg X.base
  kind : X.env.scope.kind = .function
  glob : X.env.globals = mainGlobals
  blt : X.env.builtins = builtinsNs
  above : X.s₀.heap.objs.size ≤ X.env.locals
  inj : ∀ x y c, X.env.cells.lookup x = some c → X.env.cells.lookup y = some c → x = y
  has : ∀ x, (X.env.kindOf x = some .cell ∨ X.env.kindOf x = some .free) → ∃ c, X.env.cells.lookup x = some c
  cab : ∀ x c, X.fn x = true → X.env.cells.lookup x = some c → X.s₀.heap.objs.size ≤ c
  hd : X.calm = true → X.A.handled = none
  frames : X.A.frames = some X.stack
  stk : X.stack = X.outer ∨ (X.stack = X.env :: X.outer ∧ X.env.frame = some X.env.locals)
  exf : ∀ b ∈ X.ex, b ≠ X.env.locals ∧ ∀ x c, X.env.cells.lookup x = some c → c ≠ b
  bs : ∀ b o, X.base.get? b = some o → X.s₀.heap.get? b = some o ∧ X.H₀ b = none
  bsz : X.base.objs.size ≤ X.s₀.heap.objs.size
  noex : ∀ b o, X.base.get? b = some o → b ∉ X.ex
  exfs : ∀ b ∈ X.ex, b ∉ X.fs
  funs : X.s₀.heap.FunFrames X.base X.outer
  frf : ∀ b ∈ X.fs, X.H₀ b = none
structure Inv (X : Cx) (pins : List (Addr × Obj)) (σ : List (Option V)) (H : Hp) (s : Shared) : Prop where
  ok : X.Ok
  os : s.os = X.s₀.os
  bare : AllBare s.gens
  base : Un X.fs X.ex X.H₀ H X.s₀.heap s.heap
  loc : ∃ m, s.heap.Ns X.env.locals m ∧ ∀ (i : Nat) (x : Str) (v : V), X.N[i]? = some x → σ[i]? = some (some v) → Vis X.env.scope x → ∃ u, RelV v u ∧ Look X.env s.heap m x u
  cell : ∀ x c, X.env.cells.lookup x = some c → ∃ v, s.heap.IsCell c v
  free : H X.env.locals = none
  freeC : ∀ x c, X.env.cells.lookup x = some c → H c = none
  pin : ∀ p ∈ X.pn ++ pins, s.heap.get? p.1 = some p.2 ∧ H p.1 = none ∧ p.1 ≠ X.env.locals ∧ p.1 ∉ X.fs ∧ ∀ v, p.2.data ≠ .cell v
  hok : HOk X.prog X.w H s.heap
  len : σ.length = X.N.length
section
variable {X : Cx} {pins : List (Addr × Obj)} {σ : List (Option V)} {H H' : Hp} {s : Shared} {h' : Heap}
theorem Cx.Ok.nofr (ok : X.Ok) {b : Addr} {o : Obj} (e : X.base.get? b = some o) : b ∉ X.fs := fun hb => by
  have := (ok.funs.mem hb).1
  rw [e] at this; cases this
theorem Inv.bs (I : Inv X pins σ H s) : ∀ b o, X.base.get? b = some o → s.heap.get? b = some o ∧ H b = none := fun b o e =>
  ⟨I.base.keep b o (I.ok.bs b o e).1 (I.ok.bs b o e).2 (I.ok.nofr e) (I.ok.noex b o e), I.base.free b o (I.ok.bs b o e).1 (I.ok.bs b o e).2 (I.ok.noex b o e)⟩
theorem Inv.bk (I : Inv X pins σ H s) : ∀ b o, X.base.get? b = some o → s.heap.get? b = some o := fun b o e => (I.bs b o e).1
theorem Inv.mod (I : Inv X pins σ H s) : Mod X.K X.mg X.base := I.ok.mod
theorem Inv.kIn (I : Inv X pins σ H s) : X.K.In s.heap := I.ok.mod.kin.keeps I.bk
theorem Inv.lt (I : Inv X pins σ H s) : X.env.locals < s.heap.objs.size := let ⟨_, hn, _⟩ := I.loc; hn.lt
theorem Inv.sz (I : Inv X pins σ H s) : X.s₀.heap.objs.size ≤ s.heap.objs.size := Nat.le_trans I.ok.above (Nat.le_of_lt I.lt)
theorem Inv.nofs (I : Inv X pins σ H s) {a : Addr} (h : s.heap.objs.size ≤ a) : a ∉ X.fs := fun hb => by
  obtain ⟨_, o, ho, _⟩ := I.ok.funs.mem hb
  exact absurd (Nat.lt_of_lt_of_le (Heap.lt_size ho) (Nat.le_trans I.sz h)) (Nat.lt_irrefl _)
theorem Inv.cne (I : Inv X pins σ H s) : ∀ x c, X.env.cells.lookup x = some c → c ≠ X.env.locals := fun x c e z => by
  obtain ⟨v, o, ho, hd⟩ := I.cell x c e
  obtain ⟨m, ⟨o', es, ep, ho', hd', _⟩, _⟩ := I.loc
  rw [z, ho'] at ho; cases ho; rw [hd'] at hd; cases hd
theorem Inv.funs (I : Inv X pins σ H s) : s.heap.FunFrames X.base X.outer := by
  have all : ∀ (l : List Env), (∀ b ∈ frs l, b ∈ X.fs) → X.s₀.heap.FunFrames X.base l → s.heap.FunFrames X.base l := by
    intro l
    induction l with
    | nil => intro _ _; trivial
    | cons env r ih =>
      intro hs hl
      obtain ⟨hk, ⟨L, o, hf, hn, ho, hd⟩, hr⟩ := hl
      have hL : L ∈ X.fs := hs L (by unfold frs; rw [List.filterMap_cons, hf]; exact List.mem_cons_self)
      obtain ⟨sl, e⟩ := I.base.slot L o ho (I.ok.frf L hL) hL fun z => I.ok.exfs L z hL
      exact ⟨hk, ⟨L, _, hf, hn, e, hd⟩, ih (fun b hb => hs b (by unfold frs; rw [List.filterMap_cons, hf]; exact List.mem_cons_of_mem _ hb)) hr⟩
  exact all X.outer (fun _ hb => hb) I.ok.funs
theorem Inv.stack (I : Inv X pins σ H s) : s.heap.FunFrames X.base X.stack := by
  rcases I.ok.stk with e | ⟨e, hf⟩
  · rw [e]; exact I.funs
  · rw [e]
    obtain ⟨m, hn, _⟩ := I.loc
    refine .cons (by rw [I.ok.kind]; decide) hf hn ?_ I.funs
    exact Heap.get?_none_of_le (Nat.le_trans I.ok.bsz I.ok.above)
theorem Inv.stkSub (I : Inv X pins σ H s) : ∀ b ∈ frs X.stack, b ∈ X.env.locals :: X.fs := fun b hb => by
  rcases I.ok.stk with e | ⟨e, hf⟩
  · rw [e] at hb; exact List.mem_cons_of_mem _ hb
  · rw [e] at hb
    unfold frs at hb
    rw [List.filterMap_cons, hf] at hb
    exact hb
theorem Inv.stkFree (I : Inv X pins σ H s) : ∀ b ∈ frs X.stack, H b = none := fun b hb => by
  rcases List.mem_cons.mp (I.stkSub b hb) with e | hb
  · rw [e]; exact I.free
  · obtain ⟨_, o, ho, _⟩ := I.ok.funs.mem hb
    exact I.base.free b o ho (I.ok.frf b hb) fun z => I.ok.exfs b z hb
theorem Inv.step {g' : Array GenState} {t' : Nat} {d' : Drawn} {ch : List Addr} (I : Inv X pins σ H s)
    (hch : ∀ b ∈ ch, (b ∈ X.ex ∨ X.s₀.heap.objs.size ≤ b) ∧ b ≠ X.env.locals ∧ (∀ x c, X.env.cells.lookup x = some c → c ≠ b) ∧ ∀ p ∈ X.pn ++ pins, p.1 ≠ b)
    (keep : ∀ b o, b ≠ X.env.locals → b ∉ X.fs → b ∉ ch → s.heap.get? b = some o → H b = none → h'.get? b = some o)
    (slot : ∀ b o, b ≠ X.env.locals → b ∈ X.fs → b ∉ ch → s.heap.get? b = some o → H b = none → ∃ sl, h'.get? b = some { o with slots := sl }) (free : ∀ b o, b ∉ ch → s.heap.get? b = some o → H b = none → H' b = none)
    (there : ∀ b o, b ∉ ch → s.heap.get? b = some o → ∃ o', h'.get? b = some o')
    (tups : ∀ b xs, H b = some (.tup xs) → H' b = some (.tup xs)) (frzs : ∀ b o u, H b = some (.frz o u) → H' b = some (.frz o u)) (tbls : ∀ b ps, H b = some (.tbl ps) → ∃ more, H' b = some (.tbl (ps ++ more)))
    (ns : ∀ m, s.heap.Ns X.env.locals m → h'.Ns X.env.locals m) (hok : HOk X.prog X.w H' h') (hg : AllBare g') :
    Inv X pins σ H' { s with heap := h', gens := g', drawn := d', toks := t' } := by
  have neL : ∀ b o, X.s₀.heap.get? b = some o → b ≠ X.env.locals := fun b o e => Nat.ne_of_lt (Nat.lt_of_lt_of_le (Heap.lt_size e) I.ok.above)
  have neC : ∀ b o, X.s₀.heap.get? b = some o → b ∉ X.ex → b ∉ ch := fun b o e hx hb => by
    rcases (hch b hb).1 with z | z
    · exact hx z
    · exact absurd (Nat.lt_of_lt_of_le (Heap.lt_size e) z) (Nat.lt_irrefl _)
  have cellK : ∀ x c, X.env.cells.lookup x = some c → ∀ v, s.heap.IsCell c v → h'.IsCell c v := fun x c e v ⟨o, ho, hd⟩ => by
    have nch : c ∉ ch := fun z => (hch c z).2.2.1 x c e rfl
    by_cases hc : c ∈ X.fs
    · obtain ⟨sl, q⟩ := slot c o (I.cne x c e) hc nch ho (I.freeC x c e)
      exact ⟨_, q, hd⟩
    · exact ⟨o, keep c o (I.cne x c e) hc nch ho (I.freeC x c e), hd⟩
  refine ⟨I.ok, I.os, hg, ⟨fun b o e n hb hx => ?_, fun b o e n hb hx => ?_, fun b o e n hx => ?_, fun b o e hx => ?_, fun b xs e => tups b xs (I.base.tups b xs e), fun b o xs e => frzs b o xs (I.base.frzs b o xs e), fun b ps e => ?_⟩, ?_, fun x c e => ?_, ?_, fun x c e => ?_, fun p hp => ?_, hok, I.len⟩
  · exact keep b o (neL b o e) hb (neC b o e hx) (I.base.keep b o e n hb hx) (I.base.free b o e n hx)
  · obtain ⟨sl, e1⟩ := I.base.slot b o e n hb hx
    obtain ⟨sl', e2⟩ := slot b _ (neL b o e) hb (neC b o e hx) e1 (I.base.free b o e n hx)
    exact ⟨sl', e2⟩
  · obtain ⟨o', e1⟩ := I.base.there b o e hx
    exact free b o' (neC b o e hx) e1 (I.base.free b o e n hx)
  · obtain ⟨o', e1⟩ := I.base.there b o e hx
    exact there b o' (neC b o e hx) e1
  · obtain ⟨m1, e1⟩ := I.base.tbls b ps e
    obtain ⟨m2, e2⟩ := tbls b _ e1
    exact ⟨m1 ++ m2, by rw [e2, Array.append_assoc]⟩
  · obtain ⟨m, hn, hl⟩ := I.loc
    refine ⟨m, ns m hn, fun i x v e1 e2 e3 => ?_⟩
    obtain ⟨u, r, l⟩ := hl i x v e1 e2 e3
    refine ⟨u, r, ?_⟩
    rcases l with l | ⟨k, c, e, z⟩
    · exact .inl l
    · exact .inr ⟨k, c, e, cellK x c e _ z⟩
  · obtain ⟨v, z⟩ := I.cell x c e
    exact ⟨v, cellK x c e v z⟩
  · obtain ⟨m, ⟨o, _, _, ho, _⟩, _⟩ := I.loc
    exact free _ o (fun z => (hch _ z).2.1 rfl) ho I.free
  · obtain ⟨v, o, ho, hd⟩ := I.cell x c e
    exact free c o (fun z => (hch c z).2.2.1 x c e rfl) ho (I.freeC x c e)
  · obtain ⟨e, n, ne, nf, d⟩ := I.pin p hp
    have nch : p.1 ∉ ch := fun z => (hch p.1 z).2.2.2 p hp rfl
    exact ⟨keep p.1 p.2 ne nf nch e n, free p.1 p.2 nch e n, ne, nf, d⟩
theorem Inv.un {t' : Nat} (I : Inv X pins σ H s) (u : Un X.fs [] H H' s.heap h') (hok : HOk X.prog X.w H' h') : Inv X pins σ H' { s with heap := h', toks := t' } := by
  obtain ⟨m, ⟨o, es, ep, ho, r⟩, _⟩ := id I.loc
  obtain ⟨sl, hL⟩ := u.any ho I.free (by simp)
  exact I.step (g' := s.gens) (d' := s.drawn) (ch := []) (fun _ z => nomatch z) (fun b o _ hb _ e n => u.keep b o e n hb (by simp)) (fun b o _ hb _ e n => u.slot b o e n hb (by simp)) (fun b o _ e n => u.free b o e n (by simp)) (fun b o _ e => u.there b o e (by simp)) u.tups u.frzs u.tbls (fun m' hm => by
    obtain ⟨o', es', ep', ho', r'⟩ := hm
    rw [ho] at ho'; cases ho'
    exact ⟨_, es', ep', hL, r'⟩) hok I.bare
theorem Inv.call {g' : Array GenState} {t' : Nat} {d' : Drawn} {ch : List Addr} (I : Inv X pins σ H s) (u : Un (frs X.stack) ch H H' s.heap h') (hok : HOk X.prog X.w H' h') (hg : AllBare g')
    (hch : ∀ b ∈ ch, (b ∈ X.ex ∨ X.s₀.heap.objs.size ≤ b) ∧ b ≠ X.env.locals ∧ (∀ x c, X.env.cells.lookup x = some c → c ≠ b) ∧ ∀ p ∈ X.pn ++ pins, p.1 ≠ b) :
    Inv X pins σ H' { s with heap := h', gens := g', drawn := d', toks := t' } := by
  obtain ⟨m, ⟨o, es, ep, ho, r⟩, _⟩ := id I.loc
  obtain ⟨sl, hL⟩ := u.any ho I.free fun z => (hch _ z).2.1 rfl
  exact I.step (ch := ch) hch (fun b o hL hb hc e n => u.keep b o e n (fun z => (List.mem_cons.mp (I.stkSub b z)).elim hL hb) hc) (fun b o _ _ hc e n => u.any e n hc) (fun b o hc e n => u.free b o e n hc) (fun b o hc e => u.there b o e hc) u.tups u.frzs u.tbls (fun m' hm => by
    obtain ⟨o', es', ep', ho', r'⟩ := hm
    rw [ho] at ho'; cases ho'
    exact ⟨_, es', ep', hL, r'⟩) hok hg
theorem Inv.turned {t' : Nat} {it : Addr} (I : Inv X pins σ H s) (k : ∀ b o, b ≠ it → s.heap.get? b = some o → h'.get? b = some o) (hn : H it = none) (hL : it ≠ X.env.locals)
    (h1 : it ∈ X.ex ∨ X.s₀.heap.objs.size ≤ it) (h2 : ∀ x c, X.env.cells.lookup x = some c → c ≠ it) (h3 : ∀ p ∈ X.pn ++ pins, p.1 ≠ it) : Inv X pins σ H { s with heap := h', toks := t' } := by
  have nit : ∀ b u, H b = some u → b ≠ it := fun b u e z => by rw [z, hn] at e; cases e
  refine I.step (g' := s.gens) (d' := s.drawn) (ch := [it]) (fun b hb => ?_) (fun b o _ _ hc e _ => k b o (fun z => hc (by simp [z])) e) (fun b o _ _ hc e _ => ⟨o.slots, k b o (fun z => hc (by simp [z])) e⟩) (fun _ _ _ _ n => n)
    (fun b o hc e => ⟨o, k b o (fun z => hc (by simp [z])) e⟩) (fun _ _ e => e) (fun _ _ _ e => e) (fun b ps e => ⟨#[], by rw [e]; simp⟩) (fun m hm => ?_) (fun b u e => ?_) I.bare
  · have e : b = it := by simpa using hb
    subst e
    exact ⟨h1, hL, h2, h3⟩
  · obtain ⟨o, es, ep, ho, r⟩ := hm
    exact ⟨o, es, ep, k _ o (Ne.symm hL) ho, r⟩
  · refine (I.hok b u e).stay (fun c v hc q => k c v ?_ q) (fun _ q => q) fun _ _ q => q
    rcases hc with z | z
    · rw [z]; exact nit b u e
    · exact nit c _ z
theorem Inv.tok (I : Inv X pins σ H s) (t : Nat) : Inv X pins σ H { s with toks := t } := I.un (h' := s.heap) (t' := t) Un.refl I.hok
theorem Inv.kept {t' : Nat} (I : Inv X pins σ H s) (k : ∀ b u, s.heap.get? b = some u → h'.get? b = some u) : Inv X pins σ H { s with heap := h', toks := t' } := I.un (Un.kept k) (I.hok.kept k)
theorem Inv.laid {a : Addr} {o : HO} {t' : Nat} (I : Inv X pins σ H s) (k : ∀ b u, s.heap.get? b = some u → h'.get? b = some u) (hp : s.heap.objs.size ≤ a) (new : ObjOk X.prog X.w (upd H a o) h' a o) :
    Inv X pins σ (upd H a o) { s with heap := h', toks := t' } := I.un (Un.laid k hp (I.hok.fresh hp)) (I.hok.laid k hp new)
theorem Inv.write {x e : Addr} {o : HO} {t' : Nat} (I : Inv X pins σ H s) (mu : Mut (H x)) (he : e = x ∨ H e = some (.own x)) (k : ∀ b u, b ≠ e → s.heap.get? b = some u → h'.get? b = some u) (heo : ∃ u, h'.get? e = some u)
    (new : ObjOk X.prog X.w (upd H x o) h' x o) : Inv X pins σ (upd H x o) { s with heap := h', toks := t' } := I.un (Un.write mu he k heo) (I.hok.write mu he k heo new)
theorem Inv.weak {σ' : List (Option V)} (I : Inv X pins σ H s) (hl : σ'.length = σ.length) (w : ∀ (i : Nat) v, σ'[i]? = some (some v) → σ[i]? = some (some v)) : Inv X pins σ' H s :=
  ⟨I.ok, I.os, I.bare, I.base, let ⟨m, hn, hl'⟩ := I.loc; ⟨m, hn, fun i x v e1 e2 e3 => hl' i x v e1 (w i v e2) e3⟩, I.cell, I.free, I.freeC, I.pin, I.hok, hl.trans I.len⟩
theorem Inv.pins_of {pins' : List (Addr × Obj)} (I : Inv X pins σ H s) (h : ∀ p ∈ pins', s.heap.get? p.1 = some p.2 ∧ H p.1 = none ∧ p.1 ≠ X.env.locals ∧ p.1 ∉ X.fs ∧ ∀ v, p.2.data ≠ .cell v) : Inv X pins' σ H s :=
  ⟨I.ok, I.os, I.bare, I.base, I.loc, I.cell, I.free, I.freeC, fun p hp => (List.mem_append.mp hp).elim (fun z => I.pin p (List.mem_append_left _ z)) (h p), I.hok, I.len⟩
theorem nodup_ix {N : List Str} (hN : N.Nodup) {i j : Nat} {x : Str} (a : N[i]? = some x) (b : N[j]? = some x) : i = j := by
  obtain ⟨h1, e1⟩ := List.getElem?_eq_some_iff.mp a
  obtain ⟨h2, e2⟩ := List.getElem?_eq_some_iff.mp b
  exact (List.getElem_inj hN).mp (e1.trans e2.symm)
theorem store_ok2 {M : Model} {A : Around} {E : Value → Shared → Prop} {i : Nat} {x : Str} {v : V} {u : Value} {Q : Unit → Shared → Prop} (I : Inv X pins σ H s) (hN : X.N.Nodup) (hi : X.N[i]? = some x) (hx : Loc X.env.scope x) (r : RelV v u)
    (h : ∀ s', Inv X pins (σ.set i (some v)) H s' → (∃ a, Heap.SameBut a s.heap s'.heap ∧ (a = X.env.locals ∨ X.env.cells.lookup x = some a)) → Q () s') (hf : X.fn x = true ∨ X.env.scope.names.lookup x = some .local := by first | exact .inl rfl | exact .inr rfl | assumption) : wpAny M A (storeName X.env x u) Q E s := by
  obtain ⟨m, hn, hl⟩ := id I.loc
  have hcls : (X.env.scope.kind == .class || (X.env.scope.kind == .module && X.env.locals != X.env.globals)) = false := by rw [I.ok.kind]; rfl
  have hiσ : i < σ.length := by rw [I.len]; exact (List.getElem?_eq_some_iff.mp hi).1
  have cne := I.cne
  have tracked : ∀ {a : Addr} {h' : Heap}, (∃ o, s.heap.get? a = some o ∧ H a = none) → Heap.SameBut a s.heap h' → HOk X.prog X.w H h' := fun {a h'} ha hs b ob e => by
    obtain ⟨_, _, hfree⟩ := ha
    refine (I.hok b ob e).stay (fun c w' hc q => (hs.2 c ?_).trans q) (fun _ q => q) fun _ _ q => q
    rintro rfl
    rcases hc with rfl | hc
    · rw [hfree] at e; cases e
    · rw [hfree] at hc; cases hc
  rcases hx with hk | hk
  · refine wpAny_storeName_local hk hn (fun h' hn' hs => ?_) hcls
    obtain ⟨oL, _, _, hoL, _⟩ := id hn
    refine h _ ⟨I.ok, I.os, I.bare, ⟨fun b o e n hb hx => ?_, fun b o e n hb hx => ?_, I.base.free, fun b o e hx => ?_, I.base.tups, I.base.frzs, I.base.tbls⟩, ⟨_, hn', fun j y v' e1 e2 e3 => ?_⟩, fun y c e => ?_, I.free, I.freeC, fun p hp => ?_, tracked ⟨oL, hoL, I.free⟩ hs, by simpa using I.len⟩ ⟨_, hs, .inl rfl⟩
    · exact (hs.2 b (Nat.ne_of_lt (Nat.lt_of_lt_of_le (Heap.lt_size e) I.ok.above))).trans (I.base.keep b o e n hb hx)
    · obtain ⟨sl, e1⟩ := I.base.slot b o e n hb hx
      exact ⟨sl, (hs.2 b (Nat.ne_of_lt (Nat.lt_of_lt_of_le (Heap.lt_size e) I.ok.above))).trans e1⟩
    · obtain ⟨o', e1⟩ := I.base.there b o e hx
      exact ⟨o', (hs.2 b (Nat.ne_of_lt (Nat.lt_of_lt_of_le (Heap.lt_size e) I.ok.above))).trans e1⟩
    · by_cases hj : j = i
      · subst hj
        rw [hi] at e1; cases e1
        rw [List.getElem?_set_self hiσ] at e2
        cases e2
        exact ⟨u, r, .inl ⟨hk, by simp⟩⟩
      · rw [List.getElem?_set_ne (Ne.symm hj)] at e2
        obtain ⟨u', r', q⟩ := hl j y v' e1 e2 e3
        refine ⟨u', r', ?_⟩
        rcases q with ⟨k, e⟩ | ⟨k, c, e, z⟩
        · refine .inl ⟨k, ?_⟩
          have : y ≠ x := fun e => hj (nodup_ix hN e1 (e ▸ hi))
          simp [this, e]
        · exact .inr ⟨k, c, e, z.sameBut hs (cne y c e)⟩
    · obtain ⟨w', z⟩ := I.cell y c e
      exact ⟨w', z.sameBut hs (cne y c e)⟩
    · obtain ⟨e, n, ne, nf, d⟩ := I.pin p hp
      exact ⟨(hs.2 p.1 ne).trans e, n, ne, nf, d⟩
  · have hfn : X.fn x = true := by
      rcases hf with z | z
      · exact z
      · rw [z] at hk; cases hk
    obtain ⟨c, hc⟩ := I.ok.has x (.inl hk)
    obtain ⟨w', z⟩ := I.cell x c hc
    refine wpAny_storeName_cell I.ok.kind hk hc z (fun h' hc' hs => ?_)
    obtain ⟨oc, hoc, hocd⟩ := id z
    refine h { s with heap := h' } ⟨I.ok, I.os, I.bare, ⟨fun b o e n hb hx => ?_, fun b o e n hb hx => ?_, I.base.free, fun b o e hx => ?_, I.base.tups, I.base.frzs, I.base.tbls⟩, ⟨m, hn.sameBut hs (Ne.symm (cne x c hc)), fun j y v' e1 e2 e3 => ?_⟩, fun y c' e => ?_, I.free, I.freeC, fun p hp => ?_, tracked ⟨oc, hoc, I.freeC x c hc⟩ hs, by simpa using I.len⟩ ⟨c, hs, .inr hc⟩
    · exact (hs.2 b (Nat.ne_of_lt (Nat.lt_of_lt_of_le (Heap.lt_size e) (I.ok.cab x c hfn hc)))).trans (I.base.keep b o e n hb hx)
    · obtain ⟨sl, e1⟩ := I.base.slot b o e n hb hx
      exact ⟨sl, (hs.2 b (Nat.ne_of_lt (Nat.lt_of_lt_of_le (Heap.lt_size e) (I.ok.cab x c hfn hc)))).trans e1⟩
    · obtain ⟨o', e1⟩ := I.base.there b o e hx
      exact ⟨o', (hs.2 b (Nat.ne_of_lt (Nat.lt_of_lt_of_le (Heap.lt_size e) (I.ok.cab x c hfn hc)))).trans e1⟩
    · by_cases hj : j = i
      · subst hj
        rw [hi] at e1; cases e1
        rw [List.getElem?_set_self hiσ] at e2
        cases e2
        exact ⟨u, r, .inr ⟨.inl hk, c, hc, hc'⟩⟩
      · rw [List.getElem?_set_ne (Ne.symm hj)] at e2
        obtain ⟨u', r', q⟩ := hl j y v' e1 e2 e3
        refine ⟨u', r', ?_⟩
        rcases q with q | ⟨k, c', e, z'⟩
        · exact .inl q
        · refine .inr ⟨k, c', e, z'.sameBut hs ?_⟩
          rintro rfl
          exact hj (nodup_ix hN e1 (I.ok.inj _ _ _ e hc ▸ hi))
    · by_cases hcc : c' = c
      · subst hcc; exact ⟨_, hc'⟩
      · obtain ⟨w2, z2⟩ := I.cell y c' e
        exact ⟨w2, z2.sameBut hs hcc⟩
    · obtain ⟨e, n, ne, nf, d⟩ := I.pin p hp
      refine ⟨(hs.2 p.1 ?_).trans e, n, ne, nf, d⟩
      intro q
      rw [q, hoc] at e
      have q' : oc = p.2 := Option.some.inj e
      exact d w' (by rw [← q']; exact hocd)
theorem store_ok {M : Model} {A : Around} {E : Value → Shared → Prop} {i : Nat} {x : Str} {v : V} {u : Value} {Q : Unit → Shared → Prop} (I : Inv X pins σ H s) (hN : X.N.Nodup) (hi : X.N[i]? = some x) (hx : Loc X.env.scope x) (r : RelV v u)
    (h : ∀ s', Inv X pins (σ.set i (some v)) H s' → Q () s') (hf : X.fn x = true ∨ X.env.scope.names.lookup x = some .local := by first | exact .inl rfl | exact .inr rfl | assumption) : wpAny M A (storeName X.env x u) Q E s :=
  store_ok2 I hN hi hx r (fun s' I' _ => h s' I') hf
theorem Inv.call' {s' : Shared} {ch : List Addr} (I : Inv X pins σ H s) (ho : s'.os = s.os) (u : Un (frs X.stack) ch H H' s.heap s'.heap) (hok : HOk X.prog X.w H' s'.heap) (hg : AllBare s'.gens)
    (hch : ∀ b ∈ ch, (b ∈ X.ex ∨ X.s₀.heap.objs.size ≤ b) ∧ b ≠ X.env.locals ∧ (∀ x c, X.env.cells.lookup x = some c → c ≠ b) ∧ ∀ p ∈ X.pn ++ pins, p.1 ≠ b) : Inv X pins σ H' s' := by
  obtain ⟨h', g', d', t', o'⟩ := s'
  have e : o' = s.os := ho
  subst e
  exact I.call (g' := g') (t' := t') (d' := d') u hok hg hch
end
noncomputable abbrev XK := Value → Option Addr → Hp → Prop
noncomputable abbrev St := List (Option V)
noncomputable abbrev VK := V → Hp → Prop
noncomputable abbrev TE := St → Hp → VK → Prop
noncomputable abbrev TT := St → Hp → (Bool → Hp → Prop) → Prop
noncomputable abbrev TA := St → Hp → (List V → Hp → Prop) → Prop
structure Ends where
  nx : St → Hp → Prop
  rt : VK
  bk : St → Hp → Prop := fun _ _ => False
  ct : St → Hp → Prop := fun _ _ => False
noncomputable abbrev TS := Ends → St → Hp → Prop
noncomputable def EP (X : Cx) (pins : List (Addr × Obj)) (σ : St) (Q : VK) (u : Value) (s' : Shared) : Prop := ∃ v H', Inv X pins σ H' s' ∧ RelV v u ∧ Q v H'
noncomputable def TP (X : Cx) (pins : List (Addr × Obj)) (σ : St) (Q : Bool → Hp → Prop) (b : Bool) (s' : Shared) : Prop := ∃ H', Inv X pins σ H' s' ∧ Q b H'
noncomputable def AP (X : Cx) (pins : List (Addr × Obj)) (σ : St) (Q : List V → Hp → Prop) (us : List Value) (s' : Shared) : Prop := ∃ vs H', Inv X pins σ H' s' ∧ Vals vs us ∧ Q vs H'
noncomputable def SP (X : Cx) (pins : List (Addr × Obj)) (D : Ends) (f : Flow) (s' : Shared) : Prop :=
  match f with
  | .next => ∃ σ' H', Inv X pins σ' H' s' ∧ D.nx σ' H'
  | .brk => ∃ σ' H', Inv X pins σ' H' s' ∧ D.bk σ' H'
  | .cont => ∃ σ' H', Inv X pins σ' H' s' ∧ D.ct σ' H'
  | .ret u => ∃ v σ' H', Inv X pins σ' H' s' ∧ RelV v u ∧ D.rt v H'
noncomputable def PE (X : Cx) (e : Expr) (t : TE) : Prop :=
  ∀ (pins : List (Addr × Obj)) (s : Shared) (σ : St) (H : Hp) (Q : VK), Inv X pins σ H s → t σ H Q → wpAny (model X.prog X.w) X.A (eval e X.env) (EP X pins σ Q) X.xe s
noncomputable def PT (X : Cx) (e : Expr) (t : TT) : Prop :=
  ∀ (pins : List (Addr × Obj)) (s : Shared) (σ : St) (H : Hp) (Q : Bool → Hp → Prop), Inv X pins σ H s → t σ H Q → wpAny (model X.prog X.w) X.A (isTrue e X.env (eval e X.env)) (TP X pins σ Q) X.xe s
noncomputable def PW (X : Cx) (e : Expr) (t : TT) : Prop :=
  ∀ (whole : Sem Value) (pins : List (Addr × Obj)) (s : Shared) (σ : St) (H : Hp) (Q : Bool → Hp → Prop), Inv X pins σ H s → t σ H Q → wpAny (model X.prog X.w) X.A (isTrue e X.env whole) (TP X pins σ Q) X.xe s
theorem PW.pt {X : Cx} {e : Expr} {t : TT} (h : PW X e t) : PT X e t := h _
noncomputable def PA (X : Cx) (es : List Expr) (t : TA) : Prop :=
  ∀ (pos : Pos) (pins : List (Addr × Obj)) (s : Shared) (σ : St) (H : Hp) (Q : List V → Hp → Prop), Inv X pins σ H s → t σ H Q → wpAny (model X.prog X.w) X.A (spliced (backTo pos (starEach es X.env))) (AP X pins σ Q) X.xe s
noncomputable def PS (X : Cx) (st : Stmt) (t : TS) : Prop :=
  ∀ (pins : List (Addr × Obj)) (s : Shared) (σ : St) (H : Hp) (D : Ends), Inv X pins σ H s → t D σ H → wpAny (model X.prog X.w) X.A (exec st X.env) (SP X pins D) X.xe s
noncomputable def PSs (X : Cx) (st : List Stmt) (t : TS) : Prop :=
  ∀ (pins : List (Addr × Obj)) (s : Shared) (σ : St) (H : Hp) (D : Ends), Inv X pins σ H s → t D σ H → wpAny (model X.prog X.w) X.A (execs st X.env) (SP X pins D) X.xe s
theorem thn {α : Type} {t : Sem α} {Q Q' : α → Shared → Prop} {M : Model} {A : Around} {E : Value → Shared → Prop} {s : Shared} (h : wpAny M A t Q E s) (hQ : ∀ a s, Q a s → Q' a s) : wpAny M A t Q' E s := wpAny_mono h hQ fun _ _ x => x
end L2
namespace L2
open PySem PySem.Spec PyProof.Rows
section
variable {X : Cx}
inductive tVar (i : Nat) (σ : St) (H : Hp) (Q : VK) : Prop
  | mk (v : V) (e : σ[i]? = some (some v)) (q : Q v H) : tVar i σ H Q
noncomputable def tC (v : V) : TE := fun _ H Q => Q v H
theorem pe_var {i : Nat} {x : Str} {pos : Pos} (hN : X.N[i]? = some x) (hv : Vis X.env.scope x) (hd : (x == ("__debug__" : Str)) = false := by decide) (hcd : (x == ("__classdict__" : Str)) = false := by decide) : PE X (.Name x pos) (tVar i) := by
  intro pins s σ H Q I h
  obtain ⟨v, e, h⟩ := h
  obtain ⟨m, hn, hl⟩ := I.loc
  obtain ⟨u, r, l⟩ := hl i x v hN e hv
  have fin : EP X pins σ Q u s := ⟨v, H, I, r, h⟩
  rcases l with ⟨hk, hm⟩ | ⟨hk, c, hc, hcell⟩
  · exact wpAny_Name (wpAny_loadName_local I.ok.kind hk hn hm fin) hd
  · rcases hk with hk | hk
    · exact wpAny_Name (wpAny_loadName_cell I.ok.kind hk hc hcell fin) hd
    · exact wpAny_Name (wpAny_loadName_free I.ok.kind hk hc hcell fin hcd) hd
theorem pe_int {i j pos} : PE X (.Constant (.int i) j pos) (tC (.int i)) := fun _ _ _ H _ I h => wpAny_Constant_int ⟨.int i, H, I.tok _, ⟨_, rfl⟩, h⟩
theorem pe_bl {b j pos} : PE X (.Constant (.bool b) j pos) (tC (.bl b)) := fun _ _ _ H _ I h => Constant_bool ⟨.bl b, H, I, rfl, h⟩
theorem pe_non {j pos} : PE X (.Constant .none j pos) (tC .non) := fun _ _ _ H _ I h => Constant_none ⟨.non, H, I, rfl, h⟩
theorem pe_str {x j pos} : PE X (.Constant (.str x) j pos) (tC (.str x)) := fun _ _ _ H _ I h => Calls.Constant_str ⟨.str x, H, I.tok _, ⟨_, rfl⟩, h⟩
noncomputable def Gl (X : Cx) (x : Str) : Prop := X.env.kindOf x = some .globalImplicit
theorem ld_glob {E : Value → Shared → Prop} {pins : List (Addr × Obj)} {s : Shared} {σ : St} {H : Hp} {x : Str} {u : Value} {pos : Pos} {Q : Value → Shared → Prop} (I : Inv X pins σ H s) (hg : Gl X x) (hm : X.mg x = some u) (h : Q u s)
    (hd : (x == ("__debug__" : Str)) = false := by decide) : wpAny (model X.prog X.w) X.A (eval (.Name x pos) X.env) Q E s :=
  Calls.Name_function_global I.ok.kind hg (Calls.loadGlobal_global (by rw [I.ok.glob]; exact I.mod.glob.keeps I.bk) hm h) hd
theorem ld_blt {E : Value → Shared → Prop} {pins : List (Addr × Obj)} {s : Shared} {σ : St} {H : Hp} {x : Str} {u : Value} {pos : Pos} {Q : Value → Shared → Prop} (I : Inv X pins σ H s) (hg : Gl X x) (hm : X.mg x = none) (hv : bootBuiltins x = some u) (h : Q u s)
    (hn : x ≠ "__name__" := by decide) (hd : (x == ("__debug__" : Str)) = false := by decide) : wpAny (model X.prog X.w) X.A (eval (.Name x pos) X.env) Q E s := by
  obtain ⟨mb, h1, h2⟩ := I.mod.blt
  exact Calls.Name_function_global I.ok.kind hg (Calls.loadGlobal_builtin (by rw [I.ok.glob]; exact I.mod.glob.keeps I.bk) hm (by rw [I.ok.blt]; exact h1.keeps I.bk) ((h2 x hn).trans hv) h) hd
theorem pe_glob {x : Str} {v : V} {u : Value} {pos : Pos} (hg : Gl X x) (hm : X.mg x = some u) (r : RelV v u) (hd : (x == ("__debug__" : Str)) = false := by decide) : PE X (.Name x pos) (tC v) :=
  fun _ _ _ H _ I h => ld_glob I hg hm ⟨v, H, I, r, h⟩ hd
theorem pe_bltn {x : Str} {v : V} {u : Value} {pos : Pos} (hg : Gl X x) (hm : X.mg x = none) (hv : bootBuiltins x = some u) (r : RelV v u) (hn : x ≠ "__name__" := by decide) (hd : (x == ("__debug__" : Str)) = false := by decide) : PE X (.Name x pos) (tC v) :=
  fun _ _ _ H _ I h => ld_blt I hg hm hv ⟨v, H, I, r, h⟩ hn hd
variable {a b : Expr} {ta tb : TE} {pos : Pos}
noncomputable def PC (X : Cx) (op : CmpOp) (a b : Expr) (t : TE) : Prop :=
  ∀ (pins : List (Addr × Obj)) (s : Shared) (σ : St) (H : Hp) (Q : VK), Inv X pins σ H s → t σ H Q →
    wpAny (model X.prog X.w) X.A (eval a X.env) (fun v s₁ => wpAny (model X.prog X.w) X.A (eval b X.env) (fun u s₂ => wpAny (model X.prog X.w) X.A (compareOp op v u) (EP X pins σ Q) X.xe s₂) X.xe s₁) X.xe s
inductive isB0 (Q : Bool → Hp → Prop) (x : V) (H : Hp) : Prop
  | mk (k : Bool) (e : x = .bl k) (q : Q k H) : isB0 Q x H
noncomputable def tB (t : TE) : TT := fun σ H Q => t σ H fun x H1 => isB0 Q x H1
theorem pt_cmp {op : CmpOp} {t : TE} (h : PC X op a b t) (h1 : behindInMarks op b = false := by first | exact nobehind _ (by decide) (by decide) | rfl) : PT X (.Compare a [op] [b] pos) (tB t) := by
  intro pins s σ H Q I hw
  refine wpAny_isTrue_Compare1 (thn (h pins s σ H _ I hw) fun v s1 h1 => thn h1 fun u s2 h2 => thn h2 fun c s3 ⟨x, H1, I1, r1, q1⟩ => ?_) h1
  obtain ⟨d, rfl, q⟩ := q1
  cases r1
  exact wpAny_truthy_bool ⟨H1, I1, q⟩
theorem pt_val {e : Expr} {t : TE} (h : PE X e t) (he : ∀ whole, isTrue e X.env whole = (do let v ← whole; standAt e.pos; holding [v] (truthy v)) := by intro _; rfl) : PT X e (tB t) := by
  intro pins s σ H Q I hw
  refine isTrue_plain (thn (h pins s σ H _ I hw) fun v s1 ⟨x, H1, I1, r1, q1⟩ => ?_) (he _)
  obtain ⟨d, rfl, q⟩ := q1
  cases r1
  exact wpAny_truthy_bool ⟨H1, I1, q⟩
variable {tA tB' : TT} {rest : List Expr}
noncomputable def tAnd (t u : TT) : TT := fun σ H Q => t σ H fun c H1 => if c = true then u σ H1 Q else Q false H1
noncomputable def tOr (t u : TT) : TT := fun σ H Q => t σ H fun c H1 => if c = true then Q true H1 else u σ H1 Q
noncomputable def tNot (t : TT) : TT := fun σ H Q => t σ H fun c H1 => Q (!c) H1
theorem pw_and1 (ha : PT X a tA) : PW X (.BoolOp .And [a] pos) tA := by
  intro wh pins s σ H Q I h
  refine isTrue_and (thn (ha pins s σ H Q I h) fun c s1 e => ?_)
  cases c with
  | true => exact isTrue_and_nil e
  | false => exact e
theorem pw_or1 (ha : PT X a tA) : PW X (.BoolOp .Or [a] pos) tA := by
  intro wh pins s σ H Q I h
  refine isTrue_or (thn (ha pins s σ H Q I h) fun c s1 e => ?_)
  cases c with
  | false => exact isTrue_or_nil e
  | true => exact e
theorem pw_and (ha : PT X a tA) (hb : PW X (.BoolOp .And (b :: rest) pos) tB') : PW X (.BoolOp .And (a :: b :: rest) pos) (tAnd tA tB') := by
  intro wh pins s σ H Q I h
  refine isTrue_and (thn (ha pins s σ H _ I h) fun c s1 ⟨H1, I1, q1⟩ => ?_)
  cases c with
  | true => exact hb wh pins s1 σ H1 Q I1 q1
  | false => exact ⟨H1, I1, q1⟩
theorem pw_or (ha : PT X a tA) (hb : PW X (.BoolOp .Or (b :: rest) pos) tB') : PW X (.BoolOp .Or (a :: b :: rest) pos) (tOr tA tB') := by
  intro wh pins s σ H Q I h
  refine isTrue_or (thn (ha pins s σ H _ I h) fun c s1 ⟨H1, I1, q1⟩ => ?_)
  cases c with
  | true => exact ⟨H1, I1, q1⟩
  | false => exact hb wh pins s1 σ H1 Q I1 q1
theorem pt_not (ha : PT X a tA) : PT X (.UnaryOp .Not a pos) (tNot tA) := by
  intro pins s σ H Q I h
  exact isTrue_not (ha pins s σ H (fun c H1 => Q (!c) H1) I h)
noncomputable def tAndV (ta tb : TE) : TE := fun σ H Q => ta σ H fun x H1 => ∃ c, x = .bl c ∧ if c = true then tb σ H1 Q else Q (.bl false) H1
theorem pe_one {op} {t : TE} (h : PE X a t) : PE X (.BoolOp op [a] pos) t := fun pins s σ H Q I hw => BoolOp_one (h pins s σ H Q I hw)
theorem pe_and (ha : PE X a ta) (hb : PE X (.BoolOp .And (b :: rest) pos) tb) : PE X (.BoolOp .And (a :: b :: rest) pos) (tAndV ta tb) := by
  intro pins s σ H Q I h
  refine BoolOp_and (thn (ha pins s σ H _ I h) fun v s1 ⟨x, H1, I1, r1, q1⟩ => ?_)
  obtain ⟨c, rfl, q1⟩ := q1
  cases r1
  refine wpAny_truthy_bool ?_
  cases c with
  | true => exact hb pins s1 σ H1 Q I1 q1
  | false => exact ⟨.bl false, H1, I1, rfl, q1⟩
noncomputable def tIf (t : TT) (ta tb : TE) : TE := fun σ H Q => t σ H fun c H1 => if c = true then ta σ H1 Q else tb σ H1 Q
theorem pe_ifExp {c : Expr} (hc : PT X c tA) (ha : PE X a ta) (hb : PE X b tb) : PE X (.IfExp c a b pos) (tIf tA ta tb) := by
  intro pins s σ H Q I h
  refine wpAny_IfExp (thn (hc pins s σ H _ I h) fun d s1 ⟨H1, I1, q1⟩ => ?_)
  cases d with
  | true => exact ha pins s1 σ H1 Q I1 q1
  | false => exact hb pins s1 σ H1 Q I1 q1
end
end L2
namespace L2
open PySem PySem.Spec PyProof.Rows
noncomputable def SqL (K : PySem.W.Frag) (H : Hp) (a : Addr) (xs : List V) : Prop :=
  Rd H a (.lst xs) ∨
    ∃ (o : Obj) (its : Array Value) (n : Nat), K.lookup a = some o ∧ o.cls = .type "list" ∧ o.dict = none ∧ o.data = .seq its n ∧ its.size ≤ sizeLine ∧ Vals xs its.toList
noncomputable def SqT (K : PySem.W.Frag) (H : Hp) (a : Addr) (xs : List V) : Prop :=
  Rd H a (.tup xs) ∨
    ∃ (o : Obj) (its : Array Value) (n : Nat), K.lookup a = some o ∧ o.cls = .type "tuple" ∧ o.data = .seq its n ∧ its.size ≤ sizeLine ∧ Vals xs its.toList
noncomputable def absV : Value → Option V
  | .none => some .non
  | .bool b => some (.bl b)
  | .int i _ => some (.int i)
  | .str x _ => some (.str x)
  | .bytes b _ => some (.byt b)
  | .float b _ => some (.flt b)
  | .ref a => some (.ref a)
  | .type n => some (.ty n)
  | _ => none
theorem RelV.abs {x : V} {u : Value} (r : RelV x u) : absV u = some x := by
  cases x with
  | non => cases r; rfl
  | bl _ => cases r; rfl
  | int _ => obtain ⟨t, rfl⟩ := r; rfl
  | str _ => obtain ⟨t, rfl⟩ := r; rfl
  | byt _ => obtain ⟨t, rfl⟩ := r; rfl
  | flt _ => obtain ⟨t, rfl⟩ := r; rfl
  | ref _ => cases r; rfl
  | ty _ => cases r; rfl
theorem RelV.inj {x y : V} {u : Value} (r : RelV x u) (q : RelV y u) : x = y := Option.some.inj (r.abs.symm.trans q.abs)
theorem Vals.inj : ∀ {xs ys : List V} {us : List Value}, Vals xs us → Vals ys us → xs = ys
  | _, _, _, .nil, .nil => rfl
  | _, _, _, .cons r t, .cons r' t' => by rw [r.inj r', Vals.inj t t']
section
variable {X : Cx} {pins : List (Addr × Obj)} {σ : St} {H : Hp} {s : Shared} {a : Addr} {xs ys : List V}
theorem SqL.of {K : PySem.W.Frag} (h : H a = some (.lst xs)) : SqL K H a xs := .inl (.inl h)
theorem SqT.of {K : PySem.W.Frag} (h : H a = some (.tup xs)) : SqT K H a xs := .inl (.inl h)
theorem Inv.list (I : Inv X pins σ H s) (h : SqL X.K H a xs) : ∃ its : List Value, Vals xs its ∧ PlainL s.heap a its.toArray ∧ xs.length ≤ sizeLine := by
  rcases h with h | ⟨o, its, n, hk, hc, hd, hs, hz, r⟩
  · obtain ⟨z, its, n, r, e⟩ := h.ok I.hok
    exact ⟨its, r, ⟨_, n, e, rfl, rfl, rfl⟩, z⟩
  · refine ⟨its.toList, r, ⟨o, n, I.kIn a o hk, hc, hd, by simpa using hs⟩, ?_⟩
    have e := r.length
    simp only [Array.length_toList] at e
    lia
theorem Inv.tuple (I : Inv X pins σ H s) (h : SqT X.K H a xs) : ∃ its : List Value, Vals xs its ∧ IsTup s.heap a its.toArray ∧ xs.length ≤ sizeLine := by
  rcases h with h | ⟨o, its, n, hk, hc, hs, hz, r⟩
  · obtain ⟨z, its, r, p⟩ := h.ok I.hok
    exact ⟨its, r, p, z⟩
  · refine ⟨its.toList, r, ⟨o, I.kIn a o hk, hc, n, by simpa using hs⟩, ?_⟩
    have e := r.length
    simp only [Array.length_toList] at e
    lia
theorem Inv.list_inj (I : Inv X pins σ H s) (h : SqL X.K H a xs) (h' : SqL X.K H a ys) : xs = ys := by
  obtain ⟨its, r, ⟨o, n, e, _, _, d⟩, _⟩ := I.list h
  obtain ⟨its', r', ⟨o', n', e', _, _, d'⟩, _⟩ := I.list h'
  rw [e] at e'; cases e'
  rw [d] at d'
  injection d' with d1 _
  have : its = its' := by simpa using congrArg Array.toList d1
  subst this
  exact r.inj r'
end
noncomputable abbrev Cx.wish (X : Cx) (E : Value → Shared → Prop) : Cx := { X with xe := E }
noncomputable abbrev Cx.nox (X : Cx) : Cx := X.wish fun _ _ => False
theorem Cx.Ok.wish {X : Cx} (ok : X.Ok) (E : Value → Shared → Prop) : (X.wish E).Ok :=
  ⟨ok.mod, ok.kind, ok.glob, ok.blt, ok.above, ok.inj, ok.has, ok.cab, ok.hd, ok.frames, ok.stk, ok.exf, ok.bs, ok.bsz, ok.noex, ok.exfs, ok.funs, ok.frf⟩
theorem Cx.Ok.unwish {X : Cx} {E : Value → Shared → Prop} (ok : (X.wish E).Ok) : X.Ok :=
  ⟨ok.mod, ok.kind, ok.glob, ok.blt, ok.above, ok.inj, ok.has, ok.cab, ok.hd, ok.frames, ok.stk, ok.exf, ok.bs, ok.bsz, ok.noex, ok.exfs, ok.funs, ok.frf⟩
section
variable {X : Cx} {pins : List (Addr × Obj)} {σ : St} {H : Hp} {s : Shared} {E : Value → Shared → Prop}
theorem Inv.wish (I : Inv X pins σ H s) (E : Value → Shared → Prop) : Inv (X.wish E) pins σ H s := ⟨I.ok.wish E, I.os, I.bare, I.base, I.loc, I.cell, I.free, I.freeC, I.pin, I.hok, I.len⟩
theorem Inv.unwish (I : Inv (X.wish E) pins σ H s) : Inv X pins σ H s := ⟨I.ok.unwish, I.os, I.bare, I.base, I.loc, I.cell, I.free, I.freeC, I.pin, I.hok, I.len⟩
theorem SP.unwish {D : Ends} {f : Flow} {s' : Shared} (h : SP (X.wish E) pins D f s') : SP X pins D f s' := by
  cases f with
  | next => obtain ⟨σ', H', I, q⟩ := h; exact ⟨σ', H', I.unwish, q⟩
  | brk => obtain ⟨σ', H', I, q⟩ := h; exact ⟨σ', H', I.unwish, q⟩
  | cont => obtain ⟨σ', H', I, q⟩ := h; exact ⟨σ', H', I.unwish, q⟩
  | ret u => obtain ⟨v, σ', H', I, r, q⟩ := h; exact ⟨v, σ', H', I.unwish, r, q⟩
theorem PSs.nox {st : List Stmt} {t : TS} (h : PSs X.nox st t) : PSs X st t := fun pins s σ H D I hw =>
  wpAny_mono (h pins s σ H D (I.wish _) hw) (fun _ _ q => q.unwish) fun _ _ z => False.elim z
end
section
variable {X : Cx} {st : Stmt} {rest : List Stmt} {t u : TS} {e : Expr} {te : TE} {pos : Pos}
noncomputable def tNext : TS := fun D σ H => D.nx σ H
noncomputable def tSeq (t u : TS) : TS := fun D σ H => t { D with nx := u D } σ H
theorem pss_nil : PSs X [] tNext := fun _ _ σ H _ I h => wpAny_execs_nil ⟨σ, H, I, h⟩
theorem pss_cons (h1 : PS X st t) (h2 : PSs X rest u) : PSs X (st :: rest) (tSeq t u) := by
  intro pins s σ H D I h
  refine wpAny_execs_cons (thn (h1 pins s σ H { D with nx := u D } I h) fun f s1 q => ?_)
  cases f with
  | next =>
    obtain ⟨σ', H', I', q⟩ := q
    exact h2 pins s1 σ' H' D I' q
  | ret v => exact q
  | brk => exact q
  | cont => exact q
theorem pss_one (h1 : PS X st t) : PSs X [st] t := by
  intro pins s σ H D I h
  refine wpAny_execs_cons (thn (h1 pins s σ H D I h) fun f s1 q => ?_)
  cases f with
  | next => exact wpAny_execs_nil q
  | ret v => exact q
  | brk => exact q
  | cont => exact q
theorem Inv.quiet {pins : List (Addr × Obj)} {σ : St} {H : Hp} {s : Shared} (I : Inv X pins σ H s) : interactive X.env = false := by simp [interactive, I.ok.kind]
noncomputable def tDrop (te : TE) : TS := fun D σ H => te σ H fun _ H1 => D.nx σ H1
theorem ps_expr (he : PE X e te) (hs : swapsWith e none pos.line X.env = pure false := by rfl) : PS X (.Expr e pos) (tDrop te) := by
  intro pins s σ H D I h
  exact wpAny_Expr_any (thn (he pins s σ H _ I h) fun v s1 ⟨x, H1, I1, r1, q1⟩ => ⟨σ, H1, I1, q1⟩) I.quiet hs
noncomputable def tRet (te : TE) : TS := fun D σ H => te σ H D.rt
theorem ps_ret (he : PE X e te) : PS X (.Return (some e) pos) (tRet te) := by
  intro pins s σ H D I h
  exact wpAny_Return_some (thn (he pins s σ H _ I h) fun v s1 ⟨x, H1, I1, r1, q1⟩ => ⟨x, σ, H1, I1, r1, q1⟩)
noncomputable def tIfS (c : TT) (t u : TS) : TS := fun D σ H => c σ H fun b H1 => if b = true then t D σ H1 else u D σ H1
theorem ps_if {c : Expr} {a b : List Stmt} {tc : TT} (hc : PT X c tc) (ha : PSs X a t) (hb : PSs X b u) : PS X (.If c a b pos) (tIfS tc t u) := by
  intro pins s σ H D I h
  refine wpAny_If (thn (hc pins s σ H _ I h) fun d s1 ⟨H1, I1, q1⟩ => ?_)
  cases d with
  | true => exact ha pins s1 σ H1 D I1 q1
  | false => exact hb pins s1 σ H1 D I1 q1
noncomputable def tNever : TS := fun _ _ _ => False
theorem ps_never : PS X st tNever := fun _ _ _ _ _ _ h => h.elim
theorem pss_never {sts : List Stmt} : PSs X sts tNever := fun _ _ _ _ _ _ h => h.elim
end
noncomputable abbrev TG := V → St → Hp → (St → Hp → Prop) → Prop
noncomputable abbrev TGs := List V → St → Hp → (St → Hp → Prop) → Prop
noncomputable def PG (X : Cx) (target : Expr) (t : TG) : Prop :=
  ∀ (pins : List (Addr × Obj)) (s : Shared) (σ : St) (H : Hp) (v : V) (u : Value) (Q : St → Hp → Prop), Inv X pins σ H s → RelV v u → t v σ H Q →
    wpAny (model X.prog X.w) X.A (assign target X.env u) (fun _ s' => ∃ σ' H', Inv X pins σ' H' s' ∧ Q σ' H') X.xe s
noncomputable def PGs (X : Cx) (ts : List Expr) (t : TGs) : Prop :=
  ∀ (pins : List (Addr × Obj)) (s : Shared) (σ : St) (H : Hp) (vs : List V) (us : List Value) (Q : St → Hp → Prop), Inv X pins σ H s → Vals vs us → t vs σ H Q →
    wpAny (model X.prog X.w) X.A (assignInOrder ((assignEach ts X.env).map (·.2)) us) (fun _ s' => ∃ σ' H', Inv X pins σ' H' s' ∧ Q σ' H') X.xe s
section
variable {X : Cx} {pos : Pos}
noncomputable def gName (i : Nat) : TG := fun v σ H Q => Q (σ.set i (some v)) H
theorem pg_name {i : Nat} {x : Str} (hN : X.N.Nodup) (hi : X.N[i]? = some x) (hx : Loc X.env.scope x) (hf : X.fn x = true ∨ X.env.scope.names.lookup x = some .local := by first | exact .inl rfl | exact .inr rfl | assumption) : PG X (.Name x pos) (gName i) := by
  intro pins s σ H v u Q I r h
  exact wpAny_assign_Name (store_ok I hN hi hx r (fun s' I' => ⟨_, H, I', h⟩) hf)
noncomputable def gNil : TGs := fun vs σ H Q => vs = [] ∧ Q σ H
inductive gCons (t : TG) (u : TGs) (vs : List V) (σ : St) (H : Hp) (Q : St → Hp → Prop) : Prop
  | mk (v : V) (r : List V) (e : vs = v :: r) (q : t v σ H fun σ' H' => u r σ' H' Q) : gCons t u vs σ H Q
theorem pgs_nil : PGs X [] gNil := by
  intro pins s σ H vs us Q I r h
  obtain ⟨e, h⟩ := h
  subst e
  cases r
  exact assignInOrder_nil ⟨σ, H, I, h⟩
theorem pgs_cons {e : Expr} {es : List Expr} {t : TG} {u : TGs} (h1 : PG X e t) (h2 : PGs X es u)
    (hs : (assignEach (e :: es) X.env).map (·.2) = assign e X.env :: (assignEach es X.env).map (·.2) := by rfl) : PGs X (e :: es) (gCons t u) := by
  intro pins s σ H vs us Q I r h
  obtain ⟨v, vr, e1, h⟩ := h
  subst e1
  cases r with
  | cons r rr =>
    rw [hs]
    refine assignInOrder_cons (thn (h1 pins s σ H _ _ _ I r h) fun _ s1 ⟨σ1, H1, I1, q1⟩ => ?_)
    exact h2 pins s1 σ1 H1 _ _ Q I1 rr q1
inductive gTup (K : PySem.W.Frag) (n : Nat) (t : TGs) (v : V) (σ : St) (H : Hp) (Q : St → Hp → Prop) : Prop
  | mk (a : Addr) (xs : List V) (e : v = .ref a) (s : SqT K H a xs) (l : xs.length = n) (q : t xs σ H Q) : gTup K n t v σ H Q
theorem pg_tup {es : List Expr} {k : Nat} {t : TGs} {n : Nat} (hc : X.calm = true) (h : PGs X es t)
    (hn : (assignEach es X.env).length = n := by rfl) (hst : (assignEach es X.env).findIdx? (·.1) = none := by rfl) : PG X (.Tuple es k pos) (gTup X.K n t) := by
  intro pins s σ H v u Q I r hw
  obtain ⟨a, xs, e1, hq, hl, hw⟩ := hw
  subst e1
  cases r
  obtain ⟨its, rv, ht, hz⟩ := I.tuple hq
  refine assign_Tuple_tuple (I.ok.hd hc) ht (by simp [hn, ← hl, rv.length]) hst fun h' hx => ?_
  have I1 : Inv X pins σ H { s with heap := h' } := I.kept (t' := s.toks) fun b o e => hx b o (Nat.ne_of_lt (Heap.lt_size e)) e
  exact h pins _ σ H xs _ Q I1 (by simpa using rv) hw
noncomputable def tAsg (te : TE) (g : TG) : TS := fun D σ H => te σ H fun x H1 => g x σ H1 D.nx
theorem ps_asg {tg e : Expr} {te : TE} {g : TG} (he : PE X e te) (hg : PG X tg g) (hs : swapsWithSole [tg] e pos.line X.env = pure false := by rfl) (hw : swappedStores [tg] e X.env = pure none := by rfl)
    (h1 : (assignEach [tg] X.env).map (·.2) = [assign tg X.env] := by rfl) : PS X (.Assign [tg] e pos) (tAsg te g) := by
  intro pins s σ H D I h
  refine wpAny_Assign_stores (thn (he pins s σ H _ I h) fun v s1 ⟨x, H1, I1, r1, q1⟩ => ?_) hs hw
  rw [h1]
  exact thn (hg pins s1 σ H1 x v _ I1 r1 q1) fun _ s2 q => q
theorem ps_set {i : Nat} {x : Str} {e : Expr} {te : TE} {pos' : Pos} (hN : X.N.Nodup) (hi : X.N[i]? = some x) (hx : Loc X.env.scope x) (he : PE X e te) (hs : swapsWith e (some (.Name x pos')) pos.line X.env = pure false := by rfl) (hf : X.fn x = true ∨ X.env.scope.names.lookup x = some .local := by first | exact .inl rfl | exact .inr rfl | assumption) :
    PS X (.Assign [.Name x pos'] e pos) (tAsg te (gName i)) := by
  intro pins s σ H D I h
  refine wpAny_Assign_Name (thn (he pins s σ H _ I h) fun v s1 ⟨y, H1, I1, r1, q1⟩ => ?_) hs
  exact store_ok I1 hN hi hx r1 (fun s2 I2 => ⟨_, H1, I2, q1⟩) hf
end
structure It where
  go : Nat → Hp → Prop
  yld : Nat → Hp → V → Hp → Prop
  stop : Nat → Hp → Prop
noncomputable def FpOk (X : Cx) (pins : List (Addr × Obj)) (H : Hp) (b : Addr) : Prop :=
  H b = none ∧ b ≠ X.env.locals ∧ b ∉ X.fs ∧ (b ∈ X.ex ∨ X.s₀.heap.objs.size ≤ b) ∧ (∀ x c, X.env.cells.lookup x = some c → c ≠ b) ∧ ∀ p ∈ X.pn ++ pins, p.1 ≠ b
theorem Inv.fpOk {X : Cx} {pins : List (Addr × Obj)} {σ : St} {H H' : Hp} {s : Shared} {b : Addr} (I : Inv X pins σ H s) (hb : s.heap.objs.size ≤ b) (hn : H' b = none) : FpOk X pins H' b := by
  refine ⟨hn, Nat.ne_of_gt (Nat.lt_of_lt_of_le I.lt hb), I.nofs hb, .inr (Nat.le_trans I.sz hb), fun x c e z => ?_, fun p hp z => ?_⟩
  · obtain ⟨v, q⟩ := I.cell x c e
    exact absurd (Nat.lt_of_lt_of_le q.lt (by rw [z]; exact hb)) (Nat.lt_irrefl _)
  · exact absurd (Nat.lt_of_lt_of_le (Heap.lt_size (I.pin p hp).1) (by rw [z]; exact hb)) (Nat.lt_irrefl _)
structure Turn (P : Program) (w : World) (K : PySem.W.Frag) (tg : Expr) (J : It) (fp : List Addr) (it : Addr) (tn : Nat → Heap → Prop) : Prop where
  mem : it ∈ fp
  obj : ∀ i h, tn i h → ∀ b ∈ fp, ∃ o, h.get? b = some o ∧ ∀ v, o.data ≠ .cell v
  keep : ∀ i h h', tn i h → (∀ b ∈ fp, ∀ o, h.get? b = some o → h'.get? b = some o) → tn i h'
  item : ∀ (X : Cx), X.prog = P → X.w = w → X.K = K → X.calm = true → ∀ (i : Nat) (pins : List (Addr × Obj)) (s : Shared) (σ : St) (H : Hp) (E : Value → Shared → Prop), Inv X pins σ H s → (∀ b ∈ fp, FpOk X pins H b) → tn i s.heap → J.go i H →
    wpAny (model P w) X.A (pyNext (.ref it)) (fun r s1 => ∃ u, r = some u ∧
      wpAny (model P w) X.A (letOwnedTupleGo tg (.ref it) u) (fun _ s2 => ∃ x H', Inv X pins σ H' s2 ∧ RelV x u ∧ J.yld i H x H' ∧ tn (i + 1) s2.heap ∧ ∀ b ∈ fp, H' b = none) E s1) E s
  done : ∀ (X : Cx), X.prog = P → X.w = w → X.K = K → X.calm = true → ∀ (i : Nat) (pins : List (Addr × Obj)) (s : Shared) (σ : St) (H : Hp) (E : Value → Shared → Prop), Inv X pins σ H s → (∀ b ∈ fp, FpOk X pins H b) → tn i s.heap → J.stop i H →
    wpAny (model P w) X.A (pyNext (.ref it)) (fun r s1 => r = none ∧ Inv X pins σ H s1) E s
  self : ∀ (A : Around) (i : Nat) (s : Shared) (Q : Value → Shared → Prop) (E : Value → Shared → Prop), tn i s.heap → Q (.ref it) s → wpAny (model P w) A (pyIter (.ref it)) Q E s
noncomputable abbrev TI := St → Hp → (It → Hp → Prop) → Prop
noncomputable def PIE (X : Cx) (pins : List (Addr × Obj)) (σ : St) (tg : Expr) (R : It → Hp → Prop) (itv : Value) (s2 : Shared) : Prop :=
  ∃ (it : Addr) (fp : List Addr) (tn : Nat → Heap → Prop) (J : It) (H' : Hp), itv = .ref it ∧ Inv X pins σ H' s2 ∧ Turn X.prog X.w X.K tg J fp it tn ∧ tn 0 s2.heap ∧ (∀ b ∈ fp, FpOk X pins H' b) ∧ R J H'
noncomputable def PI (X : Cx) (tg iter : Expr) (wi : TI) : Prop :=
  ∀ (pins : List (Addr × Obj)) (s : Shared) (σ : St) (H : Hp) (R : It → Hp → Prop), Inv X pins σ H s → wi σ H R →
    wpAny (model X.prog X.w) X.A (eval iter X.env) (fun v s1 => wpAny (model X.prog X.w) X.A (pyIter v) (PIE X pins σ tg R) X.xe s1) X.xe s
theorem go_of {M : Model} {A : Around} {E : Value → Shared → Prop} {s : Shared} {tg : Expr} {it : Addr} {u : Value} {o : Obj} {n : String} {vs : Array Value} {Q : Unit → Shared → Prop} (ho : s.heap.get? it = some o) (hc : o.cls = .type n) (hd : o.data = .fields vs)
    (hn : ["enumerate", "zip", "dict_itemiterator", "dict_reverseitemiterator", "odict_iterator", "itertools.zip_longest", "itertools.pairwise"].contains n = false) (hQ : Q () s) : wpAny M A (letOwnedTupleGo tg (.ref it) u) Q E s := by
  unfold letOwnedTupleGo
  cases tg <;> first
    | exact wpAny_pure hQ
    | (cases u <;> first
        | exact wpAny_pure hQ
        | (refine wpAny_bind (wpAny_load ho ?_)
           rw [hc, hd]
           show wpAny M A (if (["enumerate", "zip", "dict_itemiterator", "dict_reverseitemiterator", "odict_iterator", "itertools.zip_longest", "itertools.pairwise"].contains n && vs[0]? == some (rawInt _)) = true then _ else _) Q E s
           rw [if_neg (by intro h; rw [hn, Bool.false_and] at h; cases h)]
           exact wpAny_pure hQ))
noncomputable def Itl (K : PySem.W.Frag) (a : Addr) : It :=
  ⟨fun i H => ∃ xs x, SqL K H a xs ∧ xs[i]? = some x, fun i H x H' => H' = H ∧ ∀ xs, SqL K H a xs → xs[i]? = some x, fun i H => ∃ xs, SqL K H a xs ∧ xs.length ≤ i⟩
noncomputable def Itr (lo : Int) (n : Nat) : It := ⟨fun i _ => i < n, fun i H x H' => H' = H ∧ x = .int (lo + i), fun i _ => n ≤ i⟩
theorem turn_list {P : Program} {w : World} {K : PySem.W.Frag} {tg : Expr} (a it : Addr) : Turn P w K tg (Itl K a) [it] it (fun i h => h.IsListIter it a i) where
  mem := by simp
  obj := fun i h st b hb => by
    have e : b = it := by simpa using hb
    subst e
    obtain ⟨o, e, c, d⟩ := st
    exact ⟨o, e, fun v z => by rw [d] at z; cases z⟩
  keep := fun i h h' st k => st.at fun o e => k it (by simp) o e
  item := by
    intro X hP hw hK hc i pins s σ H E I hf st hg
    subst hP hw hK
    obtain ⟨xs, x, hq, hx⟩ := hg
    obtain ⟨its, rv, p, hz⟩ := I.list hq
    obtain ⟨u, hu, ru⟩ := rv.get hx
    obtain ⟨f0, f1, f2, f3, f4, f5⟩ := hf it (by simp)
    refine wpAny_pyNext_list_item st p.isList (x := u) (by simpa using hu) fun h' st' sb => ?_
    have I1 : Inv X pins σ H { s with heap := h' } := I.turned (t' := s.toks) (fun b o hb e => (sb.2 b hb).trans e) f0 f1 f3 f4 f5
    obtain ⟨o, e, c, d⟩ := id st'
    exact ⟨u, rfl, go_of (s := { s with heap := h' }) e c d (by decide) ⟨x, H, I1, ru, ⟨rfl, fun ys hy => by rw [I.list_inj hy hq]; exact hx⟩, st', fun b hb => (hf b hb).1⟩⟩
  done := by
    intro X hP hw hK hc i pins s σ H E I hf st hg
    subst hP hw hK
    obtain ⟨xs, hq, hx⟩ := hg
    obtain ⟨its, rv, p, hz⟩ := I.list hq
    obtain ⟨f0, f1, f2, f3, f4, f5⟩ := hf it (by simp)
    have hl := rv.length
    exact wpAny_pyNext_list_end (I.ok.hd hc) st p.isList (by simp; lia) fun h' eb => ⟨rfl, I.turned (t' := s.toks) (fun b o hb e => eb b o hb e) f0 f1 f3 f4 f5⟩
  self := fun _ _ _ _ _ st h => wpAny_pyIter_listiter st h
theorem turn_range {P : Program} {w : World} {K : PySem.W.Frag} {tg : Expr} (it : Addr) (lo : Int) (n : Nat) : Turn P w K tg (Itr lo n) [it] it (fun i h => IsRangeIter h it (lo + (i : Nat) * 1) ((n : Int) - (i : Nat)) 1) where
  mem := by simp
  obj := fun i h st b hb => by
    have e : b = it := by simpa using hb
    subst e
    exact ⟨_, st, fun v z => by
      have z' : Data.fields _ = Data.cell v := z
      cases z'⟩
  keep := fun i h h' st k => k it (by simp) _ st
  item := by
    intro X hP hw hK hc i pins s σ H E I hf st hg
    subst hP hw hK
    obtain ⟨f0, f1, f2, f3, f4, f5⟩ := hf it (by simp)
    have W := Walks.range (prog := X.prog) (w := X.w) (I.ok.hd hc) it lo 1 n
    refine W.item i s _ _ hg st fun v h' tk hv st' kk => ?_
    obtain ⟨t, rfl⟩ := hv
    have I1 : Inv X pins σ H { s with heap := h', toks := tk } := I.turned (fun b o hb e => kk b o (by simpa using hb) e) f0 f1 f3 f4 f5
    refine ⟨_, rfl, go_of (s := { s with heap := h', toks := tk }) (n := "range_iterator") st' rfl rfl (by decide) ⟨.int (lo + i), H, I1, ⟨t, ?_⟩, ⟨rfl, rfl⟩, st', fun b hb => (hf b hb).1⟩⟩
    rw [Int.mul_one]
  done := by
    intro X hP hw hK hc i pins s σ H E I hf st hg
    subst hP hw hK
    obtain ⟨f0, f1, f2, f3, f4, f5⟩ := hf it (by simp)
    exact wpAny_pyNext_range_end (I.ok.hd hc) st (by have : n ≤ i := hg; lia) fun h' eb => ⟨rfl, I.turned (t' := s.toks) (fun b o hb e => eb b o hb e) f0 f1 f3 f4 f5⟩
  self := fun _ _ _ _ _ st h => wpAny_pyIter_rangeiter st h
end L2
namespace L2
open PySem PySem.Spec PyProof.Rows
section
variable {X : Cx} {tg : Expr}
noncomputable def iList (K : PySem.W.Frag) (tl : TE) : TI := fun σ H R => tl σ H fun x H1 => ∃ a, x = .ref a ∧ (∃ xs, SqL K H1 a xs) ∧ R (Itl K a) H1
theorem pi_list {l : Expr} {tl : TE} (hl : PE X l tl) : PI X tg l (iList X.K tl) := by
  intro pins s σ H R I h
  refine thn (hl pins s σ H _ I h) fun v s1 ⟨x, H1, I1, r1, q1⟩ => ?_
  obtain ⟨a, e, ⟨xs, hq⟩, q⟩ := q1
  subst e
  cases r1
  obtain ⟨its, rv, p, hz⟩ := I1.list hq
  refine wpAny_pyIter_list p.isList ?_
  refine ⟨s1.heap.objs.size, [s1.heap.objs.size], _, _, H1, rfl, I1.kept (t' := s1.toks) fun b o e => Heap.get?_push_of_some _ e, turn_list a _, ⟨_, Heap.get?_push_size _ rfl, rfl, rfl⟩, fun b hb => ?_, q⟩
  have e : b = s1.heap.objs.size := by simpa using hb
  subst e
  exact I1.fpOk (Nat.le_refl _) (I1.hok.fresh (Nat.le_refl _))
theorem range_it {pins : List (Addr × Obj)} {σ : St} {H : Hp} {s : Shared} {R : It → Hp → Prop} {E : Value → Shared → Prop} {lo hi : Int} {t u v : Tok} {tk : Nat} (I : Inv X pins σ H s) (h1 : -(2 ^ 62) ≤ lo) (h2 : lo < 2 ^ 62) (h3 : -(2 ^ 62) ≤ hi) (h4 : hi < 2 ^ 62)
    (q : R (Itr lo (hi - lo).toNat) H) : wpAny (model X.prog X.w) X.A (pyIter (.ref s.heap.objs.size)) (PIE X pins σ tg R) E { s with heap := s.heap.push { cls := .type "range", data := .fields #[.int lo t, .int hi u, .int 1 v] }, toks := tk } := by
  refine wpAny_pyIter_range (IsRange.new ..) (small_one h1 h2 h3 h4) ?_
  have I1 : Inv X pins σ H { s with heap := s.heap.push { cls := .type "range", data := .fields #[.int lo t, .int hi u, .int 1 v] }, toks := tk } := I.kept fun b o e => Heap.get?_push_of_some _ e
  refine ⟨(s.heap.push { cls := .type "range", data := .fields #[.int lo t, .int hi u, .int 1 v] }).objs.size, [(s.heap.push { cls := .type "range", data := .fields #[.int lo t, .int hi u, .int 1 v] }).objs.size], _, _, H, rfl,
    I1.kept (t' := tk) fun b o e => Heap.get?_push_of_some _ e, turn_range _ lo (hi - lo).toNat, ?_, fun b hb => ?_, q⟩
  · have e1 : lo + ((0 : Nat) : Int) * 1 = lo := by simp
    have e2 : (((hi - lo).toNat : Nat) : Int) - ((0 : Nat) : Int) = Builtin.Range.rangeSize lo hi 1 := by rw [rangeSize_one]; split <;> lia
    show IsRangeIter _ _ (lo + ((0 : Nat) : Int) * 1) ((((hi - lo).toNat : Nat) : Int) - ((0 : Nat) : Int)) 1
    rw [e1, e2]
    exact Heap.get?_push_size _ rfl
  · have e : b = (s.heap.push { cls := .type "range", data := .fields #[.int lo t, .int hi u, .int 1 v] }).objs.size := by simpa using hb
    subst e
    exact I1.fpOk (Nat.le_refl _) (I1.hok.fresh (Nat.le_refl _))
noncomputable def iRng1 (ta : TA) : TI := fun σ H R => ta σ H fun vs H1 => ∃ j : Int, vs = [.int j] ∧ -(2 ^ 62) ≤ j ∧ j < 2 ^ 62 ∧ R (Itr 0 j.toNat) H1
noncomputable def iRng2 (ta : TA) : TI := fun σ H R => ta σ H fun vs H1 => ∃ i j : Int, vs = [.int i, .int j] ∧ (-(2 ^ 62) ≤ i ∧ i < 2 ^ 62 ∧ -(2 ^ 62) ≤ j ∧ j < 2 ^ 62) ∧ R (Itr i (j - i).toNat) H1
theorem pi_range1 {a : Expr} {ta : TA} {p pos : Pos} (hg : Gl X "range") (hm : X.mg "range" = none) (ha : PA X [a] ta) (hs : starEach [a] X.env = [(false, eval a X.env)] := by rfl) : PI X tg (.Call (.Name "range" p) [a] [] pos) (iRng1 ta) := by
  intro pins s σ H R I h
  refine Call_ (ld_blt I hg hm boot_range (PyProof.Rows.callWith_type1 (thn (ha pos pins s σ H _ I h) fun us s1 ⟨vs, H1, I1, r1, q1⟩ => ?_) hs rfl))
  obtain ⟨j, e, q1, q2, q⟩ := q1
  subst e
  cases r1 with
  | cons r rr =>
    cases rr
    obtain ⟨t, rfl⟩ := r
    exact call_range_1 (range_it I1 (by lia) (by lia) q1 q2 (by simpa using q))
theorem pi_range2 {a b : Expr} {ta : TA} {p pos : Pos} (hg : Gl X "range") (hm : X.mg "range" = none) (ha : PA X [a, b] ta) (hs : starEach [a, b] X.env = [(false, eval a X.env), (false, eval b X.env)] := by rfl) (hs2 : starEach [b] X.env = [(false, eval b X.env)] := by rfl) :
    PI X tg (.Call (.Name "range" p) [a, b] [] pos) (iRng2 ta) := by
  intro pins s σ H R I h
  refine Call_ (ld_blt I hg hm boot_range (PyProof.Rows.callWith_type1 (thn (ha pos pins s σ H _ I h) fun us s1 ⟨vs, H1, I1, r1, q1⟩ => ?_) (by rw [hs, hs2]) (by rw [hs2]; rfl)))
  obtain ⟨i, j, e, ⟨q1, q2, q3, q4⟩, q⟩ := q1
  subst e
  cases r1 with
  | cons r rr =>
    cases rr with
    | cons r' rr =>
      cases rr
      obtain ⟨t, rfl⟩ := r
      obtain ⟨t', rfl⟩ := r'
      exact call_range_2 (range_it I1 q1 q2 q3 q4 q)
noncomputable def tFor (wi : TI) (g : TG) (tb : TS) : TS := fun D σ H => wi σ H fun J H1 => ∃ W : Nat → Nat → St → Hp → Prop, (∃ m, W 0 m σ H1) ∧ ∀ i m σ H, W i m σ H →
  (J.stop i H ∧ D.nx σ H) ∨ (J.go i H ∧ ∃ N : St → Hp → Prop, (∀ σ' H', N σ' H' → ∃ m', m' < m ∧ W (i + 1) m' σ' H') ∧ ∀ x H', J.yld i H x H' → g x σ H' fun σ2 H2 => tb { D with nx := N, ct := N, bk := D.nx } σ2 H2)
noncomputable def pinsAt (fp : List Addr) (h : Heap) : List (Addr × Obj) := fp.filterMap fun b => (h.get? b).map fun o => (b, o)
theorem mem_pinsAt {fp : List Addr} {h : Heap} {b : Addr} {o : Obj} (hb : b ∈ fp) (e : h.get? b = some o) : (b, o) ∈ pinsAt fp h := List.mem_filterMap.mpr ⟨b, hb, by rw [e]; rfl⟩
theorem of_pinsAt {fp : List Addr} {h : Heap} {p : Addr × Obj} (hp : p ∈ pinsAt fp h) : p.1 ∈ fp ∧ h.get? p.1 = some p.2 := by
  obtain ⟨b, hb, e⟩ := List.mem_filterMap.mp hp
  cases q : h.get? b with
  | none => rw [q] at e; cases e
  | some o =>
    rw [q] at e
    have e' : (b, o) = p := Option.some.inj e
    subst e'
    exact ⟨hb, q⟩
theorem Inv.pinned {pins : List (Addr × Obj)} {σ : St} {H : Hp} {s : Shared} {fp : List Addr} (I : Inv X pins σ H s) (hf : ∀ b ∈ fp, FpOk X pins H b) (ho : ∀ b ∈ fp, ∃ o, s.heap.get? b = some o ∧ ∀ v, o.data ≠ .cell v) : Inv X (pins ++ pinsAt fp s.heap) σ H s :=
  I.pins_of fun p hp => (List.mem_append.mp hp).elim (fun z => I.pin p (List.mem_append_right _ z)) fun z => by
    obtain ⟨hb, e⟩ := of_pinsAt z
    obtain ⟨f0, f1, f2, _⟩ := hf p.1 hb
    obtain ⟨o, e', d⟩ := ho p.1 hb
    rw [e] at e'; cases e'
    exact ⟨e, f0, f1, f2, d⟩
theorem Inv.unpinned {pins pl : List (Addr × Obj)} {σ : St} {H : Hp} {s : Shared} (I : Inv X (pins ++ pl) σ H s) : Inv X pins σ H s := I.pins_of fun p hp => I.pin p (List.mem_append_right _ (List.mem_append_left _ hp))
theorem ps_for {iter : Expr} {body : List Stmt} {wi : TI} {g : TG} {tb : TS} {pos : Pos} (hp : PassesOwn (model X.prog X.w) X.A X.env X.xe) (hc : X.calm = true) (hi : PI X tg iter wi) (hg : PG X tg g) (hb : PSs X body tb)
    (hs : ∀ x, foldedSetIterable iter X.env x = pure x := by intro _; rfl) : PS X (.For tg iter body [] pos) (tFor wi g tb) := by
  intro pins s σ H D I h
  refine wpAny_For (thn (hi pins s σ H _ I h) fun v s1 h1 => thn h1 fun itv s2 h2 => ?_) hs
  obtain ⟨it, fp, tn, J, H2, e, I2, T, st2, f2, W, ⟨m0, w0⟩, turn⟩ := h2
  subst e
  -- what stays true of the iterator's objects through the loop
  have stat : ∀ {H' : Hp}, (∀ b ∈ fp, H' b = none) → ∀ b ∈ fp, FpOk X pins H' b := fun hn b hb => ⟨hn b hb, (f2 b hb).2⟩
  refine codeAny_forLoop_any (fun n s' => ∃ i σ' H', Inv X pins σ' H' s' ∧ tn i s'.heap ∧ (∀ b ∈ fp, H' b = none) ∧ W i n σ' H') ?_ m0 ⟨0, σ, H2, I2, st2, fun b hb => (f2 b hb).1, w0⟩
  rintro n s3 ⟨i, σ3, H3, I3, st3, fr3, w3⟩
  rcases turn i n σ3 H3 w3 with ⟨stop, qn⟩ | ⟨go, N, hN, step⟩
  · refine wpAny_passesOwn hp (thn (T.done X rfl rfl rfl hc i pins s3 σ3 H3 X.xe I3 (stat fr3) st3 stop) fun r s4 ⟨hr, I4⟩ => ?_)
    subst hr
    exact wpAny_execs_nil ⟨σ3, H3, I4, qn⟩
  · refine wpAny_passesOwn hp (thn (T.item X rfl rfl rfl hc i pins s3 σ3 H3 X.xe I3 (stat fr3) st3 go) fun r s4 ⟨u, hr, h4⟩ => ?_)
    subst hr
    refine wpAny_passesOwn hp (thn h4 fun _ s5 ⟨x, H5, I5, r5, y5, st5, fr5⟩ => ?_)
    have I5' := I5.pinned (stat fr5) (T.obj _ _ st5)
    refine wpAny_passesOwn hp (thn (hg _ s5 σ3 H5 x u _ I5' r5 (step x H5 y5)) fun _ s6 ⟨σ6, H6, I6, q6⟩ => ?_)
    refine wpAny_passesOwn hp (thn (hb _ s6 σ6 H6 _ I6 q6) fun f s7 q7 => ?_)
    have again : ∀ {σ7 : St} {H7 : Hp}, Inv X (pins ++ pinsAt fp s5.heap) σ7 H7 s7 → N σ7 H7 → ∃ m, m < n ∧ ∃ i σ' H', Inv X pins σ' H' s7 ∧ tn i s7.heap ∧ (∀ b ∈ fp, H' b = none) ∧ W i m σ' H' := fun {σ7 H7} I7 n7 => by
      obtain ⟨m', hm, w7⟩ := hN σ7 H7 n7
      refine ⟨m', hm, i + 1, σ7, H7, I7.unpinned, T.keep _ _ _ st5 fun b hb o e => (I7.pin (b, o) (List.mem_append_right _ (List.mem_append_right _ (mem_pinsAt hb e)))).1, fun b hb => ?_, w7⟩
      obtain ⟨o, e, d⟩ := T.obj _ _ st5 b hb
      exact (I7.pin (b, o) (List.mem_append_right _ (List.mem_append_right _ (mem_pinsAt hb e)))).2.1
    cases f with
    | next => obtain ⟨σ7, H7, I7, n7⟩ := q7; exact again I7 n7
    | cont => obtain ⟨σ7, H7, I7, n7⟩ := q7; exact again I7 n7
    | brk => obtain ⟨σ7, H7, I7, q7⟩ := q7; exact ⟨σ7, H7, I7.unpinned, q7⟩
    | ret v => obtain ⟨x7, σ7, H7, I7, r7, q7⟩ := q7; exact ⟨x7, σ7, H7, I7.unpinned, r7, q7⟩
end
theorem for_list {K : PySem.W.Frag} {a : Addr} {xs : List V} {g : TG} {tb : TS} {D : Ends} {σ : St} {H : Hp} (Pv : Nat → St → Hp → Prop) (h0 : Pv 0 σ H) (hl : ∀ i σ H, i ≤ xs.length → Pv i σ H → SqL K H a xs)
    (hs : ∀ i x σ H, xs[i]? = some x → Pv i σ H → g x σ H fun σ2 H2 => tb { D with nx := Pv (i + 1), ct := Pv (i + 1), bk := D.nx } σ2 H2) (hd : ∀ σ H, Pv xs.length σ H → D.nx σ H) :
    ∃ W : Nat → Nat → St → Hp → Prop, (∃ m, W 0 m σ H) ∧ ∀ i m σ H, W i m σ H →
      ((Itl K a).stop i H ∧ D.nx σ H) ∨ ((Itl K a).go i H ∧ ∃ N : St → Hp → Prop, (∀ σ' H', N σ' H' → ∃ m', m' < m ∧ W (i + 1) m' σ' H') ∧ ∀ x H', (Itl K a).yld i H x H' → g x σ H' fun σ2 H2 => tb { D with nx := N, ct := N, bk := D.nx } σ2 H2) := by
  refine ⟨fun i m σ H => m = xs.length - i ∧ i ≤ xs.length ∧ Pv i σ H, ⟨xs.length, by simp, Nat.zero_le _, h0⟩, ?_⟩
  rintro i m σ H ⟨rfl, hi, p⟩
  have q := hl i σ H hi p
  by_cases hlt : i < xs.length
  · refine .inr ⟨⟨xs, xs[i], q, by simp [hlt]⟩, Pv (i + 1), fun σ' H' p' => ⟨xs.length - (i + 1), by lia, rfl, hlt, p'⟩, fun x H' y => ?_⟩
    obtain ⟨e, y⟩ := y
    subst e
    exact hs i x σ _ (y xs q) p
  · have e : i = xs.length := by lia
    subst e
    exact .inl ⟨⟨xs, q, Nat.le_refl _⟩, hd σ H p⟩
theorem for_range {lo : Int} {n : Nat} {g : TG} {tb : TS} {D : Ends} {σ : St} {H : Hp} (Pv : Nat → St → Hp → Prop) (h0 : Pv 0 σ H)
    (hs : ∀ i σ H, i < n → Pv i σ H → g (.int (lo + i)) σ H fun σ2 H2 => tb { D with nx := Pv (i + 1), ct := Pv (i + 1), bk := D.nx } σ2 H2) (hd : ∀ σ H, Pv n σ H → D.nx σ H) :
    ∃ W : Nat → Nat → St → Hp → Prop, (∃ m, W 0 m σ H) ∧ ∀ i m σ H, W i m σ H →
      ((Itr lo n).stop i H ∧ D.nx σ H) ∨ ((Itr lo n).go i H ∧ ∃ N : St → Hp → Prop, (∀ σ' H', N σ' H' → ∃ m', m' < m ∧ W (i + 1) m' σ' H') ∧ ∀ x H', (Itr lo n).yld i H x H' → g x σ H' fun σ2 H2 => tb { D with nx := N, ct := N, bk := D.nx } σ2 H2) := by
  refine ⟨fun i m σ H => m = n - i ∧ i ≤ n ∧ Pv i σ H, ⟨n, by simp, Nat.zero_le _, h0⟩, ?_⟩
  rintro i m σ H ⟨rfl, hi, p⟩
  by_cases hlt : i < n
  · refine .inr ⟨hlt, Pv (i + 1), fun σ' H' p' => ⟨n - (i + 1), by lia, rfl, hlt, p'⟩, fun x H' y => ?_⟩
    obtain ⟨e, y⟩ := y
    subst e y
    exact hs i σ _ hlt p
  · have e : i = n := by lia
    subst e
    exact .inl ⟨Nat.le_refl _, hd σ H p⟩
end L2
namespace L2
open PySem PySem.Spec PyProof.Rows
noncomputable abbrev R2 := V → V → Hp → VK → Prop
noncomputable def OpR (X : Cx) (f : Value → Value → Sem Value) (r : R2) : Prop :=
  ∀ (pins : List (Addr × Obj)) (s : Shared) (σ : St) (H : Hp) (x y : V) (v u : Value) (Q : VK), Inv X pins σ H s → RelV x v → RelV y u → r x y H Q →
    wpAny (model X.prog X.w) X.A (f v u) (EP X pins σ Q) X.xe s
noncomputable def CallR (X : Cx) (f : Value) (r : List V → Hp → VK → Prop) : Prop :=
  ∀ (pins : List (Addr × Obj)) (s : Shared) (σ : St) (H : Hp) (xs : List V) (us : List Value) (Q : VK), Inv X pins σ H s → Vals xs us → r xs H Q →
    wpAny (model X.prog X.w) X.A (call f us) (EP X pins σ Q) X.xe s
noncomputable def tOp (r : R2) (ta tb : TE) : TE := fun σ H Q => ta σ H fun x H1 => tb σ H1 fun y H2 => r x y H2 Q
inductive rI (C : Int → Int → Prop) (g : Int → Int → V) (x y : V) (H : Hp) (Q : VK) : Prop
  | mk (i j : Int) (e : x = .int i) (e' : y = .int j) (c : C i j) (q : Q (g i j) H) : rI C g x y H Q
inductive rI0 (g : Int → Int → V) (x y : V) (H : Hp) (Q : VK) : Prop
  | mk (i j : Int) (e : x = .int i) (e' : y = .int j) (q : Q (g i j) H) : rI0 g x y H Q
section
variable {X : Cx} {a b c : Expr} {ta tb tc : TE} {pos : Pos}
theorem binT (ha : PE X a ta) (hb : PE X b tb) {pins : List (Addr × Obj)} {s : Shared} {σ : St} {H : Hp} {R : V → V → Hp → Prop} (I : Inv X pins σ H s)
    (h : ta σ H fun x H1 => tb σ H1 fun y H2 => R x y H2) {Q : Value → Shared → Prop} {f : Value → Value → Sem Value}
    (hf : ∀ v u s2 x y H2, Inv X pins σ H2 s2 → RelV x v → RelV y u → R x y H2 → wpAny (model X.prog X.w) X.A (f v u) Q X.xe s2) :
    wpAny (model X.prog X.w) X.A (eval a X.env) (fun v s₁ => wpAny (model X.prog X.w) X.A (eval b X.env) (fun u s₂ => wpAny (model X.prog X.w) X.A (f v u) Q X.xe s₂) X.xe s₁) X.xe s := by
  refine thn (ha pins s σ H _ I h) fun v s1 ⟨x, H1, I1, r1, q1⟩ => ?_
  refine thn (hb pins s1 σ H1 _ I1 q1) fun u s2 ⟨y, H2, I2, r2, q2⟩ => ?_
  exact hf v u s2 x y H2 I2 r1 r2 q2
theorem pe_op {op : Operator} {r : R2} (ho : OpR X (binaryOp op) r) (ha : PE X a ta) (hb : PE X b tb) : PE X (.BinOp a op b pos) (tOp r ta tb) := by
  intro pins s σ H Q I h
  exact wpAny_BinOp (binT ha hb I h fun v u s2 x y H2 I2 rx ry q => ho pins s2 σ H2 x y v u Q I2 rx ry q)
theorem opI {f : Value → Value → Sem Value} {C : Int → Int → Prop} {g : Int → Int → Int}
    (rule : ∀ (i j : Int) (t u : Tok) (s : Shared) (Q : Value → Shared → Prop) (E : Value → Shared → Prop), C i j → Q (.int (g i j) s.toks) { s with toks := s.toks + 1 } → wpAny (model X.prog X.w) X.A (f (.int i t) (.int j u)) Q E s) :
    OpR X f (rI C fun i j => .int (g i j)) := by
  intro pins s σ H x y v u Q I rx ry h
  obtain ⟨i, j, rfl, rfl, hc, q⟩ := h
  obtain ⟨t, rfl⟩ := rx
  obtain ⟨t', rfl⟩ := ry
  exact rule i j t t' s _ _ hc ⟨.int (g i j), H, I.tok _, ⟨_, rfl⟩, q⟩
theorem opI0 {f : Value → Value → Sem Value} {g : Int → Int → Int}
    (rule : ∀ (i j : Int) (t u : Tok) (s : Shared) (Q : Value → Shared → Prop) (E : Value → Shared → Prop), Q (.int (g i j) s.toks) { s with toks := s.toks + 1 } → wpAny (model X.prog X.w) X.A (f (.int i t) (.int j u)) Q E s) :
    OpR X f (rI0 fun i j => .int (g i j)) := by
  intro pins s σ H x y v u Q I rx ry h
  obtain ⟨i, j, rfl, rfl, q⟩ := h
  obtain ⟨t, rfl⟩ := rx
  obtain ⟨t', rfl⟩ := ry
  exact rule i j t t' s _ _ ⟨.int (g i j), H, I.tok _, ⟨_, rfl⟩, q⟩
theorem opB0 {f : Value → Value → Sem Value} {g : Int → Int → Bool}
    (rule : ∀ (i j : Int) (t u : Tok) (s : Shared) (Q : Value → Shared → Prop) (E : Value → Shared → Prop), Q (.bool (g i j)) s → wpAny (model X.prog X.w) X.A (f (.int i t) (.int j u)) Q E s) :
    OpR X f (rI0 fun i j => .bl (g i j)) := by
  intro pins s σ H x y v u Q I rx ry h
  obtain ⟨i, j, rfl, rfl, q⟩ := h
  obtain ⟨t, rfl⟩ := rx
  obtain ⟨t', rfl⟩ := ry
  exact rule i j t t' s _ _ ⟨.bl (g i j), H, I, rfl, q⟩
noncomputable def CDiv (i j : Int) : Prop := 0 < j ∧ j < 1073741824
noncomputable def CPow (i j : Int) : Prop := 0 ≤ j ∧ j ≤ 1000000 ∧ i.natAbs < 2 ^ 64
noncomputable def CMul (i j : Int) : Prop := (-(2 ^ 64) < i ∧ i < 2 ^ 64) ∨ (-(2 ^ 64) < j ∧ j < 2 ^ 64)
theorem CMul.ok {i j : Int} (h : CMul i j) : IntMulOk i j := by
  rcases h with ⟨h1, h2⟩ | ⟨h1, h2⟩
  · exact .of_left (intBits_le_64 h1 h2)
  · exact .of_right (intBits_le_64 h1 h2)
theorem op_add : OpR X (binaryOp .Add) (rI0 fun i j => .int (i + j)) := opI0 fun _ _ _ _ _ _ _ q => add_int q
theorem op_mul : OpR X (binaryOp .Mult) (rI CMul fun i j => .int (i * j)) := opI fun _ _ _ _ _ _ _ hc q => mul_int q hc.ok
theorem op_fdiv : OpR X (binaryOp .FloorDiv) (rI CDiv fun i j => .int (i / j)) := opI fun i j _ _ _ _ _ hc q => by
  have h1 : (0 : Int) < j := hc.1
  have h2 : j < 1073741824 := hc.2
  exact floordiv_int (by lia) (by rw [Int.fdiv_eq_ediv_of_nonneg i (by lia)]; exact q) (.inl (PyProof.noPylong_small (by lia)))
theorem op_mod : OpR X (binaryOp .Mod) (rI (fun _ j => 0 < j) fun i j => .int (i % j)) := opI fun i j _ _ _ _ _ hc q => by
  have h1 : (0 : Int) < j := hc
  exact mod_int' (by lia) (by rw [Int.fmod_eq_emod_of_nonneg i (by lia)]; exact q)
theorem op_pow : OpR X (binaryOp .Pow) (rI CPow fun i j => .int (i ^ j.toNat)) := opI fun _ _ _ _ _ _ _ hc q => pow_int_small hc.1 hc.2.1 hc.2.2 q
end
noncomputable def scal : V → V → Bool
  | .non, .non => true | .non, .int _ => true | .int _, .non => true | .non, .bl _ => true | .bl _, .non => true | .non, .str _ => true | .str _, .non => true
  | .int _, .int _ => true | .bl _, .bl _ => true | .str _, .str _ => true | .byt _, .byt _ => true
  | .int _, .str _ => true | .str _, .int _ => true | .bl _, .str _ => true | .str _, .bl _ => true
  | _, _ => false
noncomputable def rEq : R2 := fun x y H Q => scal x y = true ∧ Q (.bl (decide (x = y))) H
noncomputable def rNe : R2 := fun x y H Q => scal x y = true ∧ Q (.bl (!decide (x = y))) H
theorem dec_int {i j : Int} : decide (V.int i = V.int j) = (i == j) := by
  rw [Bool.eq_iff_iff]
  simp
theorem dec_bl {i j : Bool} : decide (V.bl i = V.bl j) = (i == j) := by
  rw [Bool.eq_iff_iff]
  simp
theorem dec_str {i j : Str} : decide (V.str i = V.str j) = (i == j) := by
  rw [Bool.eq_iff_iff]
  simp
theorem dec_byt {i j : Array UInt8} : decide (V.byt i = V.byt j) = (i.toList == j.toList) := by
  rw [Bool.eq_iff_iff]
  cases i
  cases j
  simp
section
variable {X : Cx} {a b c : Expr} {ta tb tc : TE} {pos : Pos}
theorem fin_bl {pins : List (Addr × Obj)} {σ : St} {H : Hp} {s : Shared} {Q : VK} {k k' : Bool} (I : Inv X pins σ H s) (q : Q (.bl k) H) (e : k = k') : EP X pins σ Q (.bool k') s := by
  subst e
  exact ⟨.bl k, H, I, rfl, q⟩
theorem op_eq : OpR X (compareOp .Eq) rEq := by
  intro pins s σ H x y v u Q I rx ry h
  obtain ⟨hs, q⟩ := h
  cases x with
  | non =>
    cases rx
    cases y with
    | non => cases ry; exact PySem.EqNone.eq_none_none (fin_bl I q (by simp))
    | bl j => cases ry; exact PySem.EqNone.eq_none_bool (fin_bl I q (by simp))
    | int j => obtain ⟨t', rfl⟩ := ry; exact PySem.EqNone.eq_none_int (fin_bl I q (by simp))
    | str j => obtain ⟨t', rfl⟩ := ry; exact PySem.EqNone.eq_none_str (fin_bl I q (by simp))
    | _ => exact absurd (show false = true from hs) Bool.false_ne_true
  | bl i =>
    cases rx
    cases y with
    | non => cases ry; exact PySem.EqNone.eq_bool_none (fin_bl I q (by simp))
    | bl j => cases ry; exact eq_bool (fin_bl I q dec_bl)
    | str j => obtain ⟨t', rfl⟩ := ry; exact PySem.EqMixed.eq_bool_str (fin_bl I q (by simp))
    | _ => exact absurd (show false = true from hs) Bool.false_ne_true
  | int i =>
    obtain ⟨t, rfl⟩ := rx
    cases y with
    | non => cases ry; exact PySem.EqNone.eq_int_none (fin_bl I q (by simp))
    | int j => obtain ⟨t', rfl⟩ := ry; exact eq_int (fin_bl I q dec_int)
    | str j => obtain ⟨t', rfl⟩ := ry; exact PySem.EqMixed.eq_int_str (fin_bl I q (by simp))
    | _ => exact absurd (show false = true from hs) Bool.false_ne_true
  | str i =>
    obtain ⟨t, rfl⟩ := rx
    cases y with
    | non => cases ry; exact PySem.EqNone.eq_str_none (fin_bl I q (by simp))
    | bl j => cases ry; exact PySem.EqMixed.eq_str_bool (fin_bl I q (by simp))
    | int j => obtain ⟨t', rfl⟩ := ry; exact PySem.EqMixed.eq_str_int (fin_bl I q (by simp))
    | str j => obtain ⟨t', rfl⟩ := ry; exact eq_str (fin_bl I q dec_str)
    | _ => exact absurd (show false = true from hs) Bool.false_ne_true
  | byt i =>
    obtain ⟨t, rfl⟩ := rx
    cases y with
    | byt j => obtain ⟨t', rfl⟩ := ry; exact PySem.W.eq_bytes (fin_bl I q dec_byt)
    | _ => exact absurd (show false = true from hs) Bool.false_ne_true
  | _ => cases y <;> exact absurd (show false = true from hs) Bool.false_ne_true
theorem op_ne : OpR X (compareOp .NotEq) rNe := by
  intro pins s σ H x y v u Q I rx ry h
  obtain ⟨hs, q⟩ := h
  cases x with
  | non =>
    cases rx
    cases y with
    | non => cases ry; exact PySem.EqNone.ne_none_none (fin_bl I q (by simp))
    | bl j => cases ry; exact PySem.EqNone.ne_none_bool (fin_bl I q (by simp))
    | int j => obtain ⟨t', rfl⟩ := ry; exact PySem.EqNone.ne_none_int (fin_bl I q (by simp))
    | str j => obtain ⟨t', rfl⟩ := ry; exact PySem.EqNone.ne_none_str (fin_bl I q (by simp))
    | _ => exact absurd (show false = true from hs) Bool.false_ne_true
  | bl i =>
    cases rx
    cases y with
    | non => cases ry; exact PySem.EqNone.ne_bool_none (fin_bl I q (by simp))
    | bl j => cases ry; exact ne_bool (fin_bl I q (congrArg not dec_bl))
    | str j => obtain ⟨t', rfl⟩ := ry; exact PySem.EqMixed.ne_bool_str (fin_bl I q (by simp))
    | _ => exact absurd (show false = true from hs) Bool.false_ne_true
  | int i =>
    obtain ⟨t, rfl⟩ := rx
    cases y with
    | non => cases ry; exact PySem.EqNone.ne_int_none (fin_bl I q (by simp))
    | int j => obtain ⟨t', rfl⟩ := ry; exact ne_int (fin_bl I q (congrArg not dec_int))
    | str j => obtain ⟨t', rfl⟩ := ry; exact PySem.EqMixed.ne_int_str (fin_bl I q (by simp))
    | _ => exact absurd (show false = true from hs) Bool.false_ne_true
  | str i =>
    obtain ⟨t, rfl⟩ := rx
    cases y with
    | non => cases ry; exact PySem.EqNone.ne_str_none (fin_bl I q (by simp))
    | bl j => cases ry; exact PySem.EqMixed.ne_str_bool (fin_bl I q (by simp))
    | int j => obtain ⟨t', rfl⟩ := ry; exact PySem.EqMixed.ne_str_int (fin_bl I q (by simp))
    | str j => obtain ⟨t', rfl⟩ := ry; exact ne_str (fin_bl I q (congrArg not dec_str))
    | _ => exact absurd (show false = true from hs) Bool.false_ne_true
  | byt i =>
    obtain ⟨t, rfl⟩ := rx
    cases y with
    | byt j => obtain ⟨t', rfl⟩ := ry; exact PySem.W.ne_bytes (fin_bl I q (congrArg not dec_byt))
    | _ => exact absurd (show false = true from hs) Bool.false_ne_true
  | _ => cases y <;> exact absurd (show false = true from hs) Bool.false_ne_true
theorem op_lt : OpR X (compareOp .Lt) (rI0 fun i j => .bl (decide (i < j))) := opB0 fun _ _ _ _ _ _ _ q => lt_int q
theorem op_gt : OpR X (compareOp .Gt) (rI0 fun i j => .bl (decide (j < i))) := opB0 fun _ _ _ _ _ _ _ q => gt_int q
theorem op_in_str : OpR X (compareOp .In) (fun x y H Q => ∃ i j, x = .str i ∧ y = .str j ∧ Q (.bl (!(Builtin.Str.occurrences j i 0 j.length 1).isEmpty)) H) := by
  intro pins s σ H x y v u Q I rx ry h
  obtain ⟨i, j, rfl, rfl, q⟩ := h
  obtain ⟨t, rfl⟩ := rx
  obtain ⟨t', rfl⟩ := ry
  exact in_str (fin_bl I q rfl)
theorem op_isN : OpR X (compareOp .Is) (fun x y H Q => y = .non ∧ Q (.bl (decide (x = .non))) H) := by
  intro pins s σ H x y v u Q I rx ry h
  obtain ⟨rfl, q⟩ := h
  cases ry
  refine is_none_gen (fin_bl I q ?_)
  cases x <;> first
    | (cases rx; rfl)
    | (obtain ⟨t, rfl⟩ := rx; rfl)
theorem op_notN : OpR X (compareOp .IsNot) (fun x y H Q => y = .non ∧ Q (.bl (!decide (x = .non))) H) := by
  intro pins s σ H x y v u Q I rx ry h
  obtain ⟨rfl, q⟩ := h
  cases ry
  refine isnot_none_gen (fin_bl I q ?_)
  cases x <;> first
    | (cases rx; rfl)
    | (obtain ⟨t, rfl⟩ := rx; rfl)
theorem nomark (b : Expr) {op : CmpOp} (h : op ≠ .In := by decide) (h2 : op ≠ .NotIn := by decide) : behindInMarks op b = false := by
  have e1 : (op == CmpOp.In) = false := by cases op <;> first | rfl | exact absurd rfl h
  have e2 : (op == CmpOp.NotIn) = false := by cases op <;> first | rfl | exact absurd rfl h2
  cases b <;> simp [behindInMarks, e1, e2]
theorem pe_cmpR {op : CmpOp} {r : R2} (ho : OpR X (compareOp op) r) (ha : PE X a ta) (hb : PE X b tb) (hm : behindInMarks op b = false) : PE X (.Compare a [op] [b] pos) (tOp r ta tb) := by
  intro pins s σ H Q I h
  exact wpAny_Compare1 (binT ha hb I h fun v u s2 x y H2 I2 rx ry q => ho pins s2 σ H2 x y v u Q I2 rx ry q) hm
inductive isB (Q : Bool → Hp → Prop) (x : V) (H : Hp) : Prop
  | mk (k : Bool) (e : x = .bl k) (q : Q k H) : isB Q x H
noncomputable def tTest (t : TE) : TT := fun σ H Q => t σ H fun x H' => isB Q x H'
theorem pt_cmpR {op : CmpOp} {r : R2} (ho : OpR X (compareOp op) r) (ha : PE X a ta) (hb : PE X b tb) (hm : behindInMarks op b = false) : PT X (.Compare a [op] [b] pos) (tTest (tOp r ta tb)) := by
  intro pins s σ H Q I h
  refine wpAny_isTrue_Compare1 (thn (ha pins s σ H _ I h) fun v s1 ⟨x, H1, I1, r1, q1⟩ => thn (hb pins s1 σ H1 _ I1 q1) fun u s2 ⟨y, H2, I2, r2, q2⟩ =>
    thn (ho pins s2 σ H2 x y v u _ I2 r1 r2 q2) fun c s3 ⟨z, H3, I3, r3, k, e, q3⟩ => ?_) hm
  subst e
  cases r3
  exact wpAny_truthy_bool ⟨H3, I3, q3⟩
theorem line63 : (sizeLine : Nat) < 2 ^ 63 := by rw [sizeLine_eq]; decide
inductive rAddS (x y : V) (H : Hp) (Q : VK) : Prop
  | mk (i j : Str) (e : x = .str i) (e' : y = .str j) (l : i.length + j.length ≤ sizeLine) (q : Q (.str (i ++ j)) H) : rAddS x y H Q
theorem op_add_str : OpR X (binaryOp .Add) rAddS := by
  intro pins s σ H x y v u Q I rx ry h
  obtain ⟨i, j, rfl, rfl, hz, q⟩ := h
  obtain ⟨t, rfl⟩ := rx
  obtain ⟨t', rfl⟩ := ry
  exact add_str (fun t' tk => ⟨.str (i ++ j), H, I.tok _, ⟨_, rfl⟩, q⟩) hz
theorem vals1 {x : V} {us : List Value} (r : Vals [x] us) : ∃ u, us = [u] ∧ RelV x u := by
  cases r with
  | cons r1 r2 => cases r2; exact ⟨_, rfl, r1⟩
theorem vals2 {x y : V} {us : List Value} (r : Vals [x, y] us) : ∃ u w', us = [u, w'] ∧ RelV x u ∧ RelV y w' := by
  cases r with
  | cons r1 r2 =>
    cases r2 with
    | cons r3 r4 => cases r4; exact ⟨_, _, rfl, r1, r3⟩
noncomputable def LenV (K : PySem.W.Frag) (x : V) (H : Hp) (n : Nat) : Prop :=
  match x with
  | .str y => y.length ≤ sizeLine ∧ n = y.length
  | .byt y => y.size ≤ sizeLine ∧ n = y.size
  | .ref p => (∃ xs, SqL K H p xs ∧ n = xs.length) ∨ ∃ xs, SqT K H p xs ∧ n = xs.length
  | _ => False
inductive rLen (K : PySem.W.Frag) (xs : List V) (H : Hp) (Q : VK) : Prop
  | mk (x : V) (n : Nat) (e : xs = [x]) (l : LenV K x H n) (q : Q (.int n) H) : rLen K xs H Q
theorem call_len : CallR X (.builtin "len") (rLen X.K) := by
  intro pins s σ H xs us Q I r h
  obtain ⟨x, n, rfl, e, q⟩ := h
  obtain ⟨u, rfl, rx⟩ := vals1 r
  have hl := line63
  have hs : sizeLine = 16777216 := sizeLine_eq
  cases x with
  | str y =>
    obtain ⟨t, rfl⟩ := rx
    obtain ⟨hy, e'⟩ : y.length ≤ sizeLine ∧ n = y.length := e
    subst e'
    exact len_str (by lia) ⟨.int _, H, I.tok _, ⟨_, rfl⟩, q⟩
  | byt y =>
    obtain ⟨t, rfl⟩ := rx
    obtain ⟨hy, e'⟩ : y.size ≤ sizeLine ∧ n = y.size := e
    subst e'
    exact PySem.W.len_bytes (by lia) ⟨.int _, H, I.tok _, ⟨_, rfl⟩, q⟩
  | ref p =>
    cases rx
    have e' : (∃ xs, SqL X.K H p xs ∧ n = xs.length) ∨ ∃ xs, SqT X.K H p xs ∧ n = xs.length := e
    rcases e' with ⟨xs, hx, e'⟩ | ⟨xs, hx, e'⟩
    · subst e'
      obtain ⟨its, r', pl, hz⟩ := I.list hx
      have hlen := r'.length
      exact Calls.call_len_list pl.isList (by simp only [List.size_toArray]; lia) ⟨.int xs.length, H, I.tok _, ⟨_, by simp only [List.size_toArray]; rw [hlen]⟩, q⟩
    · subst e'
      obtain ⟨its, r', pl, hz⟩ := I.tuple hx
      have hlen := r'.length
      exact len_tuple pl (by simp only [List.size_toArray]; lia) ⟨.int xs.length, H, I.tok _, ⟨_, by simp only [List.size_toArray]; rw [hlen]⟩, q⟩
  | _ => exact (show False from e).elim
end
end L2
namespace L2
open PySem PySem.Spec PyProof.Rows
structure ObjM (h : Heap) (x dx C : Addr) (mA : Str → Option Value) : Prop where
  obj : h.get? x = some (PySem.W.instObj C dx)
  ns : h.Ns1 dx mA
  ne : dx ≠ x
theorem lookIn_ns {h : Heap} {dx : Addr} {mA : Str → Option Value} (n : h.Ns1 dx mA) : ∃ od, h.get? dx = some od ∧ ∀ name, PySem.W.lookIn name od = some (mA name) := by
  obtain ⟨o, es, ep, ho, hd, hk, _, hm⟩ := n
  refine ⟨o, ho, fun name => ?_⟩
  have e := hm name
  unfold nsFind findBy at e
  rw [← Array.find?_toList] at e
  unfold PySem.W.lookIn
  rw [hd]
  dsimp only
  split
  · rename_i y q
    rw [q] at e
    exact congrArg some e
  · rename_i q
    rw [q] at e
    have a : es.toList.any (·.refKey) = false := by
      rw [List.any_eq_false]
      intro y hy
      obtain ⟨z, t, hkey⟩ := hk y (Array.mem_toList_iff.mp hy)
      simp [DictEntry.refKey, hkey]
    have a' : ¬ es.toList.any (·.refKey) = true := by rw [a]; exact Bool.false_ne_true
    rw [if_neg a']
    exact congrArg some e
theorem ObjM.look {h : Heap} {x dx C : Addr} {mA : Str → Option Value} (I : ObjM h x dx C mA) : ∃ od, PySem.W.InstAt h x (PySem.W.instObj C dx) C (some od) ∧ ∀ name, PySem.W.lookIn name od = some (mA name) :=
  let ⟨od, ho, hl⟩ := lookIn_ns I.ns
  ⟨od, ⟨I.obj, rfl, rfl, ho⟩, hl⟩
section
variable {prog : Program} {w : World} {A : Around} {E : Value → Shared → Prop} {s : Shared} {K : PySem.W.Frag} {x dx C f : Addr} {mA : Str → Option Value} {name : Str} {v : Value}
theorem get_map {expr : Bool} {Q : Value → Shared → Prop} (X : K.In s.heap) (I : ObjM s.heap x dx C mA) (hg : PySem.W.plainGet K C name = true) (hh : PySem.W.hasDictIn K C = true)
    (ha : PySem.W.findIn K (.ref C) name = some none) (hv : mA name = some v) (hv' : PySem.W.handedIn v = true) (h : Q v { s with toks := s.toks + 1 }) :
    wpAny (model prog w) A (getAttr (.ref x) name expr) Q E s := by
  obtain ⟨od, J, hl⟩ := I.look
  exact PySem.W.get_value X J (PySem.W.plainGet_of hg).1 (PySem.W.findObj_own hh ha rfl (by rw [hl, hv])) hv' h
theorem get_meth {pl : Sem Bool} {Q : Value × List Value → Shared → Prop} (X : K.In s.heap) (I : ObjM s.heap x dx C mA) (hg : PySem.W.plainGet K C name = true)
    (hf : PySem.W.findIn K (.ref C) name = some (some (.ref f))) (ht : PySem.W.isFn K (.ref f) = true) (hv : mA name = none) (h : Q (.ref f, [.ref x]) s) :
    wpAny (model prog w) A (getMethod (.ref x) name pl) Q E s := by
  obtain ⟨od, J, hl⟩ := I.look
  exact PySem.W.method_fn X J (PySem.W.plainGet_of hg).1 (PySem.W.plainGet_of hg).2 hf (beq_iff_eq.mp ht) (by show (PySem.W.lookIn name od).map (·.isSome) = some false; rw [hl, hv]; rfl) h
theorem set_map {ns : List Str} {Q : Unit → Shared → Prop} (X : K.In s.heap) (I : ObjM s.heap x dx C mA)
    (hs : PySem.W.findIn K (.ref C) "__setattr__" = some (some (.builtin "object.__setattr__"))) (hp : PySem.W.plainOver K C = true) (ht : PySem.W.takerIn K C name = some none) (hh : PySem.W.hasDictIn K C = true)
    (hw : PySem.Within mA ns) (hsz : ns.length ≤ sizeLine)
    (h : ∀ h', ObjM h' x dx C (fun y => if y = name then some v else mA y) → Heap.SameBut dx s.heap h' → Q () { s with heap := h', toks := s.toks + 2 }) :
    wpAny (model prog w) A (setAttr (.ref x) name v) Q E s := by
  obtain ⟨od, J, hl⟩ := I.look
  refine PySem.W.set_plain X J hs (PySem.W.osa_open (s := { s with toks := s.toks + 1 }) (r := none) X J hp ht fun b => ?_)
  obtain ⟨cd, hc, hd'⟩ := PySem.W.any_some hh
  have hx : s.heap.get? x = some ⟨.ref C, some dx, .plain, #[]⟩ := I.obj
  refine wpAny_bind (wpAny_pure (wpAny_bind (wpAny_bind (wpAny_loadPart hx (wpAny_bind (PySem.W.Looks.here (s := { s with toks := s.toks + 1 }) (PySem.W.looks_clsIn X hc) ?_))))))
  rw [hd']
  refine wpAny_pure (a := some dx) (wpAny_bind (wpAny_pure (wpAny_bind ?_)))
  refine wpAny_nsSet1 (s := { s with toks := s.toks + 1 }) I.ns fun h' hn2 hs2 => ?_
  obtain ⟨oD, esD, epD, hoD, hdD, hcD⟩ := hn2.count (PySem.Within.cons name v hw)
  refine wpAny_bind (wpAny_lookBehind hoD (by rw [hdD]; exact pastItsLine_dict (Nat.le_trans hcD (by rw [List.length_cons]; lia))) ?_)
  exact wpAny_pure (h _ ⟨(hs2.2 _ (Ne.symm I.ne)).trans I.obj, hn2, I.ne⟩ hs2)
theorem make_map {R : Result → Shared → Prop} {vs : List Value} {kw : List (Str × Value)} (X : K.In s.heap) (hm : PySem.W.makesIn K C = true)
    (hi : PySem.W.findIn K (.ref C) "__init__" = some (some (.ref f))) (hf : PySem.W.typeIn K (.ref f) = some (.type "function"))
    (h : codeAny (model prog w) (A.under (.builtin "type.__call__" ⟨.ref C :: vs, kw⟩)) (.call (.ref f) ⟨.ref (s.heap.objs.size + 1) :: vs, kw⟩) (PySem.W.InitBack (s.heap.objs.size + 1) R)
      { s with heap := (s.heap.push PySem.W.emptyDict).push (PySem.W.instObj C s.heap.objs.size) }) :
    codeAny (model prog w) A (.call (.ref C) ⟨vs, kw⟩) R s := by
  obtain ⟨hh, g, d, t, os⟩ := s
  exact PySem.W.make_core (PySem.W.makes_of X hm) (PySem.W.looks_findIn X hi) (fun self => PySem.W.bind_fn X self hf) (.inl rfl) h
end
noncomputable def putF (f : Str) (v : V) : List (Str × V) → List (Str × V)
  | [] => [(f, v)]
  | (g, x) :: r => if g = f then (g, v) :: r else (g, x) :: putF f v r
theorem lookup_putF (f g : Str) (v : V) : ∀ fs : List (Str × V), (putF f v fs).lookup g = if g = f then some v else fs.lookup g
  | [] => by
    show List.lookup g [(f, v)] = _
    by_cases h : g = f
    · have hb : (g == f) = true := beq_iff_eq.mpr h
      simp only [List.lookup, hb, if_pos h]
    · have hb : (g == f) = false := beq_eq_false_iff_ne.mpr h
      simp only [List.lookup, hb, if_neg h]
  | (k, x) :: r => by
    have ih := lookup_putF f g v r
    rw [show putF f v ((k, x) :: r) = (if k = f then (k, v) :: r else (k, x) :: putF f v r) from rfl]
    by_cases hk : k = f
    · rw [if_pos hk]
      by_cases h : g = k
      · have hb : (g == k) = true := beq_iff_eq.mpr h
        simp only [List.lookup, hb, if_pos (h.trans hk)]
      · have hb : (g == k) = false := beq_eq_false_iff_ne.mpr h
        simp only [List.lookup, hb, if_neg (fun e : g = f => h (e.trans hk.symm))]
    · rw [if_neg hk]
      by_cases h : g = k
      · have hb : (g == k) = true := beq_iff_eq.mpr h
        simp only [List.lookup, hb, if_neg (fun e : g = f => hk (h.symm.trans e))]
      · have hb : (g == k) = false := beq_eq_false_iff_ne.mpr h
        simp only [List.lookup, hb]
        exact ih
theorem keys_putF (f : Str) (v : V) : ∀ fs : List (Str × V), f ∈ (putF f v fs).map (·.1) ∧ ∀ g, g ∈ fs.map (·.1) → g ∈ (putF f v fs).map (·.1)
  | [] => ⟨by simp [putF], fun g h => by simp at h⟩
  | (k, x) :: r => by
    obtain ⟨i1, i2⟩ := keys_putF f v r
    rw [show putF f v ((k, x) :: r) = (if k = f then (k, v) :: r else (k, x) :: putF f v r) from rfl]
    by_cases hk : k = f
    · rw [if_pos hk]
      subst hk
      exact ⟨by simp, fun g h => by simpa using h⟩
    · rw [if_neg hk]
      refine ⟨?_, fun g h => ?_⟩
      · rw [List.map_cons]
        exact List.mem_cons_of_mem _ i1
      · rw [List.map_cons] at h ⊢
        rcases List.mem_cons.mp h with e | e
        · exact List.mem_cons.mpr (.inl e)
        · exact List.mem_cons_of_mem _ (i2 g e)
theorem length_putF (f : Str) (v : V) : ∀ fs : List (Str × V), (putF f v fs).length ≤ fs.length + 1
  | [] => by simp [putF]
  | (k, x) :: r => by
    have ih := length_putF f v r
    rw [show putF f v ((k, x) :: r) = (if k = f then (k, v) :: r else (k, x) :: putF f v r) from rfl]
    by_cases hk : k = f
    · rw [if_pos hk, List.length_cons, List.length_cons]; lia
    · rw [if_neg hk, List.length_cons, List.length_cons]; lia
theorem RelO.some_of {v : V} {o : Option Value} (r : RelO (some v) o) : ∃ u, o = some u ∧ RelV v u := by
  cases o with
  | none => exact (show False from r).elim
  | some u => exact ⟨u, rfl, r⟩
theorem RelO.none_of {o : Option Value} (r : RelO none o) : o = none := by
  cases o with
  | none => rfl
  | some u => exact (show False from r).elim
theorem handed_of {v : V} {u : Value} (r : RelV v u) : PySem.W.handedIn u = true := by
  cases v with
  | non => cases (show u = Value.none from r); rfl
  | bl b => cases (show u = Value.bool b from r); rfl
  | int i => obtain ⟨t, e⟩ := (show ∃ t, u = Value.int i t from r); cases e; rfl
  | str x => obtain ⟨t, e⟩ := (show ∃ t, u = Value.str x t from r); cases e; rfl
  | byt b => obtain ⟨t, e⟩ := (show ∃ t, u = Value.bytes b t from r); cases e; rfl
  | flt b => obtain ⟨t, e⟩ := (show ∃ t, u = Value.float b t from r); cases e; rfl
  | ref a => cases (show u = Value.ref a from r); rfl
  | ty n => cases (show u = Value.type n from r); rfl
section
variable {P : Program} {w : World} {H H' : Hp} {h h' : Heap} {a C dx : Addr} {fs fs' : List (Str × V)}
theorem ins_get (hok : HOk P w H h) (e : H a = some (.ins C dx fs)) : ∃ mA, ObjM h a dx C mA ∧ (∀ f, RelO (fs.lookup f) (mA f)) ∧ PySem.Within mA (fs.map (·.1)) ∧ fs.length ≤ 1000 ∧ H dx = some (.own a) := by
  obtain ⟨d, z, ne, ob, mA, n, r, q⟩ := (show ObjOk P w H h a (.ins C dx fs) from hok a _ e)
  exact ⟨mA, ⟨ob, n, ne⟩, r, q, z, d⟩
end
structure Cls (K : PySem.W.Frag) (C : Addr) : Prop where
  pg : PySem.W.plainGet K C Str.empty = true
  hd : PySem.W.hasDictIn K C = true
  po : PySem.W.plainOver K C = true
  sa : PySem.W.findIn K (.ref C) "__setattr__" = some (some (.builtin "object.__setattr__"))
theorem Cls.get {K : PySem.W.Frag} {C : Addr} (c : Cls K C) (f : Str) : PySem.W.plainGet K C f = true := c.pg
noncomputable def NoAttr (K : PySem.W.Frag) (C : Addr) (f : Str) : Prop := PySem.W.findIn K (.ref C) f = some none
theorem NoAttr.taker {K : PySem.W.Frag} {C : Addr} {f : Str} (n : NoAttr K C f) : PySem.W.takerIn K C f = some none := by
  unfold PySem.W.takerIn
  rw [show PySem.W.findIn K (.ref C) f = some none from n]
  rfl
structure Meth (K : PySem.W.Frag) (C : Addr) (m : Str) (f : Addr) : Prop where
  at_ : PySem.W.findIn K (.ref C) m = some (some (.ref f))
  fn : PySem.W.isFn K (.ref f) = true
  kp : PySem.W.keepIn K (.ref f) = true
section
variable {X : Cx} {pins : List (Addr × Obj)} {σ : St} {H : Hp} {s : Shared} {a C dx : Addr} {fs : List (Str × V)} {f : Str} {v : V} {A : Around} {E : Value → Shared → Prop}
theorem getattr_ok {b : Bool} {Q : Value → Shared → Prop} (I : Inv X pins σ H s) (e : H a = some (.ins C dx fs)) (c : Cls X.K C) (n : NoAttr X.K C f) (l : fs.lookup f = some v)
    (h : ∀ u s', Inv X pins σ H s' → RelV v u → Q u s') : wpAny (model X.prog X.w) A (getAttr (.ref a) f b) Q E s := by
  obtain ⟨mA, O, r, _, _, _⟩ := ins_get I.hok e
  obtain ⟨u, hu, ru⟩ := RelO.some_of (v := v) (o := mA f) (by rw [← l]; exact r f)
  exact get_map I.kIn O (c.get f) c.hd n hu (handed_of ru) (h u _ (I.tok _) ru)
theorem getmeth_ok {m : Str} {g : Addr} {pl : Sem Bool} {Q : Value × List Value → Shared → Prop} (I : Inv X pins σ H s) (e : H a = some (.ins C dx fs)) (c : Cls X.K C) (k : Meth X.K C m g) (l : fs.lookup m = none)
    (h : Q (.ref g, [.ref a]) s) : wpAny (model X.prog X.w) A (getMethod (.ref a) m pl) Q E s := by
  obtain ⟨mA, O, r, _, _, _⟩ := ins_get I.hok e
  have hn : mA m = none := RelO.none_of (by rw [← l]; exact r m)
  exact get_meth I.kIn O (c.get m) k.at_ k.fn hn h
theorem setattr_ok {y : V} {u : Value} {Q : Unit → Shared → Prop} (I : Inv X pins σ H s) (e : H a = some (.ins C dx fs)) (c : Cls X.K C) (n : NoAttr X.K C f) (hl : fs.length < 1000) (ry : RelV y u)
    (h : ∀ s', Inv X pins σ (upd H a (.ins C dx (putF f y fs))) s' → Q () s') : wpAny (model X.prog X.w) A (setAttr (.ref a) f u) Q E s := by
  obtain ⟨mA, O, r, wi, _, ho⟩ := ins_get I.hok e
  have hz : (fs.map (·.1)).length ≤ sizeLine := by rw [List.length_map, sizeLine_eq]; lia
  refine set_map I.kIn O c.sa c.po n.taker c.hd wi hz fun h' O' sb => h _ ?_
  have hd : ∃ o, h'.get? dx = some o := let ⟨o, _, _, e', _⟩ := O'.ns; ⟨o, e'⟩
  refine I.write (x := a) (e := dx) (by rw [e]; exact True.intro) (.inr ho) (fun b q hb z => (sb.2 b hb).trans z) hd ?_
  refine ⟨by rw [upd_ne O.ne]; exact ho, ?_, O.ne, O'.obj, _, O'.ns, fun g => ?_, fun g hg => ?_⟩
  · have := length_putF f y fs; lia
  · show RelO ((putF f y fs).lookup g) (if g = f then some u else mA g)
    rw [lookup_putF]
    by_cases q : g = f
    · rw [if_pos q, if_pos q]; exact ry
    · rw [if_neg q, if_neg q]; exact r g
  · by_cases q : g = f
    · rw [q]; exact (keys_putF f y fs).1
    · refine (keys_putF f y fs).2 g (wi g fun z => hg ?_)
      show (if g = f then some u else mA g) = none
      rw [if_neg q]; exact z
theorem Inv.made (I : Inv X pins σ H s) : Inv X pins σ (upd (upd H s.heap.objs.size (.own (s.heap.objs.size + 1))) (s.heap.objs.size + 1) (.ins C s.heap.objs.size []))
    { s with heap := (s.heap.push PySem.W.emptyDict).push (PySem.W.instObj C s.heap.objs.size) } := by
  have e1 : (s.heap.push PySem.W.emptyDict).get? s.heap.objs.size = some PySem.W.emptyDict := Heap.get?_push_size s.heap rfl
  have e2 : ((s.heap.push PySem.W.emptyDict).push (PySem.W.instObj C s.heap.objs.size)).get? (s.heap.objs.size + 1) = some (PySem.W.instObj C s.heap.objs.size) := by
    have := Heap.get?_push_size (s.heap.push PySem.W.emptyDict) (o := PySem.W.instObj C s.heap.objs.size) rfl
    rwa [Heap.size_push] at this
  have e3 : (s.heap.push PySem.W.emptyDict).Ns s.heap.objs.size (fun _ => none) := ⟨PySem.W.emptyDict, #[], _, e1, rfl, (fun e he => absurd he (by simp)), fun _ => rfl⟩
  have I1 := I.laid (a := s.heap.objs.size) (o := .own (s.heap.objs.size + 1)) (h' := s.heap.push PySem.W.emptyDict) (t' := s.toks) (fun b u q => Heap.get?_push_of_some _ q) (Nat.le_refl _) ⟨_, e1⟩
  refine I1.laid (a := s.heap.objs.size + 1) (o := .ins C s.heap.objs.size []) (t' := s.toks) (fun b u q => Heap.get?_push_of_some _ q) (Nat.le_of_eq (Heap.size_push _ _)) ?_
  have ne : s.heap.objs.size ≠ s.heap.objs.size + 1 := Nat.ne_of_lt (Nat.lt_succ_self _)
  refine ⟨by rw [upd_ne ne, upd_same], Nat.zero_le _, ne, e2, fun _ => none, (Heap.Ns1.of_empty e3).at fun o q => Heap.get?_push_of_some _ q, fun _ => True.intro, fun y hy => absurd rfl hy⟩
theorem attr_of {prog : Program} {w : World} {env : Env} {e : Expr} {f : Str} {pos : Pos} {s : Shared} {Q : Value → Shared → Prop} (hb : attributeBase e f env (eval e env) = eval e env)
    (h : wpAny (model prog w) A (eval e env) (fun o s₁ => wpAny (model prog w) A (getAttr o f true) Q E s₁) E s) : wpAny (model prog w) A (eval (.Attribute e f pos) env) Q E s :=
  Attribute_any_ h (by rw [arm_eval_Attribute, hb])
end
inductive hasF (K : PySem.W.Frag) (f : Str) (Q : VK) (x : V) (H1 : Hp) : Prop
  | mk (a C dx : Addr) (fs : List (Str × V)) (v : V) (e : x = .ref a) (i : H1 a = some (.ins C dx fs)) (c : Cls K C) (n : NoAttr K C f) (l : fs.lookup f = some v) (q : Q v H1) : hasF K f Q x H1
noncomputable def tFld (K : PySem.W.Frag) (ta : TE) (f : Str) : TE := fun σ H Q => ta σ H fun x H1 => hasF K f Q x H1
noncomputable def sFld (K : PySem.W.Frag) (ta tv : TE) (f : Str) : TS := fun D σ H => tv σ H fun y H1 => ta σ H1 fun x H2 => ∃ a C dx fs, x = .ref a ∧ H2 a = some (.ins C dx fs) ∧ Cls K C ∧ NoAttr K C f ∧ fs.length < 1000 ∧
  D.nx σ (upd H2 a (.ins C dx (putF f y fs)))
section
variable {X : Cx} {o e value : Expr} {f : Str} {pos pos' tpos : Pos} {ta tv : TE}
theorem pe_fld (he : PE X e ta) (hb : attributeBase e f X.env (eval e X.env) = eval e X.env) : PE X (.Attribute e f pos) (tFld X.K ta f) := by
  intro pins s σ H Q I h
  refine attr_of hb (thn (he pins s σ H _ I h) fun u s1 ⟨x, H1, I1, rx, a, C, dx, fs, v, ex, ea, c, n, l, q⟩ => ?_)
  subst ex
  obtain rfl : u = Value.ref a := rx
  exact getattr_ok I1 ea c n l fun u' s2 I2 ru => ⟨v, H1, I2, ru, q⟩
theorem ps_fld (ha : PE X o ta) (hv : PE X value tv) (hs : swapsWith value (some (.Attribute o f pos')) pos.line X.env = pure false) : PS X (.Assign [.Attribute o f pos'] value pos) (sFld X.K ta tv f) := by
  intro pins s σ H D I h
  refine plainObj_wpAny_Assign_Attribute (thn (hv pins s σ H _ I h) fun u s1 ⟨y, H1, I1, ry, q⟩ => thn (ha pins s1 σ H1 _ I1 q) fun ov s2 ⟨x, H2, I2, rx, a, C, dx, fs, ex, ea, c, n, l, q2⟩ => ?_) hs
  subst ex
  obtain rfl : ov = Value.ref a := rx
  exact setattr_ok I2 ea c n l ry fun s3 I3 => ⟨σ, _, I3, q2⟩
end
end L2
namespace L2
open PySem PySem.Spec PyProof.Rows
structure Room (k : Nat) (A : Around) : Prop where
  hd : A.handled = none
  dp : A.depth + 3 * k + 5 < recursionLimit
  un : A.units + 16 * k + 200 < cLine
theorem Room.mono {j k : Nat} {A : Around} (r : Room k A) (h : j ≤ k) : Room j A := ⟨r.hd, by have := r.dp; lia, by have := r.un; lia⟩
theorem Room.deeper {k : Nat} {A : Around} (r : Room (k + 1) A) (env : Env) : Room k (A.deeper env) :=
  ⟨r.hd, by have := r.dp; show A.depth + 1 + 3 * k + 5 < _; lia, by have := r.un; show A.units + 3 + 16 * k + 200 < _; lia⟩
theorem make_depth {A : Around} {C : Addr} {us : List Value} {kw : List (Str × Value)} : (A.under (.builtin "type.__call__" ⟨.ref C :: us, kw⟩)).depth = A.depth + 1 := by
  first | rfl | simp [Around.under, Code.weight, Code.isCreation, Code.isGuard, Code.isCaller, Code.frames, Code.isFrame, guardIds]
theorem make_units {A : Around} {C : Addr} {us : List Value} {kw : List (Str × Value)} : (A.under (.builtin "type.__call__" ⟨.ref C :: us, kw⟩)).units = A.units + 1 := by
  first | rfl | simp [Around.under, Code.cUnits, Code.frames, Code.isFrame]
theorem Room.make {k : Nat} {A : Around} (r : Room (k + 1) A) (C : Addr) (us : List Value) (kw : List (Str × Value)) : Room k (A.under (.builtin "type.__call__" ⟨.ref C :: us, kw⟩)) :=
  ⟨r.hd, by have := r.dp; rw [make_depth]; lia, by have := r.un; rw [make_units]; lia⟩
theorem Room.depth {k : Nat} {A : Around} (r : Room k A) : A.depth < recursionLimit := by have := r.dp; lia
theorem Room.units {k : Nat} {A : Around} (r : Room k A) : A.units + 64 < cLine := by have := r.un; lia
noncomputable def tNil : TA := fun _ H Q => Q [] H
noncomputable def tCons (ta : TE) (tr : TA) : TA := fun σ H Q => ta σ H fun x H1 => tr σ H1 fun xs H2 => Q (x :: xs) H2
section
variable {X : Cx} {e : Expr} {es : List Expr} {te : TE} {t : TA} {pos : Pos}
theorem pa_nil : PA X [] tNil := fun _ _ _ _ H Q I h => Calls.spliced_nil ⟨[], H, I, .nil, h⟩
theorem pa_cons (ha : PE X e te) (hr : PA X es t) (hs : starEach (e :: es) X.env = (false, eval e X.env) :: starEach es X.env := by rfl) : PA X (e :: es) (tCons te t) := by
  intro pos pins s σ H Q I h
  rw [hs]
  show wpAny _ _ (spliced ((false, eval e X.env) :: backTo pos (starEach es X.env))) _ _ s
  refine Calls.spliced_cons (thn (ha pins s σ H _ I h) fun u s1 ⟨x, H1, I1, r1, q1⟩ => ?_)
  exact thn (hr pos pins s1 σ H1 _ I1 q1) fun us s2 ⟨xs, H2, I2, r2, q2⟩ => ⟨x :: xs, H2, I2, .cons r1 r2, q2⟩
noncomputable def tTup (t : TA) : TE := fun σ H Q => t σ H fun xs H1 => xs.length ≤ sizeLine ∧ ∀ p, H1 p = none → Q (.ref p) (upd H1 p (.tup xs))
noncomputable def tLst (t : TA) : TE := fun σ H Q => t σ H fun xs H1 => xs.length ≤ sizeLine ∧ ∀ p, H1 p = none → Q (.ref p) (upd H1 p (.lst xs))
theorem pe_tup {x1} (h : PA X es t) : PE X (.Tuple es x1 pos) (tTup t) := by
  intro pins s σ H Q I hq
  refine wpAny_Tuple_spliced (thn (h pos pins s σ H _ I hq) fun us s1 ⟨xs, H1, I1, r, z, q⟩ => ⟨by rw [← r.length]; exact z, ?_⟩)
  have hf : H1 s1.heap.objs.size = none := I1.hok.fresh (Nat.le_refl _)
  refine ⟨.ref s1.heap.objs.size, upd H1 s1.heap.objs.size (.tup xs), I1.laid (t' := s1.toks) (fun b u e => Heap.get?_push_of_some _ e) (Nat.le_refl _) ?_, rfl, q _ hf⟩
  exact ⟨z, us, r, ⟨_, Heap.get?_push_size _ rfl, rfl, _, rfl⟩⟩
theorem pe_lst (h : PA X es t) : PE X (.List es pos) (tLst t) := by
  intro pins s σ H Q I hq
  refine wpAny_List_spliced (thn (h pos pins s σ H _ I hq) fun us s1 ⟨xs, H1, I1, r, z, q⟩ => ⟨by rw [← r.length]; exact z, ?_⟩)
  have hf : H1 s1.heap.objs.size = none := I1.hok.fresh (Nat.le_refl _)
  refine ⟨.ref s1.heap.objs.size, upd H1 s1.heap.objs.size (.lst xs), I1.laid (t' := s1.toks) (fun b u e => Heap.get?_push_of_some _ e) (Nat.le_refl _) ?_, rfl, q _ hf⟩
  exact ⟨z, us, 0, r, Heap.get?_push_size _ rfl⟩
end
noncomputable abbrev Sp := List V → Hp → VK → XK → Prop
noncomputable abbrev CXT := List Env → Hp → Shared → XK → Value → Shared → Prop
structure Env0 (P : Program) (w : World) (K : PySem.W.Frag) (mg : Str → Option Value) (base : Heap) (A : Around) (outer : List Env) (s : Shared) (H : Hp) : Prop where
  frames : A.frames = some outer
  mod : Mod K mg base
  bs : ∀ b o, base.get? b = some o → s.heap.get? b = some o ∧ H b = none
  bsz : base.objs.size ≤ s.heap.objs.size
  funs : s.heap.FunFrames base outer
  frf : ∀ b ∈ frs outer, H b = none
  hok : HOk P w H s.heap
  bare : AllBare s.gens
noncomputable def CE (outer : List Env) (P : Program) (w : World) (H : Hp) (s : Shared) (Q : VK) (u : Value) (s' : Shared) : Prop :=
  ∃ v H', s'.os = s.os ∧ AllBare s'.gens ∧ Un (frs outer) [] H H' s.heap s'.heap ∧ HOk P w H' s'.heap ∧ RelV v u ∧ Q v H'
noncomputable def CR (CX : CXT) (outer : List Env) (P : Program) (w : World) (H : Hp) (s : Shared) (Q : VK) (E : XK) (r : Result) (s' : Shared) : Prop :=
  match r with
  | .ok (.ret u) => CE outer P w H s Q u s'
  | .ok _ => False
  | .error e => CX outer H s E e s'
structure FnOk (P : Program) (w : World) (K : PySem.W.Frag) (mg : Str → Option Value) (base : Heap) (CX : CXT) (k : Nat) (f : Addr) (fd : FuncData) (ps : List Str) (sp : Sp) : Prop where
  len : ∀ vs H Q E, sp vs H Q E → vs.length = ps.length
  run : ∀ (A : Around) (outer : List Env) (s : Shared) (H : Hp) (args : Args) (us : List Value) (vs : List V) (Q : VK) (E : XK), Room k A → Env0 P w K mg base A outer s H → BindsTo s fd args (ps.zip us) → Vals vs us → sp vs H Q E →
    codeAny (model P w) A (.call (.ref f) args) (CR CX outer P w H s Q E) s
theorem FnOk.imp {P : Program} {w : World} {K : PySem.W.Frag} {mg : Str → Option Value} {base : Heap} {CX : CXT} {k : Nat} {f : Addr} {fd : FuncData} {ps : List Str} {sp sp' : Sp} (F : FnOk P w K mg base CX k f fd ps sp)
    (h : ∀ vs H Q E, sp' vs H Q E → sp vs H Q E) : FnOk P w K mg base CX k f fd ps sp' :=
  ⟨fun vs H Q E q => F.len vs H Q E (h _ _ _ _ q), fun A outer s H args us vs Q E hr he hb hv hs => F.run A outer s H args us vs Q E hr he hb hv (h _ _ _ _ hs)⟩
theorem Env0.make {P : Program} {w : World} {K : PySem.W.Frag} {mg : Str → Option Value} {base : Heap} {A : Around} {outer : List Env} {s : Shared} {H : Hp} (e : Env0 P w K mg base A outer s H) (C : Addr) (us : List Value) (kw : List (Str × Value)) :
    Env0 P w K mg base (A.under (.builtin "type.__call__" ⟨.ref C :: us, kw⟩)) outer s H := ⟨by first | exact e.frames | (simpa [Around.under, Code.envs, Code.isFrame, pushEnvs] using e.frames), e.mod, e.bs, e.bsz, e.funs, e.frf, e.hok, e.bare⟩
section
variable {X : Cx} {pins : List (Addr × Obj)} {σ : St} {H : Hp} {s s' : Shared}
theorem Inv.env0 (I : Inv X pins σ H s) : Env0 X.prog X.w X.K X.mg X.base X.A X.stack s H :=
  ⟨I.ok.frames, I.ok.mod, I.bs, Nat.le_trans I.ok.bsz I.sz, I.stack, I.stkFree, I.hok, I.bare⟩
theorem Inv.after {Q : VK} {u : Value} (I : Inv X pins σ H s) (h : CE X.stack X.prog X.w H s Q u s') : EP X pins σ Q u s' := by
  obtain ⟨v, H', os, bare, un, hok, r, q⟩ := h
  obtain ⟨hh, g, d, t, os'⟩ := s'
  obtain rfl : os' = s.os := os
  exact ⟨v, H', I.call (h' := hh) (g' := g) (d' := d) (t' := t) (ch := []) un hok bare (fun b z => absurd z (by simp)), r, q⟩
end
noncomputable def tCall (sp : Sp) (dvs : List V) (E : XK) (t : TA) : TE := fun σ H Q => t σ H fun vs H1 => sp (vs ++ dvs) H1 Q E
inductive isI (C : Addr) (m : Str) (x : V) (H1 : Hp) (R : Prop) : Prop
  | mk (a dx : Addr) (fs : List (Str × V)) (e : x = .ref a) (i : H1 a = some (.ins C dx fs)) (n : fs.lookup m = none) (r : R) : isI C m x H1 R
noncomputable def tMeth (C : Addr) (m : Str) (sp : Sp) (dvs : List V) (E : XK) (ta : TE) (t : TA) : TE := fun σ H Q => ta σ H fun x H1 => isI C m x H1 (t σ H1 fun vs H2 => sp (x :: (vs ++ dvs)) H2 Q E)
noncomputable def tMake (C : Addr) (sp : Sp) (dvs : List V) (E : XK) (t : TA) : TE := fun σ H Q => t σ H fun vs H1 => ∀ x dx, H1 x = none → H1 dx = none → dx ≠ x →
  sp (.ref x :: (vs ++ dvs)) (upd (upd H1 dx (.own x)) x (.ins C dx [])) (fun v H2 => v = .non ∧ Q (.ref x) H2) E
noncomputable def Binds (K : PySem.W.Frag) (fd : FuncData) (ps : List Str) (ds : List Value) : Prop :=
  ∀ (s : Shared) (us : List Value), K.In s.heap → (us ++ ds).length = ps.length → BindsTo s fd ⟨us, []⟩ (ps.zip (us ++ ds))
theorem Binds.all {K : PySem.W.Frag} {fd : FuncData} {ps : List Str} (h : ∀ us : List Value, us.length = ps.length → bindArgs fd ⟨us, []⟩ = pure (ps.zip us)) : Binds K fd ps [] := fun s us _ hl => by
  rw [List.append_nil] at hl ⊢
  exact .of_eq (h us hl)
noncomputable def Passes (CX : CXT) (X : Cx) (E : XK) : Prop := ∀ (pins : List (Addr × Obj)) (σ : St) (H : Hp) (s : Shared) (e : Value) (s' : Shared), Inv X pins σ H s → CX X.stack H s E e s' → X.xe e s'
section
variable {X : Cx} {CX : CXT} {k : Nat} {f C : Addr} {fd : FuncData} {ps : List Str} {sp : Sp} {dvs : List V} {ds : List Value} {E : XK} {x m : Str} {p pos apos : Pos} {e o : Expr} {es : List Expr} {ta : TE} {t : TA}
theorem run_fn {pins : List (Addr × Obj)} {σ : St} {H : Hp} {s : Shared} {Q : VK} {us : List Value} {vs : List V} (F : FnOk X.prog X.w X.K X.mg X.base CX k f fd ps sp) (hr : Room k X.A) (hb : Binds X.K fd ps ds) (hd : Vals dvs ds) (hx : Passes CX X E)
    (I : Inv X pins σ H s) (r : Vals vs us) (h : sp (vs ++ dvs) H Q E) : wpAny (model X.prog X.w) X.A (call (.ref f) us) (EP X pins σ Q) X.xe s := by
  have r2 : Vals (vs ++ dvs) (us ++ ds) := r.append hd
  have hl : (us ++ ds).length = ps.length := by rw [← r2.length]; exact F.len _ _ _ _ h
  refine wpAny_call (codeAny_mono (F.run X.A X.stack s H ⟨us, []⟩ (us ++ ds) (vs ++ dvs) Q E hr I.env0 (hb s us I.kIn hl) r2 h) fun r s' hq => ?_)
  cases r with
  | error e => exact hx pins σ H s e s' I hq
  | ok fl =>
    cases fl with
    | ret u => exact I.after hq
    | next => exact False.elim hq
    | brk => exact False.elim hq
    | cont => exact False.elim hq
theorem pe_call (F : FnOk X.prog X.w X.K X.mg X.base CX k f fd ps sp) (hr : Room k X.A) (hg : Gl X x) (hm : X.mg x = some (.ref f)) (hk : PySem.W.keepIn X.K (.ref f) = true) (hb : Binds X.K fd ps ds) (hd : Vals dvs ds) (hx : Passes CX X E)
    (ha : PA X (e :: es) t) (hdb : (x == ("__debug__" : Str)) = false := by decide) (he : starEach (e :: es) X.env = (false, eval e X.env) :: starEach es X.env := by rfl) (hpl : (backTo pos (starEach es X.env)).any (·.1) = false := by rfl) :
    PE X (.Call (.Name x p) (e :: es) [] pos) (tCall sp dvs E t) := by
  intro pins s σ H Q I h
  refine wpAny_Call_Name_kw (ld_glob I hg hm ?_ hdb)
  refine PySem.W.callWith_K (h₀ := X.base) I.ok.mod.kin hk (thn (ha pos pins s σ H _ I h) fun us s1 ⟨vs, H1, I1, r, q⟩ => ⟨I1.kIn, ?_⟩) he hpl
  exact run_fn F hr hb hd hx I1 r q
theorem pe_meth {pl : Sem Bool} (he : PE X o ta) (c : Cls X.K C) (hm : Meth X.K C m f) (F : FnOk X.prog X.w X.K X.mg X.base CX k f fd ps sp) (hr : Room k X.A) (hb : Binds X.K fd ps ds) (hd : Vals dvs ds) (hx : Passes CX X E) (ha : PA X (e :: es) t)
    (hst : starEach (e :: es) X.env = (false, eval e X.env) :: starEach es X.env := by rfl) (hpl : (backTo pos (starEach es X.env)).any (·.1) = false := by rfl)
    (ht : eval (.Call (.Attribute o m apos) (e :: es) [] pos) X.env = (do
      let ov ← eval o X.env
      standAt apos.atName
      let (f, first) ← holding [ov] (getMethod ov m pl)
      callWith pos f first (backTo pos (starEach (e :: es) X.env)) (backToKw pos (keywordEach [] X.env))) := by rfl) :
    PE X (.Call (.Attribute o m apos) (e :: es) [] pos) (tMeth C m sp dvs E ta t) := by
  intro pins s σ H Q I h
  refine PySem.W.methodCall_KW (pl := pl) (thn (he pins s σ H _ I h) fun u s1 ⟨x, H1, I1, rx, a, dx, fs, ex, ea, l, q⟩ => ?_) ht
  subst ex
  obtain rfl : u = Value.ref a := rx
  refine getmeth_ok I1 ea c hm l ?_
  refine PySem.W.callWith_K (first := [.ref a]) (h₀ := X.base) I.ok.mod.kin hm.kp (thn (ha pos pins s1 σ H1 _ I1 q) fun us s2 ⟨vs, H2, I2, r, q2⟩ => ⟨I2.kIn, ?_⟩) hst hpl
  exact run_fn (us := .ref a :: us) (vs := .ref a :: vs) F hr hb hd hx I2 (.cons rfl r) q2
theorem pe_meth0 {pl : Sem Bool} (he : PE X o ta) (c : Cls X.K C) (hm : Meth X.K C m f) (F : FnOk X.prog X.w X.K X.mg X.base CX k f fd ps sp) (hr : Room k X.A) (hb : Binds X.K fd ps ds) (hd : Vals dvs ds) (hx : Passes CX X E)
    (ht : eval (.Call (.Attribute o m apos) [] [] pos) X.env = (do
      let ov ← eval o X.env
      standAt apos.atName
      let (f, first) ← holding [ov] (getMethod ov m pl)
      callWith pos f first (backTo pos (starEach [] X.env)) (backToKw pos (keywordEach [] X.env))) := by rfl) :
    PE X (.Call (.Attribute o m apos) [] [] pos) (tMeth C m sp dvs E ta tNil) := by
  intro pins s σ H Q I h
  refine PySem.W.methodCall_KW (pl := pl) (thn (he pins s σ H _ I h) fun u s1 ⟨x, H1, I1, rx, a, dx, fs, ex, ea, l, q⟩ => ?_) ht
  subst ex
  obtain rfl : u = Value.ref a := rx
  refine getmeth_ok I1 ea c hm l ?_
  exact PySem.W.callWith_K0 (first := [.ref a]) I1.kIn hm.kp (run_fn (us := [.ref a]) (vs := [.ref a]) F hr hb hd hx I1 (.cons rfl .nil) q)
structure Mk (K : PySem.W.Frag) (C f : Addr) : Prop where
  makes : PySem.W.makesIn K C = true
  init : PySem.W.findIn K (.ref C) "__init__" = some (some (.ref f))
  fn : PySem.W.isFn K (.ref f) = true
  kp : PySem.W.keepIn K (.ref C) = true
theorem run_make {pins : List (Addr × Obj)} {σ : St} {H : Hp} {s : Shared} {Q : VK} {us : List Value} {vs : List V} (M : Mk X.K C f) (F : FnOk X.prog X.w X.K X.mg X.base CX k f fd ps sp) (hr : Room (k + 1) X.A) (hb : Binds X.K fd ps ds) (hd : Vals dvs ds)
    (hx : Passes CX X E) (I : Inv X pins σ H s) (r : Vals vs us)
    (h : ∀ x dx, H x = none → H dx = none → dx ≠ x → sp (.ref x :: (vs ++ dvs)) (upd (upd H dx (.own x)) x (.ins C dx [])) (fun v H2 => v = .non ∧ Q (.ref x) H2) E) :
    wpAny (model X.prog X.w) X.A (call (.ref C) us) (EP X pins σ Q) X.xe s := by
  have hq := h (s.heap.objs.size + 1) s.heap.objs.size (I.hok.fresh (Nat.le_succ _)) (I.hok.fresh (Nat.le_refl _)) (Nat.ne_of_lt (Nat.lt_succ_self _))
  have I2 := Inv.made (C := C) I
  have r2 : Vals (V.ref (s.heap.objs.size + 1) :: (vs ++ dvs)) (Value.ref (s.heap.objs.size + 1) :: (us ++ ds)) := .cons rfl (r.append hd)
  have hl : (Value.ref (s.heap.objs.size + 1) :: us ++ ds).length = ps.length := by
    have e := r2.length
    rw [F.len _ _ _ _ hq] at e
    exact e.symm
  refine wpAny_call (make_map (f := f) I.kIn M.makes M.init (beq_iff_eq.mp M.fn) (codeAny_mono (F.run _ X.stack _ _ ⟨Value.ref (s.heap.objs.size + 1) :: us, []⟩ (Value.ref (s.heap.objs.size + 1) :: (us ++ ds)) _ _ E (hr.make C us [])
    (I2.env0.make C us []) (hb _ (Value.ref (s.heap.objs.size + 1) :: us) I2.kIn hl) r2 hq) fun r s' hq' => ?_))
  cases r with
  | error e => exact hx pins σ _ _ e s' I2 hq'
  | ok fl =>
    cases fl with
    | ret u =>
      obtain ⟨v, H', I3, rv, ev, q3⟩ := I2.after hq'
      subst ev
      exact ⟨rv, ⟨V.ref (s.heap.objs.size + 1), H', I3, rfl, q3⟩⟩
    | next => exact False.elim hq'
    | brk => exact False.elim hq'
    | cont => exact False.elim hq'
theorem pe_make (M : Mk X.K C f) (F : FnOk X.prog X.w X.K X.mg X.base CX k f fd ps sp) (hr : Room (k + 1) X.A) (hg : Gl X x) (hm : X.mg x = some (.ref C)) (hb : Binds X.K fd ps ds) (hd : Vals dvs ds) (hx : Passes CX X E)
    (ha : PA X (e :: es) t) (hdb : (x == ("__debug__" : Str)) = false := by decide) (he : starEach (e :: es) X.env = (false, eval e X.env) :: starEach es X.env := by rfl) (hpl : (backTo pos (starEach es X.env)).any (·.1) = false := by rfl) :
    PE X (.Call (.Name x p) (e :: es) [] pos) (tMake C sp dvs E t) := by
  intro pins s σ H Q I h
  refine wpAny_Call_Name_kw (ld_glob I hg hm ?_ hdb)
  refine PySem.W.callWith_K (h₀ := X.base) I.ok.mod.kin M.kp (thn (ha pos pins s σ H _ I h) fun us s1 ⟨vs, H1, I1, r, q⟩ => ⟨I1.kIn, ?_⟩) he hpl
  exact run_make M F hr hb hd hx I1 r q
end
structure FnScope (N P : List Str) (sc : Scope) : Prop where
  kind : sc.kind = .function
  co : sc.isCoroutine = false
  gen : sc.isGenerator = false
  nd : N.Nodup
  pre : N.take P.length = P
  par : ∀ x ∈ P, sc.names.lookup x = some .local ∨ sc.names.lookup x = some .cell
  nofree : ∀ y ∈ sc.names, y.2 ≠ .free
theorem bindL_out {kindOf : Str → Option NameKind} {x : Str} : ∀ {binds : List (Str × Value)} {m : Str → Option Value}, (∀ v, (x, v) ∉ binds) → bindL kindOf binds m x = m x
  | [], _, _ => rfl
  | (n, v) :: r, m, h => by
    unfold bindL
    rw [bindL_out fun w hw => h w (List.mem_cons_of_mem _ hw)]
    split
    · have : x ≠ n := by rintro rfl; exact h v List.mem_cons_self
      simp [this]
    · rfl
theorem bindC_out {kindOf : Str → Option NameKind} {x : Str} : ∀ {binds : List (Str × Value)} {m : Str → Option Value}, (∀ v, (x, v) ∉ binds) → bindC kindOf binds m x = m x
  | [], _, _ => rfl
  | (n, v) :: r, m, h => by
    unfold bindC
    rw [bindC_out fun w hw => h w (List.mem_cons_of_mem _ hw)]
    split
    · rfl
    · have : x ≠ n := by rintro rfl; exact h v List.mem_cons_self
      simp [this]
theorem bindL_get {kindOf : Str → Option NameKind} {x : Str} {v : Value} : ∀ {P : List Str} {vs : List Value} {i : Nat} {m : Str → Option Value}, P.Nodup → P[i]? = some x → vs[i]? = some v → kindOf x = some .local →
    bindL kindOf (P.zip vs) m x = some v
  | [], _, _, _, _, h, _, _ => by simp at h
  | _ :: _, [], _, _, _, _, h, _ => by simp at h
  | p :: P, w :: vs, 0, m, nd, h1, h2, hk => by
    simp at h1 h2; subst h1; subst h2
    show bindL kindOf ((p, w) :: P.zip vs) m p = _
    unfold bindL
    rw [bindL_out fun v hv => (List.nodup_cons.mp nd).1 (List.of_mem_zip hv).1, if_pos hk]
    simp
  | p :: P, w :: vs, i + 1, m, nd, h1, h2, hk => by
    show bindL kindOf ((p, w) :: P.zip vs) m x = _
    unfold bindL
    exact bindL_get (i := i) (List.nodup_cons.mp nd).2 (by simpa using h1) (by simpa using h2) hk
theorem bindC_get {kindOf : Str → Option NameKind} {x : Str} {v : Value} : ∀ {P : List Str} {vs : List Value} {i : Nat} {m : Str → Option Value}, P.Nodup → P[i]? = some x → vs[i]? = some v → kindOf x ≠ some .local →
    bindC kindOf (P.zip vs) m x = some v
  | [], _, _, _, _, h, _, _ => by simp at h
  | _ :: _, [], _, _, _, _, h, _ => by simp at h
  | p :: P, w :: vs, 0, m, nd, h1, h2, hk => by
    simp at h1 h2; subst h1; subst h2
    show bindC kindOf ((p, w) :: P.zip vs) m p = _
    unfold bindC
    rw [bindC_out fun v hv => (List.nodup_cons.mp nd).1 (List.of_mem_zip hv).1, if_neg hk]
    simp
  | p :: P, w :: vs, i + 1, m, nd, h1, h2, hk => by
    show bindC kindOf ((p, w) :: P.zip vs) m x = _
    unfold bindC
    exact bindC_get (i := i) (List.nodup_cons.mp nd).2 (by simpa using h1) (by simpa using h2) hk
noncomputable def start (N : List Str) (vs : List V) : St := vs.map some ++ List.replicate (N.length - vs.length) none
noncomputable def cxOf (CX : CXT) (P : Program) (w : World) (K : PySem.W.Frag) (mg : Str → Option Value) (base : Heap) (N : List Str) (qual : Str) (scope : Scope) (f : Addr) (cd : Value) (A : Around) (outer : List Env) (s : Shared) (H : Hp) (E : XK) : Cx where
  prog := P
  w := w
  K := K
  mg := mg
  base := base
  A := A.deeper (envOfC qual scope s.heap.objs.size f cd)
  N := N
  s₀ := s
  H₀ := H
  env := envOfC qual scope s.heap.objs.size f cd
  outer := outer
  stack := envOfC qual scope s.heap.objs.size f cd :: outer
  ex := []
  calm := true
  fn := fun _ => true
  pn := []
  xe := fun e s' => wpAny (model P w) (A.deeper (envOfC qual scope s.heap.objs.size f cd)) (leaving (envOfC qual scope s.heap.objs.size f cd) e) (fun _ s'' => CX outer H s E e s'') (fun e' s'' => CX outer H s E e' s'') s'
theorem cell_has {sc : Scope} {n : Nat} {x : Str} (h : sc.names.lookup x = some .cell) : ∃ c, (cellsFrom n sc.names []).lookup x = some c := by
  have q := PySem.W.cellsFrom_some sc.names n [] (.inl h)
  exact Option.isSome_iff_exists.mp q
theorem inv_start {CX : CXT} {P : Program} {w : World} {K : PySem.W.Frag} {mg : Str → Option Value} {base : Heap} {N ps : List Str} {qual : Str} {scope : Scope} {f : Addr} {cd : Value} {A : Around} {outer : List Env} {s s1 : Shared} {H : Hp} {E : XK} {us : List Value} {vs : List V}
    (S : FnScope N ps scope) (hd : A.handled = none) (e0 : Env0 P w K mg base A outer s H) (hl : vs.length = ps.length) (r : Vals vs us)
    (x : InCallC s s.heap.objs.size (bindL (envOfC qual scope s.heap.objs.size f cd).kindOf (ps.zip us) fun _ => none) (cellsFrom (s.heap.objs.size + 1) scope.names []) (bindC (envOfC qual scope s.heap.objs.size f cd).kindOf (ps.zip us) fun _ => none) s1) :
    Inv (cxOf CX P w K mg base N qual scope f cd A outer s H E) [] (start N vs) H s1 := by
  have hpl : ps.length ≤ N.length := by have := congrArg List.length S.pre; rw [List.length_take] at this; lia
  obtain ⟨h1, tk, rfl, hk⟩ := x.done
  have noA : ∀ b : Addr, b ∉ (cxOf CX P w K mg base N qual scope f cd A outer s H E).ex := fun b z => absurd (show b ∈ ([] : List Addr) from z) (by simp)
  refine ⟨⟨e0.mod, S.kind, rfl, rfl, Nat.le_refl _, fun y z c h1 h2 => ?_, fun y hy => ?_, fun y c _ h => ?_, fun _ => hd, Around.frames_deeper e0.frames, .inr ⟨rfl, rfl⟩, fun b z => absurd z (noA b), e0.bs, e0.bsz, fun b _ _ => noA b, fun b z => absurd z (noA b), e0.funs, e0.frf⟩,
    rfl, e0.bare, Un.kept hk, ⟨_, x.toInCall.ns, fun i y v h1 h2 h3 => ?_⟩, fun y c h => ⟨_, x.cell y c h⟩, e0.hok.fresh (Nat.le_refl _), fun y c h => ?_, fun p hp => absurd (show p ∈ ([] : List (Addr × Obj)) from hp) (by simp), e0.hok.kept hk, ?_⟩
  · exact name_of_addr x.apart (PySem.mem_of_lookup h1) (PySem.mem_of_lookup h2)
  · have hy : scope.names.lookup y = some .cell ∨ scope.names.lookup y = some .free := hy
    rcases hy with hy | hy
    · exact cell_has hy
    · exact absurd rfl (S.nofree _ (PySem.mem_of_lookup hy))
  · exact Nat.le_of_lt (x.above y c (PySem.mem_of_lookup h))
  · have hi : i < vs.length := by
      unfold start at h2
      by_cases hi : i < vs.length
      · exact hi
      · rw [List.getElem?_append_right (by simpa using hi)] at h2
        rw [List.getElem?_replicate] at h2
        split at h2 <;> cases h2
    have ha : vs[i]? = some v := by
      unfold start at h2
      rw [List.getElem?_append_left (by simpa using hi), List.getElem?_map] at h2
      cases e : vs[i]? with
      | none => rw [e] at h2; cases h2
      | some a => rw [e] at h2; cases h2; rfl
    obtain ⟨u, hu, rv⟩ := r.get ha
    have hp : ps[i]? = some y := by
      rw [← S.pre, List.getElem?_take_of_lt (by lia)]; exact h1
    have ndP : ps.Nodup := by rw [← S.pre]; exact S.nd.sublist (List.take_sublist _ _)
    refine ⟨u, rv, ?_⟩
    rcases S.par y (List.mem_of_getElem? hp) with k | k
    · exact .inl ⟨k, bindL_get ndP hp hu k⟩
    · obtain ⟨c, e⟩ := cell_has (n := s.heap.objs.size + 1) k
      refine .inr ⟨.inl k, c, e, ?_⟩
      have q := x.cell y c e
      rw [bindC_get ndP hp hu (by show scope.names.lookup y ≠ _; rw [k]; decide)] at q
      exact q
  · exact e0.hok.fresh (Nat.le_of_lt (x.above y c (PySem.mem_of_lookup h)))
  · unfold start
    show _ = N.length
    rw [List.length_append, List.length_map, List.length_replicate]
    lia
theorem fn_of {CX : CXT} {P : Program} {w : World} {K : PySem.W.Frag} {mg : Str → Option Value} {base : Heap} {k : Nat} {f : Addr} {name qual : Str} {params : Arguments} {body : List Stmt} {scope : Scope} {dV kV doc pm cdv ct oc : Value} {an od : Option Addr}
    {osl : Array (Option Value)} {N ps : List Str} {sp : Sp} (lk : K.lookup f = some ⟨oc, od, .func (PySem.W.fnOf name qual params body scope dV kV doc pm an cdv ct), osl⟩) (hcd : PySem.W.codeIn K cdv qual = true) (S : FnScope N ps scope)
    (len : ∀ vs H Q E, sp vs H Q E → vs.length = ps.length)
    (hbody : ∀ (A : Around) (outer : List Env) (s : Shared) (H : Hp) (vs : List V) (Q : VK) (E : XK), Room k (A.deeper (envOfC qual scope s.heap.objs.size f cdv)) → sp vs H Q E →
      ∃ t, PSs (cxOf CX P w K mg base N qual scope f cdv A outer s H E) body t ∧ t { nx := fun _ H' => Q .non H', rt := Q } (start N vs) H) :
    FnOk P w K mg base CX (k + 1) f (PySem.W.fnOf name qual params body scope dV kV doc pm an cdv ct) ps sp := by
  refine ⟨len, fun A outer s H args us vs Q E hr e0 hb r hsp => ?_⟩
  have hl := len _ _ _ _ hsp
  have KX : K.In s.heap := e0.mod.kin.keeps fun b o e => (e0.bs b o e).1
  have lim : s.heap.NoLimit := e0.mod.nolimit.keeps fun b o e => (e0.bs b o e).1
  have hkind : ∀ y ∈ ps.zip us, scope.names.lookup y.1 = some .local ∨ (scope.names.lookup y.1 = some .cell ∧ ((cellsFrom (s.heap.objs.size + 1) scope.names []).lookup y.1).isSome = true) := fun ⟨n, v⟩ hy => by
    rcases S.par n (List.of_mem_zip hy).1 with q | q
    · exact .inl q
    · exact .inr ⟨q, PySem.W.cellsFrom_some _ _ _ (.inl q)⟩
  refine codeAny_call_function hr.depth (KX _ _ lk) rfl S.co S.gen rfl (PySem.W.codeRec_of KX hcd) (hb _ _ _ _ ?_)
  refine wpAny_newFunctionEnv_cells S.kind hkind fun env he s1 x => ?_
  subst he
  refine ⟨lim.keeps x.toInCall.keep, codeAny_func ?_⟩
  obtain ⟨t, ht, hq⟩ := hbody A outer s H vs Q E (hr.deeper _) hsp
  have I : Inv (cxOf CX P w K mg base N qual scope f cdv A outer s H E) [] (start N vs) H s1 := inv_start S hr.hd e0 hl r x
  refine wpAny_mono (ht [] s1 (start N vs) H _ I hq) (fun fl s' hs => ?_) fun e s' hs => hs
  have fin : ∀ {σ' : St} {H' : Hp} {v : V} {u : Value}, Inv (cxOf CX P w K mg base N qual scope f cdv A outer s H E) [] σ' H' s' → RelV v u → Q v H' → CE outer P w H s Q u s' :=
    fun {σ' H' v u} J rv q => ⟨v, H', J.os, J.bare, J.base, J.hok, rv, q⟩
  cases fl with
  | ret u =>
    obtain ⟨v, σ', H', J, rv, q⟩ := hs
    exact fin J rv q
  | next =>
    obtain ⟨σ', H', J, q⟩ := hs
    exact fin (v := V.non) (u := Value.none) J rfl q
  | brk =>
    obtain ⟨_, _, _, q⟩ := hs
    exact False.elim q
  | cont =>
    obtain ⟨_, _, _, q⟩ := hs
    exact False.elim q
end L2
namespace L2
open PySem PySem.Spec PyProof.Rows
section
variable {X : Cx} {x : Str} {p pos : Pos} {e : Expr} {es : List Expr} {t : TA} {id T : String} {r : List V → Hp → VK → Prop}
noncomputable def tCB (r : List V → Hp → VK → Prop) (t : TA) : TE := fun σ H Q => t σ H fun vs H1 => r vs H1 Q
theorem pe_callB (hc : CallR X (.builtin id) r) (hg : Gl X x) (hm : X.mg x = none) (hv : bootBuiltins x = some (.builtin id)) (ha : PA X (e :: es) t) (hn : x ≠ "__name__" := by decide) (hdb : (x == ("__debug__" : Str)) = false := by decide)
    (he : starEach (e :: es) X.env = (false, eval e X.env) :: starEach es X.env := by rfl) (hpl : (backTo pos (starEach es X.env)).any (·.1) = false := by rfl) : PE X (.Call (.Name x p) (e :: es) [] pos) (tCB r t) := by
  intro pins s σ H Q I h
  refine wpAny_Call_Name_kw (ld_blt I hg hm hv ?_ hn hdb)
  exact PyProof.Rows.callWith_builtin1 (thn (ha pos pins s σ H _ I h) fun us s1 ⟨vs, H1, I1, r1, q1⟩ => hc pins s1 σ H1 vs us Q I1 r1 q1) he hpl
theorem pe_callTy (hc : CallR X (.type T) r) (hg : Gl X x) (hm : X.mg x = none) (hv : bootBuiltins x = some (.type T)) (ha : PA X (e :: es) t) (hn : x ≠ "__name__" := by decide) (hdb : (x == ("__debug__" : Str)) = false := by decide)
    (he : starEach (e :: es) X.env = (false, eval e X.env) :: starEach es X.env := by rfl) (hpl : (backTo pos (starEach es X.env)).any (·.1) = false := by rfl) : PE X (.Call (.Name x p) (e :: es) [] pos) (tCB r t) := by
  intro pins s σ H Q I h
  refine wpAny_Call_Name_kw (ld_blt I hg hm hv ?_ hn hdb)
  exact PyProof.Rows.callWith_type1 (thn (ha pos pins s σ H _ I h) fun us s1 ⟨vs, H1, I1, r1, q1⟩ => hc pins s1 σ H1 vs us Q I1 r1 q1) he hpl
end
end L2
namespace HT
open PySem PyProof.Rows
section
open PySem.SeqAt
open PySem.AutoSeq1 (wpAny_loadPart')
open PySem.MeetsSeq PySem.MeetsSeq2 PySem.MeetsSeq3
end
section
variable {prog : Program} {w : World} {A : Around} {E : Value → Shared → Prop} {s : Shared}
noncomputable def sIx (n d : Nat) : Option Int → Nat
  | none => d
  | some v => if v < 0 then (v + (n : Int)).toNat else min v.toNat n
theorem sIx_none (n d : Nat) : sIx n d none = d := rfl
theorem sIx_nat (n d k : Nat) : sIx n d (some (k : Int)) = min k n := by
  show (if (k : Int) < 0 then ((k : Int) + (n : Int)).toNat else min (k : Int).toNat n) = min k n
  rw [if_neg (by lia), Int.toNat_natCast]
end
end HT
namespace L2
open PySem PySem.Spec PyProof.Rows
noncomputable abbrev TO := St → Hp → (Option Int → Hp → Prop) → Prop
noncomputable def PO (X : Cx) (e : Option Expr) (t : TO) : Prop :=
  ∀ (pins : List (Addr × Obj)) (s : Shared) (σ : St) (H : Hp) (Q : Option Int → Hp → Prop), Inv X pins σ H s → t σ H Q →
    wpAny (model X.prog X.w) X.A (evalPart e X.env) (fun u s' => ∃ o H', Inv X pins σ H' s' ∧ IsPart u o ∧ Q o H') X.xe s
noncomputable def tNoPart : TO := fun _ H Q => Q none H
noncomputable def tPart (t : TE) : TO := fun σ H Q => t σ H fun x H1 => ∃ i, x = .int i ∧ Q (some i) H1
section
variable {X : Cx} {e : Expr} {te : TE} {lo hi : Option Expr} {tl th : TO} {pos p2 : Pos}
theorem po_none : PO X none tNoPart := by
  intro pins s σ H Q I h
  rw [evalPart_none]
  exact wpAny_pure ⟨none, H, I, .none, h⟩
theorem po_some (h : PE X e te) : PO X (some e) (tPart te) := by
  intro pins s σ H Q I hw
  rw [evalPart_some]
  refine thn (h pins s σ H _ I hw) fun u s1 ⟨x, H1, I1, r1, q1⟩ => ?_
  obtain ⟨i, rfl, q⟩ := q1
  obtain ⟨t, rfl⟩ := r1
  exact ⟨some i, H1, I1, .int i t, q⟩
noncomputable def SlR (X : Cx) (r : V → Option Int → Option Int → Hp → VK → Prop) : Prop :=
  ∀ (pins : List (Addr × Obj)) (s : Shared) (σ : St) (H : Hp) (x : V) (v vl vu : Value) (lo hi : Option Int) (sl : Addr) (Q : VK), Inv X pins σ H s → RelV x v → s.heap.IsSliceOf sl vl vu .none → IsPart vl lo → IsPart vu hi → r x lo hi H Q →
    ∃ T id, typeLookup (.type T) "__getitem__" = pure (some (.builtin id)) ∧ s.TypeIs v T ∧ wpAny (model X.prog X.w) X.A (getItem v (.ref sl)) (EP X pins σ Q) X.xe s
noncomputable def tSl (r : V → Option Int → Option Int → Hp → VK → Prop) (te : TE) (tl th : TO) : TE := fun σ H Q => te σ H fun x H1 => tl σ H1 fun l H2 => th σ H2 fun u H3 => r x l u H3 Q
theorem pe_slice {r : V → Option Int → Option Int → Hp → VK → Prop} (hr : SlR X r) (he : PE X e te) (hl : PO X lo tl) (hu : PO X hi th) : PE X (.Subscript e (.Slice lo hi none p2) pos) (tSl r te tl th) := by
  intro pins s σ H Q I h
  refine Subscript_ (thn (he pins s σ H _ I h) fun v s1 ⟨x, H1, I1, r1, q1⟩ => ?_)
  refine wpAny_Slice (thn (hl pins s1 σ H1 _ I1 q1) fun vl s2 ⟨l, H2, I2, pl, q2⟩ => thn (hu pins s2 σ H2 _ I2 q2) fun vu s3 ⟨u, H3, I3, pu, q3⟩ => ?_)
  rw [evalPart_none]
  refine wpAny_pure ?_
  have I4 : Inv X pins σ H3 { s3 with heap := s3.heap.push { cls := .type "slice", data := .fields #[vl, vu, .none] } } := I3.kept (t' := s3.toks) fun b ob q => Heap.get?_push_of_some _ q
  obtain ⟨T, id, hT, ht, hg⟩ := hr pins { s3 with heap := s3.heap.push { cls := .type "slice", data := .fields #[vl, vu, .none] } } σ H3 x v vl vu l u s3.heap.objs.size Q I4 r1 (Heap.IsSliceOf.new ..) pl pu q3
  show wpAny (model X.prog X.w) X.A (subscriptTail e (.Slice lo hi none p2) v (.ref s3.heap.objs.size)) (EP X pins σ Q) X.xe { s3 with heap := s3.heap.push { cls := .type "slice", data := .fields #[vl, vu, .none] } }
  exact tail_any (ops := [.ref s3.heap.objs.size, v]) ht hT hg (by with_unfolding_all rfl)
noncomputable def cutV (xs : List V) (lo hi : Option Int) : List V := (xs.drop (HT.sIx xs.length 0 lo)).take (HT.sIx xs.length xs.length hi - HT.sIx xs.length 0 lo)
theorem cutV_length (xs : List V) (lo hi : Option Int) : (cutV xs lo hi).length ≤ xs.length := by
  unfold cutV
  rw [List.length_take, List.length_drop]
  lia
end
end L2
namespace L2
open PySem PySem.Spec PyProof.Rows
noncomputable def ixN (n : Nat) (i : Int) : Option Nat := if 0 ≤ i then (if i < n then some i.toNat else none) else if -(n : Int) ≤ i then some (i + n).toNat else none
noncomputable def atI {α : Type} (xs : List α) (i : Int) : Option α := (ixN xs.length i).bind fun j => xs[j]?
theorem ixN_seq {n : Nat} {i : Int} {j : Nat} (h : ixN n i = some j) : seqIndex? i n = some j ∧ j < n ∧ -(n : Int) ≤ i ∧ i < n := by
  unfold ixN at h
  by_cases h0 : 0 ≤ i
  · rw [if_pos h0] at h
    by_cases h1 : i < n
    · rw [if_pos h1] at h
      have e : i.toNat = j := Option.some.inj h
      exact ⟨by rw [seqIndex_of h0 h1, e], by lia, by lia, h1⟩
    · rw [if_neg h1] at h; cases h
  · rw [if_neg h0] at h
    by_cases h1 : -(n : Int) ≤ i
    · rw [if_pos h1] at h
      have e : (i + n).toNat = j := Option.some.inj h
      exact ⟨by rw [seqIndex_neg (by lia) h1, e], by lia, h1, by lia⟩
    · rw [if_neg h1] at h; cases h
theorem atI_get {α : Type} {xs : List α} {i : Int} {v : α} (h : atI xs i = some v) : ∃ j, seqIndex? i xs.length = some j ∧ xs[j]? = some v ∧ j < xs.length ∧ -(xs.length : Int) ≤ i ∧ i < xs.length := by
  unfold atI at h
  cases e : ixN xs.length i with
  | none => rw [e] at h; cases h
  | some j =>
    rw [e] at h
    obtain ⟨h1, h2, h3, h4⟩ := ixN_seq e
    exact ⟨j, h1, h, h2, h3, h4⟩
theorem atI_nat {α : Type} {xs : List α} {j : Nat} {v : α} (h : xs[j]? = some v) : atI xs (j : Int) = some v := by
  have hj : j < xs.length := (List.getElem?_eq_some_iff.mp h).1
  have e : ixN xs.length (j : Int) = some j := by
    unfold ixN
    rw [if_pos (by lia), if_pos (by lia)]; simp
  unfold atI; rw [e]; exact h
noncomputable def PlainIx (b : Expr) : Prop := ∀ o i, subscripted b false o i = operate [o, i] (getItem o i)
noncomputable def IxR (X : Cx) (r : R2) : Prop :=
  ∀ (value slice : Expr) (pins : List (Addr × Obj)) (s : Shared) (σ : St) (H : Hp) (x y : V) (v u : Value) (Q : VK), Inv X pins σ H s → RelV x v → RelV y u → r x y H Q →
    subscripted slice false v u = operate [v, u] (getItem v u) → wpAny (model X.prog X.w) X.A (subscriptTail value slice v u) (EP X pins σ Q) X.xe s
noncomputable def MtR (X : Cx) (id : String) (r : V → List V → Hp → VK → Prop) : Prop :=
  ∀ (pins : List (Addr × Obj)) (s : Shared) (σ : St) (H : Hp) (x : V) (xs : List V) (v : Value) (us : List Value) (Q : VK), Inv X pins σ H s → RelV x v → Vals xs us → r x xs H Q →
    wpAny (model X.prog X.w) X.A (call (.builtin id) (v :: us)) (EP X pins σ Q) X.xe s
section
variable {X : Cx} {a b : Expr} {ta tb : TE} {pos : Pos}
theorem pe_ix {r : R2} (hr : IxR X r) (ha : PE X a ta) (hb : PE X b tb) (hs : PlainIx b) : PE X (.Subscript a b pos) (tOp r ta tb) := by
  intro pins s σ H Q I h
  exact Subscript_ (binT ha hb I h fun v u s2 x y H2 I2 rx ry q => hr a b pins s2 σ H2 x y v u Q I2 rx ry q (hs _ _))
inductive rIxL (K : PySem.W.Frag) (x y : V) (H : Hp) (Q : VK) : Prop
  | mk (p : Addr) (xs : List V) (i : Int) (v : V) (e : x = .ref p) (e' : y = .int i) (s : SqL K H p xs) (a : atI xs i = some v) (q : Q v H) : rIxL K x y H Q
inductive rIxT (K : PySem.W.Frag) (x y : V) (H : Hp) (Q : VK) : Prop
  | mk (p : Addr) (xs : List V) (i : Int) (v : V) (e : x = .ref p) (e' : y = .int i) (s : SqT K H p xs) (a : atI xs i = some v) (q : Q v H) : rIxT K x y H Q
noncomputable def rIxS : R2 := fun x y H Q => ∃ z i c, x = .str z ∧ y = .int i ∧ z.length ≤ sizeLine ∧ atI z.cps.toList i = some c ∧ Q (.str ⟨#[c]⟩) H
theorem ix_list : IxR X (rIxL X.K) := by
  intro value slice pins s σ H x y v u Q I rx ry h hs
  obtain ⟨p, xs, i, z, rfl, rfl, hq, he, q⟩ := h
  cases rx
  obtain ⟨t, rfl⟩ := ry
  obtain ⟨its, r, pl, hz⟩ := I.list hq
  obtain ⟨j, h1, h2, h3, h4, h5⟩ := atI_get he
  obtain ⟨w, ew, rw'⟩ := r.get h2
  have hl := r.length
  have hn := line63
  have fin : EP X pins σ Q w s := ⟨z, H, I, rw', q⟩
  by_cases h0 : 0 ≤ i
  · have hj : i.toNat = j := by
      rw [seqIndex_of h0 h5] at h1
      exact Option.some.inj h1
    exact item_listR pl.isList h0 (by lia) (by rw [hj]; simpa using ew) fin hs
  · have hj : (i + (its.toArray.size : Int)).toNat = j := by
      rw [seqIndex_neg (by lia) h4] at h1
      rw [List.size_toArray, ← hl]
      exact Option.some.inj h1
    exact subscriptTail_builtinR (x := w) pl.isList.typeIs slot_list_getitem.lookup
      (wpAny_getItem_list_neg (Q := fun r s' => r = w ∧ EP X pins σ Q r s') pl.isList (by lia) (by rw [List.size_toArray] <;> lia) (by lia) (by rw [hj]; simpa using ew) ⟨rfl, fin⟩) hs
theorem ix_tup : IxR X (rIxT X.K) := by
  intro value slice pins s σ H x y v u Q I rx ry h hs
  obtain ⟨p, xs, i, z, rfl, rfl, hq, he, q⟩ := h
  cases rx
  obtain ⟨t, rfl⟩ := ry
  obtain ⟨its, r, pl, hz⟩ := I.tuple hq
  obtain ⟨j, h1, h2, h3, h4, h5⟩ := atI_get he
  obtain ⟨w, ew, rw'⟩ := r.get h2
  have hl := r.length
  have hn := line63
  have fin : EP X pins σ Q w s := ⟨z, H, I, rw', q⟩
  exact subscriptTail_builtinR (x := w) pl.typeIs slot_tuple_getitem.lookup
    (getItem_tuple (j := j) (Q := fun r s' => r = w ∧ EP X pins σ Q r s') pl (by lia) (by lia) (by rw [List.size_toArray, ← hl]; exact h1) (by simpa using ew) ⟨rfl, fin⟩) hs
theorem ix_str : IxR X rIxS := by
  intro value slice pins s σ H x y v u Q I rx ry h hs
  obtain ⟨z, i, c, rfl, rfl, hz, he, q⟩ := h
  obtain ⟨t, rfl⟩ := rx
  obtain ⟨t', rfl⟩ := ry
  obtain ⟨j, h1, h2, h3, h4, h5⟩ := atI_get he
  have hl : z.cps.toList.length = z.length := by simp [Str.length]
  rw [hl] at h1 h4 h5
  have hn := line63
  exact tail_any (typeIs_str s z t) slot_str_getitem.lookup (getItem_str (c := c) (by
    have e1 : decide (i < -(2 ^ 63 : Int)) = false := decide_eq_false (by lia)
    have e2 : decide (i ≥ 2 ^ 63) = false := decide_eq_false (by lia)
    rw [e1, e2, Bool.or_false]) (by rw [h1]; simpa using h2) ⟨.str ⟨#[c]⟩, H, I.tok _, ⟨_, rfl⟩, q⟩) hs
theorem slice_bounds (lo hi : Option Int) (n : Nat) : (sliceBounds lo hi none n).1 = ((HT.sIx n 0 lo : Nat) : Int) ∧ (sliceBounds lo hi none n).2.1 = ((HT.sIx n n hi : Nat) : Int) ∧ (sliceBounds lo hi none n).2.2 = 1 := by
  refine ⟨?_, ?_, rfl⟩
  · cases lo with
    | none => simp [sliceBounds, HT.sIx]
    | some i =>
      simp only [sliceBounds, HT.sIx, Option.getD_none, show (1 : Int) > 0 by decide, if_true]
      by_cases h : i < 0
      · simp only [h, if_true] <;> lia
      · simp only [h, if_false] <;> lia
  · cases hi with
    | none => simp [sliceBounds, HT.sIx]
    | some i =>
      simp only [sliceBounds, HT.sIx, Option.getD_none, show (1 : Int) > 0 by decide, if_true]
      by_cases h : i < 0
      · simp only [h, if_true] <;> lia
      · simp only [h, if_false] <;> lia
theorem slicePick_cut (its : List Value) (lo hi : Option Int) : slicePick its.toArray lo hi none = ((its.drop (HT.sIx its.length 0 lo)).take (HT.sIx its.length its.length hi - HT.sIx its.length 0 lo)).toArray := by
  obtain ⟨h1, h2, h3⟩ := slice_bounds lo hi its.toArray.size
  unfold slicePick
  rw [h1, h2, h3]
  simp only [sliceRange_one, pick_run, List.size_toArray] <;> rfl
noncomputable def rSlL (K : PySem.W.Frag) : V → Option Int → Option Int → Hp → VK → Prop := fun x lo hi H Q => ∃ a xs, x = .ref a ∧ SqL K H a xs ∧ ∀ p, H p = none → Q (.ref p) (upd H p (.lst (cutV xs lo hi)))
theorem sl_list : SlR X (rSlL X.K) := by
  intro pins s σ H x v vl vu lo hi sl Q I rx hs pl pu h
  obtain ⟨a, xs, rfl, hx, q⟩ := h
  cases rx
  obtain ⟨its, r, ht, hz⟩ := I.list hx
  have hlen := r.length
  refine ⟨"list", _, slot_list_getitem.lookup, ht.isList.typeIs, ?_⟩
  refine wpAny_getItem_list_slice ht.isList hs pl pu .none (by simp) ?_ (by rw [List.size_toArray] <;> lia)
  rw [slicePick_cut, ← hlen]
  refine ⟨.ref s.heap.objs.size, _, I.laid (t' := s.toks) (o := .lst (cutV xs lo hi)) (fun b ob q => Heap.get?_push_of_some _ q) (Nat.le_refl _) ?_, rfl, q _ (I.hok.fresh (Nat.le_refl _))⟩
  exact ⟨Nat.le_trans (cutV_length xs lo hi) hz, _, 0, (r.drop (HT.sIx xs.length 0 lo)).take (HT.sIx xs.length xs.length hi - HT.sIx xs.length 0 lo), Heap.get?_push_size _ rfl⟩
noncomputable def flatV : V → Bool
  | .non => true
  | .bl _ => true
  | .int _ => true
  | .str _ => true
  | _ => false
noncomputable def eqV : V → V → Bool
  | .non, .non => true
  | .bl a, .bl b => a == b
  | .bl a, .int b => (if a then 1 else 0) == b
  | .int a, .bl b => a == (if b then 1 else 0)
  | .int a, .int b => a == b
  | .str a, .str b => a == b
  | _, _ => false
theorem eqAt_V {A : Around} {s : Shared} {y x : V} {u v : Value} (ry : RelV y u) (rx : RelV x v) (fy : flatV y = true) (fx : flatV x = true) : SeqAt.EqAt A s u v (eqV y x) := by
  cases y with
  | non =>
    cases ry
    cases x with
    | non => cases rx; exact SeqAt.EqAt.same _
    | bl b => cases rx; exact SeqAt.EqAt.none_bool b
    | int b => obtain ⟨t, rfl⟩ := rx; exact SeqAt.EqAt.none_int b t
    | str b => obtain ⟨t, rfl⟩ := rx; exact SeqAt.EqAt.none_str b t
    | _ => exact absurd (show false = true from fx) Bool.false_ne_true
  | bl a =>
    cases ry
    cases x with
    | non => cases rx; exact SeqAt.EqAt.bool_none a
    | bl b => cases rx; exact SeqAt.EqAt.bool_bool a b
    | int b => obtain ⟨t, rfl⟩ := rx; exact SeqAt.EqAt.bool_int a b t
    | str b => obtain ⟨t, rfl⟩ := rx; exact SeqAt.EqAt.bool_str a b t
    | _ => exact absurd (show false = true from fx) Bool.false_ne_true
  | int a =>
    obtain ⟨t', rfl⟩ := ry
    cases x with
    | non => cases rx; exact SeqAt.EqAt.int_none a t'
    | bl b => cases rx; exact SeqAt.EqAt.int_bool a t' b
    | int b => obtain ⟨t, rfl⟩ := rx; exact SeqAt.EqAt.int_int a t' b t
    | str b => obtain ⟨t, rfl⟩ := rx; exact SeqAt.EqAt.int_str a t' b t
    | _ => exact absurd (show false = true from fx) Bool.false_ne_true
  | str a =>
    obtain ⟨t', rfl⟩ := ry
    cases x with
    | non => cases rx; exact SeqAt.EqAt.str_none a t'
    | bl b => cases rx; exact SeqAt.EqAt.str_bool a t' b
    | int b => obtain ⟨t, rfl⟩ := rx; exact SeqAt.EqAt.str_int a t' b t
    | str b => obtain ⟨t, rfl⟩ := rx; exact SeqAt.EqAt.str_str a t' b t
    | _ => exact absurd (show false = true from fx) Bool.false_ne_true
  | _ => exact absurd (show false = true from fy) Bool.false_ne_true
noncomputable def eqU (x : V) (u : Value) : Bool := match u with
  | .none => eqV .non x
  | .bool b => eqV (.bl b) x
  | .int i _ => eqV (.int i) x
  | .str z _ => eqV (.str z) x
  | _ => false
theorem eqU_of {x y : V} {u : Value} (r : RelV y u) (f : flatV y = true) : eqU x u = eqV y x := by
  cases y with
  | non => cases r; rfl
  | bl b => cases r; rfl
  | int i => obtain ⟨t, rfl⟩ := r; rfl
  | str z => obtain ⟨t, rfl⟩ := r; rfl
  | _ => exact absurd (show false = true from f) Bool.false_ne_true
theorem any_eqU {x : V} : ∀ {xs : List V} {us : List Value}, Vals xs us → xs.all flatV = true → us.any (eqU x) = xs.any fun y => eqV y x
  | _, _, .nil, _ => rfl
  | y :: xs, u :: us, .cons r t, f => by
    rw [List.all_cons, Bool.and_eq_true] at f
    rw [List.any_cons, List.any_cons, eqU_of r f.1, any_eqU t f.2]
theorem mem_eqAt {A : Around} {s : Shared} {x : V} {v : Value} (rx : RelV x v) (fx : flatV x = true) : ∀ {xs : List V} {us : List Value}, Vals xs us → xs.all flatV = true → ∀ u ∈ us, SeqAt.EqAt A s u v (eqU x u)
  | _, _, .nil, _ => fun u hu => by cases hu
  | y :: xs, u :: us, .cons r t, f => fun u' hu => by
    rw [List.all_cons, Bool.and_eq_true] at f
    rcases List.mem_cons.mp hu with rfl | hu
    · rw [eqU_of r f.1]; exact eqAt_V r rx f.1 fx
    · exact mem_eqAt rx fx t f.2 u' hu
noncomputable def inV (x : V) (xs : List V) : Bool := xs.any fun y => eqV y x
inductive rIn (K : PySem.W.Frag) (neg : Bool) (x y : V) (H : Hp) (Q : VK) : Prop
  | mk (p : Addr) (xs : List V) (e : y = .ref p) (s : SqL K H p xs ∨ SqT K H p xs) (f : flatV x = true) (f' : xs.all flatV = true) (q : Q (.bl (if neg then !inV x xs else inV x xs)) H) : rIn K neg x y H Q
theorem op_in_seq : OpR X (compareOp .In) (rIn X.K false) := by
  intro pins s σ H x y v u Q I rx ry h
  obtain ⟨p, xs, rfl, hq, fx, fs, q⟩ := h
  cases ry
  rcases hq with hq | hq
  · obtain ⟨its, r, pl, hz⟩ := I.list hq
    refine SeqAt.in_listAt (eqU x) pl.isList (fun w hw => mem_eqAt rx fx r fs w (by simpa using hw)) ⟨.bl _, H, I, rfl, ?_⟩
    rw [show its.toArray.any (eqU x) = its.any (eqU x) by simp, any_eqU r fs]
    exact q
  · obtain ⟨its, r, pl, hz⟩ := I.tuple hq
    refine SeqAt.in_tupleAt (eqU x) pl (fun w hw => mem_eqAt rx fx r fs w (by simpa using hw)) ⟨.bl _, H, I, rfl, ?_⟩
    rw [show its.toArray.any (eqU x) = its.any (eqU x) by simp, any_eqU r fs]
    exact q
theorem op_notIn_seq : OpR X (compareOp .NotIn) (rIn X.K true) := by
  intro pins s σ H x y v u Q I rx ry h
  obtain ⟨p, xs, rfl, hq, fx, fs, q⟩ := h
  cases ry
  rcases hq with hq | hq
  · obtain ⟨its, r, pl, hz⟩ := I.list hq
    refine SeqAt.notIn_listAt (eqU x) pl.isList (fun w hw => mem_eqAt rx fx r fs w (by simpa using hw)) ⟨.bl _, H, I, rfl, ?_⟩
    rw [show its.toArray.any (eqU x) = its.any (eqU x) by simp, any_eqU r fs]
    exact q
  · obtain ⟨its, r, pl, hz⟩ := I.tuple hq
    refine SeqAt.notIn_tupleAt (eqU x) pl (fun w hw => mem_eqAt rx fx r fs w (by simpa using hw)) ⟨.bl _, H, I, rfl, ?_⟩
    rw [show its.toArray.any (eqU x) = its.any (eqU x) by simp, any_eqU r fs]
    exact q
theorem call_list_of : CallR X (.type "list") (fun xs H Q => ∃ p ys, xs = [.ref p] ∧ (SqL X.K H p ys ∨ SqT X.K H p ys) ∧ ∀ l, H l = none → Q (.ref l) (upd H l (.lst ys))) := by
  intro pins s σ H xs us Q I r h
  obtain ⟨p, ys, rfl, hq, q⟩ := h
  obtain ⟨u, rfl, rx⟩ := vals1 r
  cases rx
  have fin : ∀ (its : List Value), Vals ys its → ys.length ≤ sizeLine → ∀ (h' : Heap) (c' : Nat), (∀ b o', s.heap.get? b = some o' → h'.get? b = some o') →
      h'.get? s.heap.objs.size = some { cls := .type "list", dict := none, data := .seq its.toArray c', slots := #[] } → EP X pins σ Q (.ref s.heap.objs.size) { s with heap := h' } := fun its r' hz h' c' kp e =>
    ⟨.ref s.heap.objs.size, _, I.laid (t' := s.toks) kp (Nat.le_refl _) (show ObjOk X.prog X.w _ h' _ (.lst ys) from ⟨hz, its, c', r', e⟩), rfl, q _ (I.hok.fresh (Nat.le_refl _))⟩
  rcases hq with hq | hq
  · obtain ⟨its, r', pl, hz⟩ := I.list hq
    have hlen := r'.length
    obtain ⟨o, ho, hc, n, hd⟩ := pl.isList
    exact call_list_seq p (.inl rfl) ho hc hd (fun h' c' kp e => fin its r' hz h' c' kp e) (by simp only [List.size_toArray] <;> lia)
  · obtain ⟨its, r', pl, hz⟩ := I.tuple hq
    have hlen := r'.length
    obtain ⟨o, ho, hc, n, hd⟩ := pl
    exact call_list_seq p (.inr rfl) ho hc hd (fun h' c' kp e => fin its r' hz h' c' kp e) (by simp only [List.size_toArray] <;> lia)
theorem call_tuple_of : CallR X (.type "tuple") (fun xs H Q => ∃ p ys, xs = [.ref p] ∧ ((SqL X.K H p ys ∧ ∀ l, H l = none → Q (.ref l) (upd H l (.tup ys))) ∨ (SqT X.K H p ys ∧ Q (.ref p) H))) := by
  intro pins s σ H xs us Q I r h
  obtain ⟨p, ys, rfl, h⟩ := h
  obtain ⟨u, rfl, rx⟩ := vals1 r
  cases rx
  rcases h with ⟨hq, q⟩ | ⟨hq, q⟩
  · obtain ⟨its, r', pl, hz⟩ := I.list hq
    have hlen := r'.length
    refine call_tuple_list pl.isList (fun h' kp => ?_) (by simp only [List.size_toArray] <;> lia)
    have I1 : Inv X pins σ H { s with heap := h' } := I.kept (t' := s.toks) kp
    have I2 : Inv X pins σ (upd H h'.objs.size (.tup ys)) { s with heap := h'.push { cls := .type "tuple", data := .seq its.toArray } } :=
      I1.laid (t' := s.toks) (fun b o e => Heap.get?_push_of_some _ e) (Nat.le_refl _) (show ObjOk X.prog X.w _ _ _ (.tup ys) from ⟨hz, its, r', IsTup.new _ _⟩)
    exact ⟨.ref h'.objs.size, _, I2, rfl, q _ (I1.hok.fresh (Nat.le_refl _))⟩
  · obtain ⟨its, r', pl, hz⟩ := I.tuple hq
    exact call_tuple_same pl ⟨.ref p, H, I, rfl, q⟩
noncomputable def tyV (K : PySem.W.Frag) (T : String) (x : V) (H : Hp) : Prop := match x with
  | .str _ => T = "str"
  | .int _ => T = "int"
  | .ref p => (T = "list" ∧ ∃ xs, SqL K H p xs) ∨ (T = "tuple" ∧ ∃ o, K.lookup p = some o ∧ o.cls = .type "tuple" ∧ o.dict = none) ∨
      (T = "dict" ∧ ((∃ kvs, H p = some (.dK kvs)) ∨ ∃ kvs, H p = some (.dT kvs))) ∨ (T = "set" ∧ ∃ S n, H p = some (.set S n))
  | _ => False
theorem tyV_is {pins : List (Addr × Obj)} {σ : St} {H : Hp} {s : Shared} {T : String} {x : V} {v : Value} (I : Inv X pins σ H s) (r : RelV x v) (ty : tyV X.K T x H) :
    s.TypeIs v T ∧ ∀ a, v = .ref a → ∃ ob, s.heap.get? a = some ob ∧ ob.dict = none := by
  cases x with
  | str z =>
    obtain ⟨t, rfl⟩ := r
    cases (show T = "str" from ty)
    exact ⟨typeIs_str s z t, fun _ e => nomatch e⟩
  | int i =>
    obtain ⟨t, rfl⟩ := r
    cases (show T = "int" from ty)
    exact ⟨typeIs_int s i t, fun _ e => nomatch e⟩
  | ref p =>
    cases r
    rcases ty with ⟨rfl, xs, hq⟩ | ⟨rfl, o, hk, hc, hd⟩ | ⟨rfl, hk⟩ | ⟨rfl, S, n, hk⟩
    · obtain ⟨its, _, pl, _⟩ := I.list hq
      refine ⟨pl.isList.typeIs, fun a e => ?_⟩
      cases e
      obtain ⟨o, n, e, c, hd, _⟩ := pl
      exact ⟨o, e, hd⟩
    · refine ⟨⟨o, I.kIn p o hk, hc⟩, fun a e => ?_⟩
      cases e
      exact ⟨o, I.kIn _ o hk, hd⟩
    · have z : ∃ o, s.heap.get? p = some o ∧ o.ExactDict := by
        rcases hk with ⟨kvs, hk⟩ | ⟨kvs, hk⟩
        · obtain ⟨_, _, _, _, o, _, _, e, ex, _⟩ := I.hok p _ hk
          exact ⟨o, e, ex⟩
        · obtain ⟨_, _, _, _, o, _, _, e, ex, _⟩ := I.hok p _ hk
          exact ⟨o, e, ex⟩
      obtain ⟨o, e, ex⟩ := z
      refine ⟨⟨o, e, ex.1⟩, fun a e2 => ?_⟩
      cases e2
      exact ⟨o, e, ex.2.1⟩
    · obtain ⟨o, _, _, _, e, ex, _⟩ := I.hok p _ hk
      refine ⟨⟨o, e, ex.1⟩, fun a e2 => ?_⟩
      cases e2
      exact ⟨o, e, ex.2.1⟩
  | _ => exact False.elim ty
noncomputable def tBM0 (K : PySem.W.Frag) (T : String) (r : V → List V → Hp → VK → Prop) (to : TE) : TE := fun σ H Q => to σ H fun x H1 => tyV K T x H1 ∧ r x [] H1 Q
noncomputable def tBM (K : PySem.W.Frag) (T : String) (r : V → List V → Hp → VK → Prop) (to : TE) (t : TA) : TE := fun σ H Q => to σ H fun x H1 => tyV K T x H1 ∧ t σ H1 fun xs H2 => r x xs H2 Q
variable {o e : Expr} {es : List Expr} {to : TE} {t : TA} {name : Str} {apos cpos : Pos} {T id : String} {r : V → List V → Hp → VK → Prop}
theorem pe_bm0 (pa : PlainAttrs T) (slot : Slot T name id) (hty : typeOf (.builtin id) = pure (.type "method_descriptor")) (hm : MtR X id r) (ho : PE X o to)
    (hbase : attributeBase o name X.env (eval o X.env) = eval o X.env := by rfl) (hline : (apos.endLine == cpos.line) = true := by rfl) : PE X (.Call (.Attribute o name apos) [] [] cpos) (tBM0 X.K T r to) := by
  intro pins s σ H Q I h
  refine wpAny_Call_method0_late hbase hline (thn (ho pins s σ H _ I h) fun v s1 ⟨x, H1, I1, r1, ty, q1⟩ => ?_)
  obtain ⟨h1, h2⟩ := tyV_is I1 r1 ty
  exact ⟨T, id, pa, slot, hty, h1, h2, Calls.callWith_builtin rfl (PySem.evalArgs_none (hm pins s1 σ H1 x [] v [] Q I1 r1 .nil q1))⟩
theorem pe_bm (pa : PlainAttrs T) (slot : Slot T name id) (hty : typeOf (.builtin id) = pure (.type "method_descriptor")) (hm : MtR X id r) (ho : PE X o to) (ha : PA X (e :: es) t)
    (hbase : attributeBase o name X.env (eval o X.env) = eval o X.env := by rfl)
    (hfew : ((backTo cpos (starEach (e :: es) X.env)).all (fun x => !x.1) && (backToKw cpos (keywordEach [] X.env)).all (fun x => x.1.isSome)
      && decide ((e :: es).length + ([] : List Keyword).length + (if ([] : List Keyword).isEmpty then 0 else 1) < 30)) = true := by rfl)
    (hline : (apos.endLine == cpos.line) = true := by rfl) (hs : starEach (e :: es) X.env = (false, eval e X.env) :: starEach es X.env := by rfl) (hplain : (backTo cpos (starEach es X.env)).any (·.1) = false := by rfl) :
    PE X (.Call (.Attribute o name apos) (e :: es) [] cpos) (tBM X.K T r to t) := by
  intro pins s σ H Q I h
  refine wpAny_Call_method_late hbase hfew hline rfl (thn (ho pins s σ H _ I h) fun v s1 ⟨x, H1, I1, r1, ty, q1⟩ => ?_)
  obtain ⟨h1, h2⟩ := tyV_is I1 r1 ty
  refine ⟨T, id, pa, slot, hty, h1, h2, ?_⟩
  have hA := ha cpos pins s1 σ H1 _ I1 q1
  rw [hs] at hA ⊢
  refine Calls.callWith_builtin (by show (false || (backTo cpos (starEach es X.env)).any (·.1)) = false; rw [hplain] <;> rfl) (Calls.evalArgs_plain ?_)
  exact thn hA fun us s2 ⟨vs, H2, I2, r2, q2⟩ => hm pins s2 σ H2 x vs v us Q I2 r1 r2 q2
end
end L2
namespace L2
open PySem PySem.Spec PyProof.Rows
noncomputable def MtM (X : Cx) (id : String) (r : V → List V → Hp → VK → Prop) : Prop :=
  ∀ (pins : List (Addr × Obj)) (s : Shared) (σ : St) (H : Hp) (x : V) (xs : List V) (v : Value) (us : List Value) (Q : VK), Inv X pins σ H s → RelV x v → Vals xs us → r x xs H Q →
    wpAny (model X.prog X.w) X.A (call (.builtin id) (v :: us)) (EP X pins σ Q) X.xe s
theorem Vals.one : ∀ {x : V} {us : List Value}, Vals [x] us → ∃ u, us = [u] ∧ RelV x u
  | _, _, .cons r .nil => ⟨_, rfl, r⟩
theorem Vals.zero : ∀ {us : List Value}, Vals [] us → us = []
  | _, .nil => rfl
theorem Vals.reverse {xs : List V} {us : List Value} (h : Vals xs us) : Vals xs.reverse us.reverse := by
  induction h with
  | nil => exact .nil
  | cons r t ih => rw [List.reverse_cons, List.reverse_cons]; exact Vals.append ih (.cons r .nil)
section
variable {X : Cx} {pins : List (Addr × Obj)} {σ : St} {H : Hp} {s : Shared} {l b : Addr} {xs ys zs : List V}
theorem Inv.lset {its its' : List Value} {n : Nat} {f : Array Value → Array Value} {t' : Nat} (I : Inv X pins σ H s) (hH : H l = some (.lst xs))
    (e : s.heap.get? l = some { cls := .type "list", data := .seq its.toArray n }) (hf : f its.toArray = its'.toArray) (hv : Vals ys its') (hz : ys.length ≤ sizeLine) :
    Inv X pins σ (upd H l (.lst ys)) { s with heap := s.heap.update l (Obj.mapSeq f), toks := t' } := by
  have q := PySem.IsL.update e f
  rw [hf] at q
  refine I.write (x := l) (e := l) (by rw [hH]; exact trivial) (.inl rfl) (fun b' u hb hu => (Heap.get?_update_other s.heap (Obj.mapSeq f) (Ne.symm hb)).trans hu) ⟨_, q⟩ ?_
  exact ⟨hz, its', _, hv, q⟩
theorem Inv.lnew {its : List Value} {t' : Nat} (I : Inv X pins σ H s) (hv : Vals ys its) (hz : ys.length ≤ sizeLine) :
    Inv X pins σ (upd H s.heap.objs.size (.lst ys)) { s with heap := s.heap.push { cls := .type "list", data := .seq its.toArray }, toks := t' } :=
  I.laid (fun _ _ q => Heap.get?_push_of_some _ q) (Nat.le_refl _) ⟨hz, its, 0, hv, Heap.get?_push_size _ rfl⟩
theorem Inv.fresh (I : Inv X pins σ H s) : H s.heap.objs.size = none := I.hok.fresh (Nat.le_refl _)
theorem Inv.lstM (I : Inv X pins σ H s) (hH : H l = some (.lst xs)) : xs.length ≤ sizeLine ∧ ∃ (its : List Value) (n : Nat), Vals xs its ∧ xs.length = its.length ∧ s.heap.get? l = some { cls := .type "list", data := .seq its.toArray n } := by
  obtain ⟨z, its, n, r, e⟩ := I.hok l _ hH
  exact ⟨z, its, n, r, r.length, e⟩
end
section
variable {X : Cx}
noncomputable def rAppend : V → List V → Hp → VK → Prop := fun x vs H Q => ∃ l xs y, x = .ref l ∧ vs = [y] ∧ H l = some (.lst xs) ∧ xs.length < sizeLine ∧ Q .non (upd H l (.lst (xs ++ [y])))
theorem mt_append : MtM X "list.append" rAppend := by
  intro pins s σ H x vs v us Q I rx rv h
  obtain ⟨l, xs, y, rfl, rfl, hH, hz, q⟩ := h
  cases rx
  obtain ⟨u, rfl, ru⟩ := rv.one
  obtain ⟨z, its, n, r, hl, e⟩ := I.lstM hH
  refine call_meets F.slot_list_append ⟨_, e, rfl⟩ F.entry_list_append (F.args_list_append_2 _ _) (PySem.list_append l its.toArray n u (by rw [List.size_toArray]; lia)) ⟨e, ?_⟩
  refine ⟨.non, _, I.lset (its' := its ++ [u]) hH e (by simp) (r.append (.cons ru .nil)) ?_, rfl, q⟩
  rw [List.length_append, List.length_singleton]
  lia
noncomputable def rReverse : V → List V → Hp → VK → Prop := fun x vs H Q => ∃ l xs, x = .ref l ∧ vs = [] ∧ H l = some (.lst xs) ∧ Q .non (upd H l (.lst xs.reverse))
theorem mt_reverse : MtM X "list.reverse" rReverse := by
  intro pins s σ H x vs v us Q I rx rv h
  obtain ⟨l, xs, rfl, rfl, hH, q⟩ := h
  cases rx
  have hus := rv.zero
  subst hus
  obtain ⟨z, its, n, r, hl, e⟩ := I.lstM hH
  refine call_meets F.slot_list_reverse ⟨_, e, rfl⟩ F.entry_list_reverse (F.args_list_reverse_1 _) (AutoSeq1.list_reverse_list_0 l its.toArray n (by rw [List.size_toArray]; lia)) ⟨e, ?_⟩
  refine ⟨.non, _, I.lset (its' := its.reverse) hH e (by simp) r.reverse ?_, rfl, q⟩
  rw [List.length_reverse]
  lia
noncomputable def rCat : R2 := fun x y H Q => ∃ l b xs zs, x = .ref l ∧ y = .ref b ∧ H l = some (.lst xs) ∧ H b = some (.lst zs) ∧ xs.length + zs.length ≤ sizeLine ∧ ∀ p, H p = none → Q (.ref p) (upd H p (.lst (xs ++ zs)))
theorem op_cat : OpR X (binaryOp .Add) rCat := by
  intro pins s σ H x y v u Q I rx ry h
  obtain ⟨l, b, xs, zs, rfl, rfl, hH, hB, hz, q⟩ := h
  cases rx
  cases ry
  obtain ⟨z, its, n, r, hl, e⟩ := I.lstM hH
  obtain ⟨z2, its2, n2, r2, hl2, e2⟩ := I.lstM hB
  refine PySem.P.add_list e e2 ?_ (by rw [List.size_toArray, List.size_toArray]; lia)
  have ea : its.toArray ++ its2.toArray = (its ++ its2).toArray := by simp
  rw [ea]
  exact ⟨.ref _, _, I.lnew (t' := s.toks) (r.append r2) (by rw [List.length_append]; lia), rfl, q _ I.fresh⟩
end
end L2
namespace L2
open PySem PySem.Spec PyProof.Rows
section
variable {κ : Type} [DecidableEq κ]
noncomputable def valV (kvs : List (κ × V)) (k : κ) : Option V := (kvs.find? fun kv => decide (kv.1 = k)).map (·.2)
noncomputable def putK (kvs : List (κ × V)) (k : κ) (v : V) : List (κ × V) :=
  if (kvs.any fun kv => decide (kv.1 = k)) = true then kvs.map (fun kv => if kv.1 = k then (kv.1, v) else kv) else kvs ++ [(k, v)]
theorem valV_pos {p : κ × V} {r : List (κ × V)} {k : κ} (e : p.1 = k) : valV (p :: r) k = some p.2 := by simp [valV, List.find?_cons, e]
theorem valV_neg {p : κ × V} {r : List (κ × V)} {k : κ} (e : ¬ p.1 = k) : valV (p :: r) k = valV r k := by simp [valV, List.find?_cons, e]
theorem valV_any (k : κ) : ∀ kvs : List (κ × V), (kvs.any fun kv => decide (kv.1 = k)) = (valV kvs k).isSome
  | [] => rfl
  | p :: r => by
    rw [List.any_cons]
    by_cases e : p.1 = k
    · simp only [valV_pos e, decide_eq_true e, Bool.true_or, Option.isSome_some]
    · rw [valV_neg e, decide_eq_false e, Bool.false_or]; exact valV_any k r
theorem valV_map (k j : κ) (y : V) : ∀ kvs : List (κ × V), valV (kvs.map fun kv => if kv.1 = k then (kv.1, y) else kv) j = (valV kvs j).map fun x => if j = k then y else x
  | [] => rfl
  | p :: r => by
    have ih := valV_map k j y r
    rw [List.map_cons]
    by_cases h : p.1 = k
    · rw [if_pos h]
      by_cases e : p.1 = j
      · rw [valV_pos (p := (p.1, y)) e, valV_pos e, Option.map_some, if_pos (e.symm.trans h)]
      · rw [valV_neg (p := (p.1, y)) e, valV_neg e, ih]
    · rw [if_neg h]
      by_cases e : p.1 = j
      · rw [valV_pos (p := p) e, valV_pos e, Option.map_some, if_neg (fun z => h (e.trans z))]
      · rw [valV_neg (p := p) e, valV_neg e, ih]
theorem valV_snoc (k j : κ) (y : V) : ∀ kvs : List (κ × V), valV kvs k = none → valV (kvs ++ [(k, y)]) j = if j = k then some y else valV kvs j
  | [], _ => by
    by_cases e : k = j
    · rw [if_pos e.symm]; exact valV_pos (p := (k, y)) e
    · rw [if_neg (fun z => e z.symm)]; exact valV_neg (p := (k, y)) e
  | p :: r, hn => by
    rw [List.cons_append]
    have hk : ¬ p.1 = k := fun z => by rw [valV_pos z] at hn; cases hn
    rw [valV_neg hk] at hn
    have ih := valV_snoc k j y r hn
    by_cases e : p.1 = j
    · rw [valV_pos e, valV_pos e, if_neg (fun z => hk (e.trans z))]
    · rw [valV_neg e, valV_neg e, ih]
theorem valV_put (kvs : List (κ × V)) (k j : κ) (y : V) : valV (putK kvs k y) j = if j = k then some y else valV kvs j := by
  unfold putK
  by_cases a : (kvs.any fun kv => decide (kv.1 = k)) = true
  · rw [if_pos a, valV_map]
    rw [valV_any] at a
    by_cases e : j = k
    · obtain ⟨x, hx⟩ := Option.isSome_iff_exists.mp a
      rw [if_pos e, e, hx, Option.map_some, if_pos rfl]
    · rw [if_neg e]
      cases valV kvs j with
      | none => rfl
      | some x => rw [Option.map_some, if_neg e]
  · rw [if_neg a]
    refine valV_snoc k j y kvs ?_
    rw [valV_any] at a
    cases q : valV kvs k with
    | none => rfl
    | some x => rw [q] at a; exact (a rfl).elim
theorem length_putK (kvs : List (κ × V)) (k : κ) (v : V) : (putK kvs k v).length ≤ kvs.length + 1 := by
  unfold putK
  split
  · rw [List.length_map]; lia
  · rw [List.length_append, List.length_cons, List.length_nil]; lia
theorem putK_new {kvs : List (κ × V)} {k : κ} (v : V) (h : valV kvs k = none) : putK kvs k v = kvs ++ [(k, v)] := by
  unfold putK
  rw [valV_any, h]
  exact if_neg (by decide)
theorem RelO.isSome_eq {o : Option V} {u : Option Value} (r : RelO o u) : o.isSome = u.isSome := by
  cases o with
  | none => cases u with
    | none => rfl
    | some _ => exact (show False from r).elim
  | some _ => cases u with
    | none => exact (show False from r).elim
    | some _ => rfl
theorem KV.val {kvs : List (κ × V)} {vs : List (κ × Value)} (r : KV kvs vs) (k : κ) : RelO (valV kvs k) (valueAt vs k) := by
  unfold KV at r
  induction r with
  | nil => exact True.intro
  | @cons p q ps qs h t ih =>
    obtain ⟨h1, h2⟩ := h
    by_cases e : p.1 = k
    · have e' : q.1 = k := h1.symm.trans e
      have b : valueAt (q :: qs) k = some q.2 := by simp [valueAt, List.find?_cons, e']
      rw [valV_pos e, b]; exact h2
    · have e' : ¬ q.1 = k := fun z => e (h1.trans z)
      have b : valueAt (q :: qs) k = valueAt qs k := by simp [valueAt, List.find?_cons, e']
      rw [valV_neg e, b]; exact ih
theorem KV.any {kvs : List (κ × V)} {vs : List (κ × Value)} (r : KV kvs vs) (k : κ) : (kvs.any fun kv => decide (kv.1 = k)) = vs.any fun kv => decide (kv.1 = k) := by
  unfold KV at r
  induction r with
  | nil => rfl
  | cons h t ih => rw [List.any_cons, List.any_cons, ih, h.1]
theorem KV.repl {kvs : List (κ × V)} {vs : List (κ × Value)} (r : KV kvs vs) (k : κ) {y : V} {u : Value} (ry : RelV y u) :
    KV (kvs.map fun kv => if kv.1 = k then (kv.1, y) else kv) (vs.map fun kv => if kv.1 = k then (kv.1, u) else kv) := by
  unfold KV at r ⊢
  induction r with
  | nil => exact .nil
  | @cons p q ps qs h t ih =>
    rw [List.map_cons, List.map_cons]
    refine .cons ?_ ih
    obtain ⟨h1, h2⟩ := h
    by_cases e : p.1 = k
    · rw [if_pos e, if_pos (h1.symm.trans e)]; exact ⟨h1, ry⟩
    · rw [if_neg e, if_neg (fun z => e (h1.trans z))]; exact ⟨h1, h2⟩
theorem KV.put {kvs : List (κ × V)} {vs : List (κ × Value)} (r : KV kvs vs) (k : κ) {y : V} {u : Value} (ry : RelV y u) : KV (putK kvs k y) (stored vs k u) := by
  unfold putK stored
  rw [r.any k]
  by_cases e : (vs.any fun kv => decide (kv.1 = k)) = true
  · rw [if_pos e, if_pos e]; exact r.repl k ry
  · rw [if_neg e, if_neg e]; exact Paired.snoc r ⟨rfl, ry⟩
theorem KV.length {kvs : List (κ × V)} {vs : List (κ × Value)} (r : KV kvs vs) : kvs.length = vs.length := Paired.length r
end
theorem kV_is {P : Program} {w : World} {k : Key} {u : Value} (r : RelV (kV k) u) : (mixKind P w).is k u = true := by
  cases k with
  | inl i => obtain ⟨t, e⟩ := (show ∃ t, u = Value.int i t from r); subst e; exact mixKind_int P w i t
  | inr x => obtain ⟨t, e⟩ := (show ∃ t, u = Value.str x t from r); subst e; exact mixKind_str P w x t
theorem items_are {P : Program} {w : World} : ∀ {ks : List Key} {us : List Value}, Vals (ks.map kV) us → ItemsAre (mixKind P w) ks us
  | [], _, r => by rw [List.map_nil] at r; cases r; exact .nil
  | k :: ks, _, r => by
    rw [List.map_cons] at r
    cases r with
    | cons h t => exact .cons (kV_is h) (items_are t)
noncomputable abbrev KT (H : Hp) : List (List Key × V) → List (List Key × Addr × Value) → Prop := Paired fun p q => p.1 = q.1 ∧ H q.2.1 = some (.tup (p.1.map kV)) ∧ RelV p.2 q.2.2
theorem KT.val {H : Hp} {kvs : List (List Key × V)} {xs : List (List Key × Addr × Value)} (r : KT H kvs xs) (k : List Key) : RelO (valV kvs k) ((atKey xs k).map (·.2)) := by
  induction r with
  | nil => exact True.intro
  | @cons p q ps qs h t ih =>
    obtain ⟨h1, _, h2⟩ := h
    by_cases e : p.1 = k
    · have e' : q.1 = k := h1.symm.trans e
      have b : atKey (q :: qs) k = some q.2 := by simp [atKey, List.find?_cons, e']
      rw [valV_pos e, b]; exact h2
    · have e' : ¬ q.1 = k := fun z => e (h1.trans z)
      have b : atKey (q :: qs) k = atKey qs k := by simp [atKey, List.find?_cons, e']
      rw [valV_neg e, b]; exact ih
theorem KT.repl {H : Hp} {kvs : List (List Key × V)} {xs : List (List Key × Addr × Value)} (r : KT H kvs xs) (k : List Key) {y : V} {u : Value} (ry : RelV y u) :
    KT H (kvs.map fun kv => if kv.1 = k then (kv.1, y) else kv) (xs.map (putAt k u)) := by
  induction r with
  | nil => exact .nil
  | @cons p q ps qs h t ih =>
    rw [List.map_cons, List.map_cons]
    refine .cons ?_ ih
    obtain ⟨h1, h2, h3⟩ := h
    unfold putAt
    by_cases e : p.1 = k
    · rw [if_pos e, if_pos (h1.symm.trans e)]; exact ⟨h1, h2, ry⟩
    · rw [if_neg e, if_neg (fun z => e (h1.trans z))]; exact ⟨h1, h2, h3⟩
theorem KT.put {H : Hp} {kvs : List (List Key × V)} {xs : List (List Key × Addr × Value)} (r : KT H kvs xs) (k : List Key) {b : Addr} {y : V} {u : Value} (hb : H b = some (.tup (k.map kV))) (ry : RelV y u) :
    KT H (putK kvs k y) (storedH xs k b u) := by
  have e : (kvs.any fun kv => decide (kv.1 = k)) = (atKey xs k).isSome := by
    rw [valV_any, (r.val k).isSome_eq, Option.isSome_map]
  unfold putK storedH
  rw [e]
  by_cases q : (atKey xs k).isSome = true
  · rw [if_pos q, if_pos q]; exact r.repl k ry
  · rw [if_neg q, if_neg q]; exact Paired.snoc r ⟨rfl, hb, ry⟩
theorem KT.keeps {H H' : Hp} {kvs : List (List Key × V)} {xs : List (List Key × Addr × Value)} (r : KT H kvs xs) (ht : ∀ b ys, H b = some (.tup ys) → H' b = some (.tup ys)) : KT H' kvs xs :=
  Paired.mapP r fun _ _ z => ⟨z.1, ht _ _ z.2.1, z.2.2⟩
section
variable {P : Program} {w : World} {H : Hp} {h : Heap} {a : Addr}
theorem rd_of {u : HO} (ok : HOk P w H h) (e : Rd H a u) : ObjOk P w H h a u := e.ok ok
theorem dk_rd {kvs : List (Key × V)} (ok : HOk P w H h) (e : Rd H a (.dK kvs)) : kvs.length ≤ sizeLine ∧ (a == sysModules) = false ∧ ∃ vs, KV kvs vs ∧ h.DictOf (mixKind P w) a vs :=
  show ObjOk P w H h a (.dK kvs) from rd_of ok e
theorem dk_of {kvs : List (Key × V)} (ok : HOk P w H h) (e : H a = some (.dK kvs)) : kvs.length ≤ sizeLine ∧ (a == sysModules) = false ∧ ∃ vs, KV kvs vs ∧ h.DictOf (mixKind P w) a vs := dk_rd ok (.inl e)
theorem key_of {ks : List Key} (ok : HOk P w H h) (e : H a = some (.tup (ks.map kV))) : (tupleKind (mixKind P w)).is h ks a := by
  obtain ⟨_, its, r, o, h1, h2, n, h3⟩ := (show ObjOk P w H h a (.tup (ks.map kV)) from ok a _ e)
  exact ⟨o, its.toArray, n, h1, h2, h3, by simpa using items_are r⟩
theorem dt_rd {kvs : List (List Key × V)} (ok : HOk P w H h) (e : Rd H a (.dT kvs)) : kvs.length ≤ sizeLine ∧ (a == sysModules) = false ∧
    ∃ xs, KT H kvs xs ∧ h.DictOfH (tupleKind (mixKind P w)) a xs := by
  obtain ⟨z, y, xs, r, o, es, ep, h1, h2, h3, h4, h5⟩ := (show ObjOk P w H h a (.dT kvs) from rd_of ok e)
  refine ⟨z, y, xs, r, o, es, ep, h1, h2, h3, h4, fun x hx => ?_, h5⟩
  have all : ∀ {l : List (List Key × V)} {m : List (List Key × Addr × Value)}, KT H l m → ∀ x ∈ m, (tupleKind (mixKind P w)).is h x.1 x.2.1 := by
    intro l m q
    induction q with
    | nil => intro x hx; exact nomatch hx
    | @cons p q ps qs hq t ih =>
      intro x hx
      rcases List.mem_cons.mp hx with e | hx
      · subst e
        exact key_of ok (by rw [← hq.1]; exact hq.2.1)
      · exact ih x hx
  exact all r x hx
theorem dt_of {kvs : List (List Key × V)} (ok : HOk P w H h) (e : H a = some (.dT kvs)) : kvs.length ≤ sizeLine ∧ (a == sysModules) = false ∧
    ∃ xs, KT H kvs xs ∧ h.DictOfH (tupleKind (mixKind P w)) a xs := dt_rd ok (.inl e)
end
noncomputable def DGet (H : Hp) (a : Addr) (y : V) (r : Option V) : Prop :=
  (∃ kvs k, Rd H a (.dK kvs) ∧ y = kV k ∧ r = valV kvs k) ∨ ∃ kvs k b, Rd H a (.dT kvs) ∧ y = .ref b ∧ H b = some (.tup (k.map kV)) ∧ r = valV kvs k
noncomputable def DPut (H : Hp) (a : Addr) (y v : V) (H' : Hp) : Prop :=
  (∃ kvs k, H a = some (.dK kvs) ∧ y = kV k ∧ kvs.length < sizeLine ∧ H' = upd H a (.dK (putK kvs k v))) ∨
  ∃ kvs k b, H a = some (.dT kvs) ∧ y = .ref b ∧ H b = some (.tup (k.map kV)) ∧ kvs.length < sizeLine ∧ H' = upd H a (.dT (putK kvs k v))
theorem DGet.k {H : Hp} {a : Addr} {kvs : List (Key × V)} {k : Key} (e : H a = some (.dK kvs)) : DGet H a (kV k) (valV kvs k) := .inl ⟨kvs, k, .inl e, rfl, rfl⟩
theorem DPut.k {H : Hp} {a : Addr} {kvs : List (Key × V)} {k : Key} {v : V} (e : H a = some (.dK kvs)) (hl : kvs.length < sizeLine) : DPut H a (kV k) v (upd H a (.dK (putK kvs k v))) := .inl ⟨kvs, k, e, rfl, hl, rfl⟩
section
variable {X : Cx} {pins : List (Addr × Obj)} {σ : St} {H : Hp} {s : Shared} {a : Addr} {y v : V} {u r : Value} {o : Option V} {A : Around} {E : Value → Shared → Prop}
theorem Inv.big (I : Inv X pins σ H s) : sysModules < s.heap.objs.size := by
  have h : mainGlobals < s.heap.objs.size := (I.mod.glob.keeps I.bk).lt
  exact Nat.lt_trans (by decide) h
theorem d_getItem {Q : Value → Shared → Prop} (hu : A.units + 1 < cLine) (I : Inv X pins σ H s) (g : DGet H a y (some v)) (ry : RelV y u) (h : ∀ w' s', Inv X pins σ H s' → RelV v w' → Q w' s') :
    wpAny (model X.prog X.w) A (getItem (.ref a) u) Q E s := by
  rcases g with ⟨kvs, k, e, ey, l⟩ | ⟨kvs, k, b, e, ey, eb, l⟩
  · subst ey
    obtain ⟨z, hd, vs, rel, dd⟩ := dk_rd I.hok e
    obtain ⟨w', hw, rw'⟩ := RelO.some_of (v := v) (o := valueAt vs k) (by rw [l]; exact rel.val k)
    exact wpAny_getItem_of (kV_is ry) dd.mapOf hw (h w' _ (I.tok _) rw')
  · subst ey
    cases (show u = Value.ref b from ry)
    obtain ⟨z, hd, xs, rel, dd⟩ := dt_rd I.hok e
    obtain ⟨w', hw, rw'⟩ := RelO.some_of (v := v) (o := (atKey xs k).map (·.2)) (by rw [l]; exact rel.val k)
    obtain ⟨p, hp, hp2⟩ := Option.map_eq_some_iff.mp hw
    refine wpAny_getItem_heap (tupleKind_room_in1 hu) (key_of I.hok eb) dd hp ?_
    rw [hp2]
    exact h w' _ (I.tok _) rw'
theorem d_in {Q : Value → Shared → Prop} (hu : A.units + 1 < cLine) (I : Inv X pins σ H s) (g : DGet H a y o) (ry : RelV y u) (h : ∀ s', Inv X pins σ H s' → Q (.bool o.isSome) s') :
    wpAny (model X.prog X.w) A (compareOp .In u (.ref a)) Q E s := by
  rcases g with ⟨kvs, k, e, ey, l⟩ | ⟨kvs, k, b, e, ey, eb, l⟩
  · subst ey
    obtain ⟨z, hd, vs, rel, dd⟩ := dk_rd I.hok e
    refine wpAny_in_of (kV_is ry) hd dd.mapOf ?_
    rw [← (rel.val k).isSome_eq, ← l]
    exact h _ (I.tok _)
  · subst ey
    cases (show u = Value.ref b from ry)
    obtain ⟨z, hd, xs, rel, dd⟩ := dt_rd I.hok e
    refine wpAny_in_heap (tupleKind_room_in1 hu) (key_of I.hok eb) hd dd ?_
    have q := (rel.val k).isSome_eq
    rw [Option.isSome_map] at q
    rw [← q, ← l]
    exact h _ (I.tok _)
theorem d_notIn {Q : Value → Shared → Prop} (hu : A.units + 1 < cLine) (I : Inv X pins σ H s) (g : DGet H a y o) (ry : RelV y u) (h : ∀ s', Inv X pins σ H s' → Q (.bool (!o.isSome)) s') :
    wpAny (model X.prog X.w) A (compareOp .NotIn u (.ref a)) Q E s := by
  rcases g with ⟨kvs, k, e, ey, l⟩ | ⟨kvs, k, b, e, ey, eb, l⟩
  · subst ey
    obtain ⟨z, hd, vs, rel, dd⟩ := dk_rd I.hok e
    refine wpAny_notIn_of (kV_is ry) hd dd.mapOf ?_
    rw [← (rel.val k).isSome_eq, ← l]
    exact h _ (I.tok _)
  · subst ey
    cases (show u = Value.ref b from ry)
    obtain ⟨z, hd, xs, rel, dd⟩ := dt_rd I.hok e
    refine wpAny_notIn_heap (tupleKind_room_in1 hu) (key_of I.hok eb) hd dd ?_
    have q := (rel.val k).isSome_eq
    rw [Option.isSome_map] at q
    rw [← q, ← l]
    exact h _ (I.tok _)
theorem d_write {h' : Heap} {t' : Nat} {ob : HO} (I : Inv X pins σ H s) (mu : Mut (H a)) (hs : Heap.SameBut a s.heap h') (he : ∃ q, h'.get? a = some q) (new : ObjOk X.prog X.w (upd H a ob) h' a ob) :
    Inv X pins σ (upd H a ob) { s with heap := h', toks := t' } :=
  I.write (x := a) (e := a) mu (.inl rfl) (fun b q hb z => (hs.2 b hb).trans z) he new
theorem dk_new {P : Program} {w : World} {H' : Hp} {h' : Heap} {kvs : List (Key × V)} {vs : List (Key × Value)} (z : kvs.length ≤ sizeLine) (hd : (a == sysModules) = false) (rel : KV kvs vs) (dd : h'.DictOf (mixKind P w) a vs) :
    ObjOk P w H' h' a (.dK kvs) := ⟨z, hd, vs, rel, dd⟩
theorem d_setItem {H' : Hp} {Q : Unit → Shared → Prop} (hu : A.units + 1 < cLine) (I : Inv X pins σ H s) (g : DPut H a y v H') (ry : RelV y u) (rv : RelV v r) (h : ∀ s', Inv X pins σ H' s' → Q () s') :
    wpAny (model X.prog X.w) A (setItem (.ref a) u r) Q E s := by
  rcases g with ⟨kvs, k, e, ey, l, eH⟩ | ⟨kvs, k, b, e, ey, eb, l, eH⟩
  · subst ey eH
    obtain ⟨z, hd, vs, rel, dd⟩ := dk_of I.hok e
    have hz : vs.length ≤ sizeLine := by rw [← rel.length]; exact z
    have hl : (putK kvs k v).length ≤ sizeLine := by have := length_putK kvs k v; lia
    refine wpAny_setItem_pairs (hsz := hz) (kV_is ry) dd fun h' dd' hs => h _ ?_
    have he : ∃ q, h'.get? a = some q := let ⟨q, _, _, hq, _⟩ := dd'; ⟨q, hq⟩
    exact d_write I (by rw [e]; exact True.intro) hs he (dk_new hl hd (rel.put k rv) dd')
  · subst ey eH
    cases (show u = Value.ref b from ry)
    obtain ⟨z, hd, xs, rel, dd⟩ := dt_of I.hok e
    have hz : xs.length ≤ sizeLine := by rw [← Paired.length rel]; exact z
    have hl : (putK kvs k v).length ≤ sizeLine := by have := length_putK kvs k v; lia
    refine wpAny_setItem_heap (hsz := hz) (tupleKind_room_in1 hu) (key_of I.hok eb) dd fun h' dd' hs => h _ ?_
    obtain ⟨q, es, ep, hq, h2, h3, h4, _, h5⟩ := dd'
    refine d_write I (by rw [e]; exact True.intro) hs ⟨q, hq⟩ ⟨hl, hd, _, (rel.put k eb rv).keeps fun c ys ec => ?_, q, es, ep, hq, h2, h3, h4, h5⟩
    rw [upd_ne (ne_of ec e (fun z => nomatch z))]
    exact ec
end
section
variable {X : Cx} {pins : List (Addr × Obj)} {σ : St} {H : Hp} {s : Shared} {a : Addr} {kvs : List (Key × V)} {k : Key} {u : Value} {A : Around} {E : Value → Shared → Prop}
theorem d_len {Q : Value → Shared → Prop} (I : Inv X pins σ H s) (e : Rd H a (.dK kvs)) (h : ∀ t s', Inv X pins σ H s' → Q (.int kvs.length t) s') : wpAny (model X.prog X.w) A (call (.builtin "len") [.ref a]) Q E s := by
  obtain ⟨z, hd, vs, rel, dd⟩ := dk_rd I.hok e
  refine call_len_dict hd dd (by rw [← rel.length]; rw [sizeLine_eq] at z; lia) ?_
  rw [← rel.length]
  exact h _ _ (I.tok _)
end
noncomputable def NoSl (i : Expr) : Prop := ∀ ov iv, subscripted i false ov iv = operate [ov, iv] (getItem ov iv)
theorem subD_of {prog : Program} {w : World} {A : Around} {E : Value → Shared → Prop} {s : Shared} {env : Env} {value slice : Expr} {pos : Pos} {T id : String} {Q : Value → Shared → Prop}
    (hl : typeLookup (.type T) "__getitem__" = pure (some (.builtin id))) (hs : NoSl slice)
    (h : wpAny (model prog w) A (eval value env) (fun o s₁ => wpAny (model prog w) A (eval slice env) (fun i s₂ => s₂.TypeIs o T ∧ wpAny (model prog w) A (getItem o i) Q E s₂) E s₁) E s) :
    wpAny (model prog w) A (eval (.Subscript value slice pos) env) Q E s := by
  refine Subscript_ (wpAny_mono h (fun o s₁ h₁ => wpAny_mono h₁ (fun i s₂ h₂ => ?_) fun _ _ x => x) fun _ _ x => x)
  obtain ⟨hT, h₂⟩ := h₂
  unfold subscriptTail
  refine wpAny_bind ?_
  rw [getitemInPython_of_ne hT.not_modules]
  refine wpAny_bind (wpAny_specialOf hT hl ?_)
  have fin : wpAny (model prog w) A (subscripted slice false o i) (fun r s₃ => wpAny (model prog w) A (letTemporaryGo value o r >>= fun _ => pure r) Q E s₃) E s₂ := by
    rw [hs o i]
    exact wpAny_operating (wpAny_mono h₂ (fun r s₃ h₃ => wpAny_bind (wpAny_letTemporaryGo (wpAny_pure h₃))) fun _ _ x => x)
  first
    | exact wpAny_pure (wpAny_bind fin)
    | exact wpAny_bind (wpAny_pure (wpAny_bind fin))
    | exact wpAny_bind fin
theorem dict_typeIs {X : Cx} {pins : List (Addr × Obj)} {σ : St} {H : Hp} {s : Shared} {a : Addr} {y : V} {o : Option V} (I : Inv X pins σ H s) (g : DGet H a y o) : s.TypeIs (.ref a) "dict" := by
  rcases g with ⟨kvs, k, e, _, _⟩ | ⟨kvs, k, b, e, _, _, _⟩
  · obtain ⟨_, _, vs, _, dd⟩ := dk_rd I.hok e
    exact dd.typeIs
  · obtain ⟨_, _, xs, _, dd⟩ := dt_rd I.hok e
    exact dd.typeIs
inductive hasD (Q : VK) (x y : V) (H2 : Hp) : Prop
  | mk (a : Addr) (v : V) (e : x = .ref a) (g : DGet H2 a y (some v)) (q : Q v H2) : hasD Q x y H2
noncomputable def tDGet (td ty : TE) : TE := fun σ H Q => td σ H fun x H1 => ty σ H1 fun y H2 => hasD Q x y H2
inductive inD (Q : VK) (x y : V) (H2 : Hp) : Prop
  | mk (a : Addr) (o : Option V) (e : x = .ref a) (g : DGet H2 a y o) (q : Q (.bl o.isSome) H2) : inD Q x y H2
noncomputable def tDIn (ty td : TE) : TE := fun σ H Q => ty σ H fun y H1 => td σ H1 fun x H2 => inD Q x y H2
noncomputable def tDNotIn (ty td : TE) : TE := fun σ H Q => ty σ H fun y H1 => td σ H1 fun x H2 => ∃ a o, x = .ref a ∧ DGet H2 a y o ∧ Q (.bl (!o.isSome)) H2
noncomputable def sDPut (td ty tv : TE) : TS := fun D σ H => tv σ H fun v H1 => td σ H1 fun x H2 => ty σ H2 fun y H3 => ∃ a H4, x = .ref a ∧ DPut H3 a y v H4 ∧ D.nx σ H4
section
variable {X : Cx} {o i e value : Expr} {pos pos' tpos : Pos} {td ty tv : TE}
theorem pe_dget (hu : X.A.units + 1 < cLine) (ho : PE X o td) (hi : PE X i ty) (hs : NoSl i) : PE X (.Subscript o i pos) (tDGet td ty) := by
  intro pins s σ H Q I h
  refine subD_of PySem.F.slot_dict_getitem.lookup hs (thn (ho pins s σ H _ I h) fun u s1 ⟨x, H1, I1, rx, q1⟩ => thn (hi pins s1 σ H1 _ I1 q1) fun iv s2 ⟨y, H2, I2, ry, a, v, ex, g, q2⟩ => ?_)
  subst ex
  obtain rfl : u = Value.ref a := rx
  exact ⟨dict_typeIs I2 g, d_getItem hu I2 g ry fun w' s3 I3 rw' => ⟨v, H2, I3, rw', q2⟩⟩
theorem pc_din (hu : X.A.units + 1 < cLine) (hi : PE X i ty) (ho : PE X o td) : PC X .In i o (tDIn ty td) := by
  intro pins s σ H Q I h
  refine thn (hi pins s σ H _ I h) fun iv s1 ⟨y, H1, I1, ry, q1⟩ => thn (ho pins s1 σ H1 _ I1 q1) fun u s2 ⟨x, H2, I2, rx, a, ov, ex, g, q2⟩ => ?_
  subst ex
  obtain rfl : u = Value.ref a := rx
  exact d_in hu I2 g ry fun s3 I3 => ⟨.bl ov.isSome, H2, I3, rfl, q2⟩
theorem pc_dnotin (hu : X.A.units + 1 < cLine) (hi : PE X i ty) (ho : PE X o td) : PC X .NotIn i o (tDNotIn ty td) := by
  intro pins s σ H Q I h
  refine thn (hi pins s σ H _ I h) fun iv s1 ⟨y, H1, I1, ry, q1⟩ => thn (ho pins s1 σ H1 _ I1 q1) fun u s2 ⟨x, H2, I2, rx, a, ov, ex, g, q2⟩ => ?_
  subst ex
  obtain rfl : u = Value.ref a := rx
  exact d_notIn hu I2 g ry fun s3 I3 => ⟨.bl (!ov.isSome), H2, I3, rfl, q2⟩
theorem ps_dput (hu : X.A.units + 1 < cLine) (ho : PE X o td) (hi : PE X i ty) (hv : PE X value tv) (hs : swapsWith value (some (.Subscript o i pos')) pos.line X.env = pure false) :
    PS X (.Assign [.Subscript o i pos'] value pos) (sDPut td ty tv) := by
  intro pins s σ H D I h
  refine wpAny_Assign_Subscript (thn (hv pins s σ H _ I h) fun r s1 ⟨v, H1, I1, rv, q1⟩ => thn (ho pins s1 σ H1 _ I1 q1) fun u s2 ⟨x, H2, I2, rx, q2⟩ => thn (hi pins s2 σ H2 _ I2 q2) fun iv s3 ⟨y, H3, I3, ry, a, H4, ex, g, q3⟩ => ?_) hs
  subst ex
  obtain rfl : u = Value.ref a := rx
  exact d_setItem hu I3 g ry rv fun s4 I4 => ⟨σ, H4, I4, q3⟩
end
theorem dk_empty {P : Program} {w : World} {H : Hp} (h : Heap) (hb : sysModules < h.objs.size) : ObjOk P w H (h.push { cls := .type "dict", data := .dict #[] }) h.objs.size (.dK []) :=
  ⟨Nat.zero_le _, beq_eq_false_iff_ne.mpr (Ne.symm (Nat.ne_of_lt hb)), [], .nil, Heap.DictOf.new h⟩
noncomputable def tDNewK : TE := fun _ H Q => ∀ p, H p = none → Q (.ref p) (upd H p (.dK []))
section
variable {X : Cx} {pos : Pos}
theorem pe_dnewK : PE X (.Dict [] [] pos) tDNewK := fun pins s σ H Q I h =>
  wpAny_Dict_empty ⟨.ref s.heap.objs.size, _, I.laid (a := s.heap.objs.size) (o := .dK []) (t' := s.toks) (fun _ _ q => Heap.get?_push_of_some _ q) (Nat.le_refl _) (dk_empty s.heap I.big), rfl, h _ (I.hok.fresh (Nat.le_refl _))⟩
end
noncomputable def tPairs : List (TE × TE) → St → Hp → (List (V × V) → Hp → Prop) → Prop
  | [], _, H, Q => Q [] H
  | (tk, tv) :: r, σ, H, Q => tk σ H fun x H1 => tv σ H1 fun y H2 => tPairs r σ H2 fun ps H3 => Q ((x, y) :: ps) H3
noncomputable abbrev VV : List (V × V) → List (Value × Value) → Prop := Paired fun p q => RelV p.1 q.1 ∧ RelV p.2 q.2
noncomputable def PPs (X : Cx) (pos : Pos) (keys : List (Option Expr)) (values : List Expr) (trs : List (TE × TE)) : Prop :=
  ∀ (pins : List (Addr × Obj)) (s : Shared) (σ : St) (H : Hp) (Q : List (V × V) → Hp → Prop), Inv X pins σ H s → tPairs trs σ H Q →
    wpAny (model X.prog X.w) X.A (evalPairs (pairTrees keys values X.env pos)) (fun vs s' => ∃ ps H', Inv X pins σ H' s' ∧ VV ps vs ∧ Q ps H') X.xe s
theorem pps_nil {X : Cx} {pos : Pos} : PPs X pos [] [] [] := fun pins s σ H Q I h => pairTrees_nil_walk ⟨[], H, I, .nil, h⟩
theorem pps_cons {X : Cx} {pos : Pos} {k v : Expr} {ks : List (Option Expr)} {vs : List Expr} {tk tv : TE} {trs : List (TE × TE)} (hk : PE X k tk) (hv : PE X v tv) (hr : PPs X pos ks vs trs) :
    PPs X pos (some k :: ks) (v :: vs) ((tk, tv) :: trs) := fun pins s σ H Q I h =>
  pairTrees_cons_walk (thn (hk pins s σ H _ I h) fun u s1 ⟨x, H1, I1, rx, q1⟩ => thn (hv pins s1 σ H1 _ I1 q1) fun w2 s2 ⟨y, H2, I2, ry, q2⟩ =>
    thn (hr pins s2 σ H2 _ I2 q2) fun ws s3 ⟨ps, H3, I3, rel, q3⟩ => ⟨(x, y) :: ps, H3, I3, .cons ⟨rx, ry⟩ rel, q3⟩)
noncomputable def mergeK (kvs more : List (Key × V)) : List (Key × V) := more.foldl (fun acc kv => putK acc kv.1 kv.2) kvs
theorem KV.merge : ∀ {more : List (Key × V)} {rs : List (Key × Value)} {kvs : List (Key × V)} {vs : List (Key × Value)}, KV more rs → KV kvs vs → KV (mergeK kvs more) (merged vs rs) := by
  intro more rs kvs vs r
  unfold KV at r
  induction r generalizing kvs vs with
  | nil => intro q; exact q
  | @cons p q ps qs h t ih =>
    intro r0
    have e : KV (putK kvs p.1 p.2) (stored vs q.1 q.2) := by
      have := r0.put p.1 h.2
      rw [← h.1]; exact this
    exact ih e
theorem length_mergeK : ∀ (more kvs : List (Key × V)), (mergeK kvs more).length ≤ kvs.length + more.length
  | [], kvs => by show kvs.length ≤ kvs.length + 0; lia
  | p :: r, kvs => by
    have h1 := length_mergeK r (putK kvs p.1 p.2)
    have h2 := length_putK kvs p.1 p.2
    show (mergeK (putK kvs p.1 p.2) r).length ≤ _
    rw [List.length_cons]; lia
theorem carries_of {P : Program} {w : World} : ∀ {kvs : List (Key × V)} {ws : List (Value × Value)}, VV (kvs.map fun kv => (kV kv.1, kv.2)) ws → ∃ rs, Carries (mixKind P w) ws rs ∧ KV kvs rs
  | [], _, r => by rw [List.map_nil] at r; cases r; exact ⟨[], True.intro, .nil⟩
  | p :: kvs, _, r => by
    rw [List.map_cons] at r
    cases r with
    | @cons a b as bs h t =>
      obtain ⟨rs, c, q⟩ := carries_of (P := P) (w := w) t
      obtain ⟨b1, b2⟩ := b
      exact ⟨(p.1, b2) :: rs, ⟨kV_is h.1, rfl, c⟩, .cons ⟨rfl, h.2⟩ q⟩
noncomputable def tDisp (trs : List (TE × TE)) : TE := fun σ H Q => ∀ p, H p = none → tPairs trs σ (upd H p (.dK [])) fun ps H2 => H2 p = some (.dK []) ∧ ∃ kvs : List (Key × V), ps = kvs.map (fun kv => (kV kv.1, kv.2)) ∧ kvs.length ≤ 15 ∧ Q (.ref p) (upd H2 p (.dK (mergeK [] kvs)))
theorem pe_disp {X : Cx} {pos : Pos} {keys : List (Option Expr)} {values : List Expr} {trs : List (TE × TE)} (h : PPs X pos keys values trs) (hall : keys.all (·.isSome) = true) (hl : keys.length = values.length) (h0 : keys ≠ [])
    (h15 : keys.length ≤ 15) : PE X (.Dict keys values pos) (tDisp trs) := by
  intro pins s σ H Q I q
  have hn := I.hok.fresh (Nat.le_refl s.heap.objs.size)
  have I1 := I.laid (a := s.heap.objs.size) (o := .dK []) (h' := s.heap.push { cls := .type "dict", data := .dict #[] }) (t' := s.toks) (fun _ _ q => Heap.get?_push_of_some _ q) (Nat.le_refl _) (dk_empty s.heap I.big)
  refine wpAny_Dict_walk (knd := mixKind X.prog X.w) hall hl h0 h15 (thn (h pins _ σ _ _ I1 (q _ hn)) fun ws s2 ⟨ps, H2, I2, rel, e, kvs, ep, lk, q2⟩ => ?_)
  subst ep
  obtain ⟨rs, c, rk⟩ := carries_of (P := X.prog) (w := X.w) rel
  obtain ⟨z, hd, vs0, r0, dd⟩ := dk_of I2.hok e
  cases r0
  refine ⟨rs, c, dd, fun h' dd' hs => ⟨.ref s.heap.objs.size, _, ?_, rfl, q2⟩⟩
  have hz : (mergeK [] kvs).length ≤ sizeLine := by
    have h1 := length_mergeK kvs []
    rw [List.length_nil] at h1
    rw [sizeLine_eq]; lia
  have he : ∃ q, h'.get? s.heap.objs.size = some q := let ⟨q, _, _, hq, _⟩ := dd'; ⟨q, hq⟩
  exact d_write I2 (by rw [e]; exact True.intro) hs he (dk_new hz hd (rk.merge .nil) dd')
end L2
namespace Att
open PySem PySem.W PySem.Calls PyProof.Rows
theorem ints_of_wellAll {P : Params} {h : Heap} : ∀ (ns : List Int) (vs : List Value), WellAll P h vs (ns.map WData.int) → IntsAre vs ns := by
  intro ns
  induction ns with
  | nil =>
    intro vs w
    rw [List.map_nil] at w
    cases w
    exact .nil
  | cons n ns ih =>
    intro vs w
    rw [List.map_cons] at w
    cases w with
    | cons a b =>
      cases a
      exact .cons _ _ (ih _ b)
theorem script_of {l : OpenLaw} {n : Nat} (hn : l.most = some n) {P : Params} {h : Heap} {args : List WData} {vals : List Value}
    (hpre : l.row.toRowW.claim.pre args = true) (hwl : WellAll P h vals args) :
    ∃ a vs ns, vals = [Value.ref a] ∧ args = [WData.list (ns.map WData.int)] ∧ h.get? a = some { cls := .type "list", data := .seq vs.toArray } ∧ IntsAre vs ns ∧ ns.length ≤ n := by
  have hsh : WShape.hasAll [] args [.list .int] = true := (pre_splitW hpre).1
  have hc : l.pre.holds [] { args := args } = true := (pre_splitW hpre).2
  obtain ⟨d, r, rfl, h1, h2⟩ := hasAllW_cons hsh
  obtain rfl := hasAllW_nil h2
  obtain ⟨xs, rfl, h3⟩ := hasW_list h1
  obtain ⟨ns, rfl⟩ := items_int h3
  have hlen : ns.length ≤ n := by
    unfold OpenLaw.pre at hc
    have h4 : (WTm.not (.lt (.lit (.int (n : Int))) (.len (.arg 0)))).holds [] { args := [.list (ns.map .int)] } = true := by
      have h4 := (holds_andW hc).1
      rw [hn] at h4
      exact h4
    have h5 := condW_of h4 (w_not (w_lt w_lit (w_len_list (w_arg rfl))))
    rw [List.length_map] at h5
    refine Nat.le_of_not_lt fun q => ?_
    have q' : (n : Int) < ((ns.length : Nat) : Int) := by lia
    first
      | (rw [decide_eq_true q'] at h5; exact absurd h5 (by decide))
      | (simp at h5; lia)
  cases hwl with
  | cons w1 w2 =>
    cases w2
    cases w1 with
    | list ho hall => exact ⟨_, _, ns, rfl, rfl, ho, ints_of_wellAll ns _ hall, hlen⟩
theorem post_true (l : OpenLaw) (args : List WData) : l.row.toRowW.claim.post args (.bool true) args = true :=
  postW_of (r := l.row.toRowW) (X := (true == true))
    (show WShape.has [] (.bool true) .bool = true by first | rfl | decide | simp [WShape.has, WShape.arms, WShape.armsAll])
    (show (WTm.eq .res (.lit (.bool true))).value [] { args := args, res := some (.bool true), after := args } = some (.bool (true == true)) from w_eq_bool (w_res rfl) w_lit) rfl
theorem attach_call {l : OpenLaw} {n : Nat} {q : Program} {loose : List Str} {XP : (Str → Option Value) → Heap → Prop} {YP : World → Heap → Prop} {d : DefRec}
    (hn : l.most = some n) (hdf : d.params.defaults = [])
    (call : ∀ (w : World) (s₀ s₁ : Shared) (mg mb : Str → Option Value) (fa : Addr) (o : Obj) (pm cd doc : Value) (a : Addr) (vs : List Value) (ns : List Int),
      Ground q loose [] XP w s₀ mg mb s₁.heap → YP w s₁.heap →
      s₁.heap.get? fa = some o → o.data = .func (docDef d.name d.params d.body d.scope pm cd doc) → s₁.heap.CodeRec cd d.name → mg d.name = some (.ref fa) →
      s₁.heap.get? a = some { cls := .type "list", data := .seq vs.toArray } → IntsAre vs ns → ns.length ≤ n → s₁.gens = #[] →
      codeAny (model l.prog w) callerA (.call (.ref fa) ⟨[.ref a], []⟩) (fun r s' => r = .ok (.ret (.bool true)) ∧ OldK s₁.heap s'.heap ∧ s'.os = s₁.os ∧ AllBare s'.gens) s₁) :
    WalkO q loose XP YP l.row.toRowW d [] (fun f vs => PySem.call f vs) := by
  intro w s₀ s₁ mg mb G Y fa o pm cd doc dV kV ho hd hcd hD hmg hg args vals as hpre hlay hrd hwl hlo
  obtain rfl : dV = .none := Dflts.none hD hdf
  obtain rfl : kV = .none := Dflts.noKw hD
  obtain ⟨a, vs, ns, rfl, rfl, hobj, hints, hlen⟩ := script_of hn hpre hwl
  refine enter_call (codeAny_mono (call w s₀ s₁ mg mb fa o pm cd doc a vs ns G Y ho (fd_plain hd) hcd hmg hobj hints hlen hg) fun r s' hq => ?_)
  obtain ⟨rfl, h2, h3, h4⟩ := hq
  exact ⟨.inl ⟨.bool true, .bool true, [], rfl, fun _ => rfl, .bool true, post_true l _, fun _ => ⟨List.Pairwise.nil, fun _ hm => (nomatch hm)⟩⟩, h2, h3, h4⟩
end Att
namespace L2
open PySem PySem.Spec PyProof.Rows
theorem vals_ints : ∀ {vs : List Value} {ns : List Int}, IntsAre vs ns → Vals (ns.map V.int) vs
  | _, _, .nil => .nil
  | _, _, .cons n t h => .cons ⟨t, rfl⟩ (vals_ints h)
noncomputable def Only (H : Hp) : Prop := ∀ b, H b = none ∨ ∃ o xs, H b = some (.frz o (.lst xs))
theorem law_call {P : Program} {w : World} {K : PySem.W.Frag} {mg mb : Str → Option Value} {CX : CXT} {k : Nat} {fa a : Addr} {fd : FuncData} {x : Str} {sp : Sp} {s₁ : Shared} {vs : List Value} {ns : List Int}
    (KX : K.In s₁.heap) (hns : s₁.heap.Ns mainGlobals mg) (hb : s₁.heap.Ns builtinsNs mb) (hbb : ∀ x : Str, x ≠ "__name__" → mb x = bootBuiltins x) (hlim : s₁.heap.NoLimit) (hg : s₁.gens = #[])
    (ha : s₁.heap.get? a = some { cls := .type "list", data := .seq vs.toArray }) (hi : IntsAre vs ns) (hl : ns.length ≤ sizeLine) (hr : Room k callerA)
    (F : ∀ base : Heap, K.In base → base.Ns mainGlobals mg → FnOk P w K mg base CX k fa fd [x] sp) (hbind : ∀ (s : Shared) (u : Value), BindsTo s fd ⟨[u], []⟩ [(x, u)])
    (hsp : ∀ H : Hp, Only H → SqL K H a (ns.map V.int) → sp [.ref a] H (fun v _ => v = .bl true) fun _ _ _ => False)
    (hCX : ∀ H e s', CX [] H s₁ (fun _ _ _ => False) e s' → False) :
    codeAny (model P w) callerA (.call (.ref fa) ⟨[.ref a], []⟩) (fun r s' => r = .ok (.ret (.bool true)) ∧ OldK s₁.heap s'.heap ∧ s'.os = s₁.os ∧ AllBare s'.gens) s₁ := by
  have rv := vals_ints hi
  have lenV := hi.length
  -- from an abstract heap in which nothing but the script may be tracked
  have core : ∀ H : Hp, Only H → SqL K H a (ns.map V.int) → HOk P w H s₁.heap → (∀ b, H b ≠ none → b = a) → (H a ≠ none → K.lookup a = none) →
      codeAny (model P w) callerA (.call (.ref fa) ⟨[.ref a], []⟩) (fun r s' => r = .ok (.ret (.bool true)) ∧ OldK s₁.heap s'.heap ∧ s'.os = s₁.os ∧ AllBare s'.gens) s₁ := by
    intro H hO hS hok hA hK
    have base_of : ∀ {b : Addr} {o : Obj}, s₁.heap.get? b = some o → H b = none → (hidT s₁.heap H).get? b = some o := fun e n => hidT_get e n
    have noA : ∀ {b : Addr} {o : Obj} {es : Array DictEntry} {ep : Nat}, s₁.heap.get? b = some o → o.data = .dict es ep → H b = none := fun {b o es ep} e d => by
      cases q : H b with
      | none => rfl
      | some u =>
        have e' : b = a := hA b (by rw [q]; simp)
        subst e'
        rw [ha] at e; cases e
        have d' : Data.seq vs.toArray _ = Data.dict es ep := d
        cases d'
    have nsK : ∀ {b : Addr} {m : Str → Option Value}, s₁.heap.Ns b m → (hidT s₁.heap H).Ns b m := fun {b m} ⟨o, es, ep, e, d, r⟩ => ⟨o, es, ep, base_of e (noA e d), d, r⟩
    have hKb : K.In (hidT s₁.heap H) := fun b o e => base_of (KX b o e) (by
      cases q : H b with
      | none => rfl
      | some u =>
        have e' : b = a := hA b (by rw [q]; simp)
        subst e'
        rw [hK (by rw [q]; simp)] at e; cases e)
    have hM : Mod K mg (hidT s₁.heap H) := ⟨hKb, nsK hns, ⟨mb, nsK hb, hbb⟩, let ⟨mc, h1, h2⟩ := hlim; ⟨mc, nsK h1, h2⟩⟩
    have e0 : Env0 P w K mg (hidT s₁.heap H) callerA [] s₁ H := ⟨rfl, hM, fun b o e => of_hidT e, Nat.le_of_eq (hidT_size _ _), trivial, fun b hb => absurd (show b ∈ ([] : List Addr) from hb) (by simp), hok, .of_eq hg⟩
    refine codeAny_mono ((F _ hKb (nsK hns)).run callerA [] s₁ H ⟨[.ref a], []⟩ [.ref a] [.ref a] _ _ hr e0 (hbind s₁ (.ref a)) (.cons rfl .nil) (hsp H hO hS)) fun r s' h => ?_
    cases r with
    | error e => exact (hCX H e s' h).elim
    | ok fl =>
      cases fl with
      | next => exact False.elim h
      | brk => exact False.elim h
      | cont => exact False.elim h
      | ret u =>
        obtain ⟨v, H', os, bare, un, hok', r', q⟩ := h
        have q' : v = .bl true := q
        subst q'
        obtain rfl : u = Value.bool true := r'
        refine ⟨rfl, OldK.of_keep fun b o e => ?_, os, bare⟩
        cases q : H b with
        | none => exact un.keep b o e q (by intro z; exact absurd (show b ∈ ([] : List Addr) from z) (by simp)) (by simp)
        | some u =>
          rcases hO b with z | ⟨ob, xs, z⟩
          · rw [q] at z; cases z
          · have z2 := un.frzs b ob _ z
            obtain ⟨e1, _⟩ := hok b _ z
            obtain ⟨e2, _⟩ := hok' b _ z2
            rw [e] at e1; cases e1
            exact e2
  cases hk : K.lookup a with
  | some o =>
    -- the script is one of the module's own objects
    have e := KX a o hk
    rw [ha] at e
    cases e
    refine core (fun _ => none) (fun _ => .inl rfl) (.inr ⟨_, vs.toArray, _, hk, rfl, rfl, rfl, by rw [List.size_toArray, lenV]; exact hl, by simpa using rv⟩) (fun b u z => by have z' : (none : Option HO) = some u := z; cases z') (fun b z => absurd rfl z) fun z => absurd rfl z
  | none =>
    refine core (fun b => if b = a then some (.frz { cls := .type "list", data := .seq vs.toArray } (.lst (ns.map V.int))) else none) (fun b => ?_) (.inl (.inr ⟨{ cls := .type "list", data := .seq vs.toArray }, if_pos rfl⟩)) (fun b u z => ?_) (fun b z => ?_) fun _ => hk
    · by_cases hb : b = a
      · exact .inr ⟨_, _, if_pos hb⟩
      · exact .inl (if_neg hb)
    · by_cases hb : b = a
      · have z' := (if_pos hb).symm.trans z
        cases z'
        subst hb
        exact ⟨ha, by rw [List.length_map]; exact hl, vs, _, rv, ha⟩
      · have z' := (if_neg hb).symm.trans z
        cases z'
    · by_cases hb : b = a
      · exact hb
      · exact absurd (if_neg hb) z
end L2
namespace L2
open PySem PySem.Spec PyProof.Rows
theorem walk_of {l : PySem.W.OpenLaw} {n k : Nat} {q : Program} {loose : List Str} {XP : (Str → Option Value) → Heap → Prop} {YP : World → Heap → Prop} {d : DefRec} {K : Params → PySem.W.Frag} {CX : World → CXT} {sp : World → Sp} {x : Str}
    (hn : l.most = some n) (hn2 : n ≤ sizeLine) (hdf : d.params.defaults = []) (hr : Room k callerA)
    (hY : ∀ (w : World) (h : Heap), YP w h → (K w.params).In h)
    (F : ∀ (w : World) (mg : Str → Option Value) (fa : Addr) (h : Heap), (K w.params).In h → h.Ns mainGlobals mg → mg d.name = some (.ref fa) →
      ∃ fd : FuncData, (∀ (s : Shared) (u : Value), BindsTo s fd ⟨[u], []⟩ [(x, u)]) ∧
        ∀ base : Heap, (K w.params).In base → base.Ns mainGlobals mg → FnOk l.prog w (K w.params) mg base (CX w) k fa fd [x] (sp w))
    (hsp : ∀ (w : World) (H : Hp) (a : Addr) (ns : List Int), ns.length ≤ n → Only H → SqL (K w.params) H a (ns.map V.int) → sp w [.ref a] H (fun v _ => v = .bl true) fun _ _ _ => False)
    (hCX : ∀ (w : World) (H : Hp) (s : Shared) (e : Value) (s' : Shared), CX w [] H s (fun _ _ _ => False) e s' → False) :
    PySem.W.WalkO q loose XP YP l.row.toRowW d [] (fun f vs => PySem.call f vs) := by
  refine Att.attach_call hn hdf fun w s₀ s₁ mg mb fa o pm cd doc a vs ns G Y ho hd hcd hmg hobj hints hlen hg => ?_
  have KX := hY w _ Y
  obtain ⟨fd, hb, hF⟩ := F w mg fa _ KX G.T.g hmg
  exact law_call KX G.T.g G.T.b G.T.builtins G.T.nolimit hg hobj hints (Nat.le_trans hlen hn2) hr hF hb (fun H hO hS => hsp w H a ns hlen hO hS) fun H e s' => hCX w H s₁ e s'
end L2
namespace L2
open PySem PySem.Spec PyProof.Rows
noncomputable def inClass (s : Stmt) (j : Nat) : Stmt := match s with
  | .ClassDef _ _ _ body _ _ _ _ _ _ _ => body.getD j (.Pass ⟨0, 0, 0, 0⟩)
  | _ => .Pass ⟨0, 0, 0, 0⟩
noncomputable def defArgs (s : Stmt) : Arguments := match s with
  | .FunctionDef _ a _ _ _ _ _ _ _ _ => a
  | _ => { posonlyargs := [], args := [], vararg := none, kwonlyargs := [], kw_defaults := [], kwarg := none, defaults := [] }
noncomputable def defBody (s : Stmt) : List Stmt := match s with
  | .FunctionDef _ _ b _ _ _ _ _ _ _ => b
  | _ => []
noncomputable def defScope (s : Stmt) : Scope := match s with
  | .FunctionDef _ _ _ _ _ _ sc _ _ _ => sc
  | _ => { kind := .function, names := [], isGenerator := false, isCoroutine := false }
noncomputable abbrev CX0 : CXT := fun _ _ _ _ _ _ => False
noncomputable abbrev E0 : XK := fun _ _ _ => False
theorem pass0 {X : Cx} : Passes CX0 X E0 := fun _ _ _ _ _ _ _ h => h.elim
structure Fun (K : PySem.W.Frag) (x qual : Str) (st : Stmt) (f : Addr) (fd : FuncData) : Prop where
  ex : ∃ (oc : Value) (od : Option Addr) (kV doc pm : Value) (an : Option Addr) (cdv ct : Value) (osl : Array (Option Value)),
    fd = PySem.W.fnOf x qual (defArgs st) (defBody st) (defScope st) .none kV doc pm an cdv ct ∧ K.lookup f = some ⟨oc, od, .func fd, osl⟩ ∧ PySem.W.codeIn K cdv qual = true
  kp : PySem.W.keepIn K (.ref f) = true
section
variable {P : Program} {w : World} {K : PySem.W.Frag} {mg : Str → Option Value} {base : Heap}
theorem Fun.ok {x qual : Str} {st : Stmt} {f : Addr} {fd : FuncData} {N ps : List Str} {k : Nat} {sp : Sp} (F : Fun K x qual st f fd) (S : FnScope N ps (defScope st)) (len : ∀ vs H Q E, sp vs H Q E → vs.length = ps.length)
    (hbody : ∀ (cdv : Value) (A : Around) (outer : List Env) (s : Shared) (H : Hp) (vs : List V) (Q : VK) (E : XK), Room k (A.deeper (envOfC qual (defScope st) s.heap.objs.size f cdv)) → sp vs H Q E →
      ∃ t, PSs (cxOf CX0 P w K mg base N qual (defScope st) f cdv A outer s H E).nox (defBody st) t ∧ t { nx := fun _ H' => Q .non H', rt := Q } (start N vs) H) : FnOk P w K mg base CX0 (k + 1) f fd ps sp := by
  obtain ⟨oc, od, kV, doc, pm, an, cdv, ct, osl, rfl, lk, hcd⟩ := F.ex
  refine fn_of lk hcd S len fun A outer s H vs Q E hr hsp => ?_
  obtain ⟨t, h, q⟩ := hbody cdv A outer s H vs Q E hr hsp
  exact ⟨t, h.nox, q⟩
theorem Fun.binds {x qual : Str} {st : Stmt} {f : Addr} {fd : FuncData} {ps : List Str} (F : Fun K x qual st f fd)
    (h : ∀ (kV doc pm : Value) (an : Option Addr) (cdv ct : Value) (us : List Value), us.length = ps.length → bindArgs (PySem.W.fnOf x qual (defArgs st) (defBody st) (defScope st) .none kV doc pm an cdv ct) ⟨us, []⟩ = pure (ps.zip us)) : Binds K fd ps [] := by
  obtain ⟨oc, od, kV, doc, pm, an, cdv, ct, osl, rfl, lk, hcd⟩ := F.ex
  exact .all (h kV doc pm an cdv ct)
theorem fun_mk {x qual : Str} {st : Stmt} {f : Addr} {oc : Value} {od an : Option Addr} {osl : Array (Option Value)} {kV doc pm cdv ct : Value} (l : K.lookup f = some ⟨oc, od, .func (PySem.W.fnOf x qual (defArgs st) (defBody st) (defScope st) .none kV doc pm an cdv ct), osl⟩)
    (c : PySem.W.codeIn K cdv qual = true) (k : PySem.W.keepIn K (.ref f) = true) : Fun K x qual st f (PySem.W.fnOf x qual (defArgs st) (defBody st) (defScope st) .none kV doc pm an cdv ct) := ⟨⟨oc, od, kV, doc, pm, an, cdv, ct, osl, rfl, l, c⟩, k⟩
end
theorem hu_of {A : Around} {k : Nat} (hr : Room k A) : A.units + 1 < cLine := Nat.lt_of_le_of_lt (Nat.add_le_add_left (by decide : 1 ≤ 64) _) hr.units
section
variable {X : Cx}
theorem pv (i : Nat) {x : Str} {pos : Pos} (hN : X.N[i]? = some x := by rfl) (hv : Vis X.env.scope x := by first | exact Or.inl rfl | exact Or.inr (Or.inl rfl) | exact Or.inr (Or.inr rfl)) (hd : (x == ("__debug__" : Str)) = false := by decide)
    (hcd : (x == ("__classdict__" : Str)) = false := by decide) : PE X (.Name x pos) (tVar i) := pe_var hN hv hd hcd
theorem call_lenD : CallR X (.builtin "len") (fun xs H Q => ∃ a kvs, xs = [V.ref a] ∧ H a = some (.dK kvs) ∧ Q (.int kvs.length) H) := by
  intro pins s σ H xs us Q I r h
  obtain ⟨a, kvs, rfl, ha, q⟩ := h
  obtain ⟨u, rfl, ru⟩ := vals1 r
  cases ru
  exact d_len I (.inl ha) fun t s' I' => ⟨.int kvs.length, H, I', ⟨t, rfl⟩, q⟩
end
theorem iteF {A B : Prop} (h : B) : if false = true then A else B := by
  rw [if_neg Bool.false_ne_true]
  exact h
theorem iteT {A B : Prop} (h : A) : if true = true then A else B := by
  rw [if_pos rfl]
  exact h
theorem ite2 {c A B : Prop} [Decidable c] (h1 : c → A) (h2 : ¬ c → B) : if c then A else B := by
  by_cases h : c
  · rw [if_pos h]
    exact h1 h
  · rw [if_neg h]
    exact h2 h
theorem iteNS {c A B : Prop} [Decidable c] (hc : c) (h : B) : if (!decide c) = true then A else B := by
  rw [decide_eq_true hc]
  exact iteF h
noncomputable def Same (H H' : Hp) : Prop := ∀ b o, H b = some o → H' b = some o
theorem Same.refl (H : Hp) : Same H H := fun _ _ h => h
theorem Same.trans {H H1 H2 : Hp} (a : Same H H1) (b : Same H1 H2) : Same H H2 := fun c o h => b c o (a c o h)
theorem Same.free {H H' : Hp} (e : Same H H') {l : Addr} (h : H' l = Option.none) : H l = Option.none := by
  cases q : H l with
  | none => rfl
  | some o =>
    rw [e l o q] at h
    cases h
theorem Same.seq {K : PySem.W.Frag} {H H' : Hp} {a : Addr} {xs : List V} (e : Same H H') (h : SqL K H a xs) : SqL K H' a xs := by
  rcases h with (h | ⟨o, h⟩) | h
  · exact .inl (.inl (e _ _ h))
  · exact .inl (.inr ⟨o, e _ _ h⟩)
  · exact .inr h
section
variable {κ : Type} [DecidableEq κ]
theorem valV_in {kvs : List (κ × V)} {k : κ} {v : V} (h : valV kvs k = some v) : k ∈ kvs.map (·.1) := by
  have q : (kvs.any fun kv => decide (kv.1 = k)) = true := by
    rw [valV_any, h]
    all_goals rfl
  obtain ⟨p, hp, e⟩ := List.any_eq_true.mp q
  exact List.mem_map.mpr ⟨p, hp, of_decide_eq_true e⟩
end
end L2
namespace L2
open PySem PySem.Spec PyProof.Rows
noncomputable def clos (cells : List (Str × Addr)) : List (Str × NameKind) → List (Str × Addr) → List (Str × Addr)
  | [], cs => cs
  | (n, k) :: r, cs => clos cells r (if k == NameKind.free then (n, (cells.lookup n).getD 0) :: cs else cs)
theorem clos_go {env : Env} : ∀ (ns : List (Str × NameKind)) (cs : List (Str × Addr)), (∀ y ∈ ns, y.2 = NameKind.free → (env.cells.lookup y.1).isSome = true) →
    (forIn ns cs fun (p : Str × NameKind) (r : List (Str × Addr)) =>
      if (p.2 == NameKind.free) = true then (do let a ← cellOf env p.1; pure (ForInStep.yield ((p.1, a) :: r)) : Sem _) else pure (ForInStep.yield r)) = (pure (clos env.cells ns cs) : Sem _)
  | [], cs, _ => by simp [clos]
  | (n, k) :: r, cs, h => by
    have ih := fun cs' => clos_go r cs' fun y hy => h y (List.mem_cons_of_mem _ hy)
    rw [List.forIn_cons]
    by_cases hk : k = NameKind.free
    · subst hk
      have hs := h (n, NameKind.free) List.mem_cons_self rfl
      cases e : env.cells.lookup n with
      | none => rw [e] at hs; cases hs
      | some c =>
        have e1 : cellOf env n = pure c := by unfold cellOf; rw [e]
        have e2 : clos env.cells ((n, NameKind.free) :: r) cs = clos env.cells r ((n, c) :: cs) := by simp [clos, e]
        rw [e2, ← ih ((n, c) :: cs)]
        (simp only [beq_self_eq_true, if_true])
        rw [e1]
        rfl
    · have hb : (k == NameKind.free) = false := by simpa using hk
      have e2 : clos env.cells ((n, k) :: r) cs = clos env.cells r cs := by simp [clos, hb]
      rw [e2, ← ih cs]
      (simp only [hb, Bool.false_eq_true, if_false])
      rfl
theorem closureFor_is {scope : Scope} {env : Env} (h : ∀ y ∈ scope.names, y.2 = NameKind.free → (env.cells.lookup y.1).isSome = true) : closureFor scope env = pure (clos env.cells scope.names []) := by
  have e := clos_go (env := env) scope.names [] h
  unfold closureFor
  simp only [bind_pure]
  exact e
theorem clos_sub {cells : List (Str × Addr)} {x : Str} {c : Addr} : ∀ {ns : List (Str × NameKind)} {cs : List (Str × Addr)}, (∀ y ∈ ns, y.2 = NameKind.free → (cells.lookup y.1).isSome = true) → (cs.lookup x = some c → cells.lookup x = some c) →
    (clos cells ns cs).lookup x = some c → cells.lookup x = some c
  | [], _, _, h, e => h e
  | (n, k) :: r, cs, hn, h, e => by
    refine clos_sub (ns := r) (fun y hy => hn y (List.mem_cons_of_mem _ hy)) ?_ e
    by_cases hk : k = NameKind.free
    · subst hk
      (simp only [beq_self_eq_true, if_true])
      intro q
      rw [List.lookup_cons] at q
      by_cases hx : x = n
      · subst hx
        have hs := hn (x, NameKind.free) List.mem_cons_self rfl
        simp only [beq_self_eq_true] at q
        cases e1 : cells.lookup x with
        | none => rw [e1] at hs; cases hs
        | some d => rw [e1] at q; exact q
      · have hb : (x == n) = false := by simpa using hx
        rw [hb] at q
        exact h q
    · have hb : (k == NameKind.free) = false := by simpa using hk
      (simp only [hb, Bool.false_eq_true, if_false])
      exact h
theorem clos_keep {cells : List (Str × Addr)} {x : Str} : ∀ {ns : List (Str × NameKind)} {cs : List (Str × Addr)}, (cs.lookup x).isSome = true → ((clos cells ns cs).lookup x).isSome = true
  | [], _, h => h
  | (n, k) :: r, cs, h => by
    refine clos_keep (ns := r) ?_
    split
    · rw [List.lookup_cons]
      split
      · rfl
      · exact h
    · exact h
theorem clos_has {cells : List (Str × Addr)} {x : Str} : ∀ {ns : List (Str × NameKind)} {cs : List (Str × Addr)}, (x, NameKind.free) ∈ ns → ((clos cells ns cs).lookup x).isSome = true
  | [], _, h => nomatch h
  | (n, k) :: r, cs, h => by
    rcases List.mem_cons.mp h with e | e
    · cases e
      refine clos_keep (ns := r) ?_
      simp
    · exact clos_has (ns := r) e
theorem relab_free {env : Env} {x : Str} {k : NameKind} : ∀ {ns : List (Str × NameKind)}, (∀ y ∈ ns, y.2 ≠ NameKind.cell) → k = NameKind.cell ∨ k = NameKind.free →
    (ns.map fun (p : Str × NameKind) => if (p.2 == NameKind.free && env.scope.kind == .function && env.kindOf p.1 == some .cell) then (p.1, NameKind.cell) else (p.1, p.2)).lookup x = some k → (x, NameKind.free) ∈ ns
  | [], _, _, e => by simp at e
  | (n, j) :: r, hn, hk, e => by
    rw [List.map_cons] at e
    by_cases hx : x = n
    · subst hx
      have hj : j = NameKind.free := by
        by_cases hc : (j == NameKind.free && env.scope.kind == .function && env.kindOf x == some .cell) = true
        · simp only [Bool.and_eq_true, beq_iff_eq] at hc
          exact hc.1.1
        · simp only [hc] at e
          simp at e
          subst e
          rcases hk with q | q
          · exact absurd q (hn (x, j) List.mem_cons_self)
          · exact q
      subst hj
      exact List.mem_cons_self
    · refine List.mem_cons_of_mem _ (relab_free (env := env) (fun y hy => hn y (List.mem_cons_of_mem _ hy)) hk ?_)
      by_cases hc : (j == NameKind.free && env.scope.kind == .function && env.kindOf n == some .cell) = true
      · simp only [hc, if_true] at e
        rw [List.lookup_cons] at e
        have hb : (x == n) = false := by simpa using hx
        rw [hb] at e
        exact e
      · simp only [hc] at e
        simp at e
        rw [List.lookup_cons] at e
        have hb : (x == n) = false := by simpa using hx
        rw [hb] at e
        simpa using e
noncomputable def lcCx (X : Cx) (N : List Str) (scope : Scope) (C : Addr) (s : Shared) (H : Hp) (fp : List Addr) : Cx where
  prog := X.prog
  w := X.w
  K := X.K
  mg := X.mg
  base := X.base
  A := X.A
  N := N
  s₀ := s
  H₀ := H
  env := compEnvC scope (clos X.env.cells scope.names []) C X.env
  outer := X.stack
  stack := X.stack
  ex := fp
  fn := fun _ => false
  calm := X.calm
  pn := []
  xe := fun _ _ => False
noncomputable def caps (n : Nat) (js : List Nat) (σ : St) : St := List.replicate n none ++ js.map fun j => (σ[j]?).getD none
structure LcOk (X : Cx) (N : List Str) (sc scope : Scope) (own : List Str) (fr : List Str) (js : List Nat) : Prop where
  around : X.env.scope = sc
  names : N = own ++ fr
  kind : scope.kind = .function
  okind : sc.kind = .function
  nocell : ∀ y ∈ scope.names, y.2 ≠ NameKind.cell
  free : ∀ y ∈ scope.names, y.2 = NameKind.free → sc.names.lookup y.1 = some NameKind.cell
  loc : ∀ y ∈ scope.names, y.2 = NameKind.local → scope.names.lookup y.1 = some NameKind.local
  at' : js.map (fun j => X.N[j]?) = fr.map some
  cap : ∀ x ∈ fr, sc.names.lookup x = some NameKind.cell ∧ scope.names.lookup x = some NameKind.free
theorem relab_cell {env : Env} {x : Str} (hk : env.scope.kind = .function) (hx : env.kindOf x = some NameKind.cell) : ∀ {ns : List (Str × NameKind)}, ns.lookup x = some NameKind.free →
    (ns.map fun (p : Str × NameKind) => if (p.2 == NameKind.free && env.scope.kind == .function && env.kindOf p.1 == some .cell) then (p.1, NameKind.cell) else (p.1, p.2)).lookup x = some NameKind.cell
  | [], e => by simp at e
  | (n, j) :: r, e => by
    rw [List.map_cons]
    rw [List.lookup_cons] at e
    by_cases hn : x = n
    · subst hn
      simp only [beq_self_eq_true] at e
      cases e
      have hc : (NameKind.free == NameKind.free && env.scope.kind == .function && env.kindOf x == some .cell) = true := by rw [hk, hx]; rfl
      simp only [hc, if_true]
      rw [List.lookup_cons]
      simp
    · have hb : (x == n) = false := by simpa using hn
      rw [hb] at e
      have ih := relab_cell hk hx (ns := r) e
      by_cases hc : (j == NameKind.free && env.scope.kind == .function && env.kindOf n == some .cell) = true
      · simp only [hc, if_true]
        rw [List.lookup_cons, hb]
        exact ih
      · rw [if_neg hc, List.lookup_cons, hb]
        exact ih
theorem LcOk.cellAt {X : Cx} {N : List Str} {sc scope : Scope} {own fr : List Str} {js : List Nat} (L : LcOk X N sc scope own fr js) (ok : X.Ok) : ∀ y ∈ scope.names, y.2 = NameKind.free → (X.env.cells.lookup y.1).isSome = true := fun y hy hf => by
  obtain ⟨c, e⟩ := ok.has y.1 (.inl (show X.env.scope.names.lookup y.1 = _ by rw [L.around]; exact L.free y hy hf))
  rw [e]
  rfl
theorem LcOk.sub {X : Cx} {N : List Str} {sc scope : Scope} {own fr : List Str} {js : List Nat} (L : LcOk X N sc scope own fr js) (ok : X.Ok) {x : Str} {c : Addr} (e : (clos X.env.cells scope.names []).lookup x = some c) : X.env.cells.lookup x = some c :=
  clos_sub (L.cellAt ok) (fun z => by simp at z) e
theorem LcOk.len {X : Cx} {N : List Str} {sc scope : Scope} {own fr : List Str} {js : List Nat} (L : LcOk X N sc scope own fr js) : js.length = fr.length := by
  have := congrArg List.length L.at'
  simpa using this
theorem lc_ctx {X : Cx} {N : List Str} {sc scope : Scope} {own fr : List Str} {js : List Nat} {pins : List (Addr × Obj)} {σ : St} {H : Hp} {s : Shared} {fp : List Addr} (L : LcOk X N sc scope own fr js) (I : Inv X pins σ H s) (hf : ∀ b ∈ fp, FpOk X pins H b)
    (ho : ∀ b ∈ fp, b < s.heap.objs.size) {C : Addr} (hC : s.heap.objs.size ≤ C) : (lcCx X N scope C s H fp).Ok where
  mod := I.mod
  kind := L.kind
  glob := I.ok.glob
  blt := I.ok.blt
  above := hC
  inj := fun x y c e1 e2 => I.ok.inj x y c (L.sub I.ok e1) (L.sub I.ok e2)
  has := fun x hx => by
    have hm : (x, NameKind.free) ∈ scope.names := by
      rcases hx with q | q
      · exact relab_free L.nocell (.inl rfl) q
      · exact relab_free L.nocell (.inr rfl) q
    have := clos_has (cells := X.env.cells) (cs := []) hm
    cases e : (clos X.env.cells scope.names []).lookup x with
    | none => rw [e] at this; cases this
    | some c => exact ⟨c, e⟩
  cab := fun _ _ z _ => nomatch z
  hd := I.ok.hd
  frames := I.ok.frames
  stk := .inl rfl
  exf := fun b hb => ⟨Nat.ne_of_lt (Nat.lt_of_lt_of_le (ho b hb) hC), fun x c e => (hf b hb).2.2.2.2.1 x c (L.sub I.ok e)⟩
  bs := I.bs
  bsz := Nat.le_trans I.ok.bsz I.sz
  noex := fun b o e hb => by
    rcases (hf b hb).2.2.2.1 with q | q
    · exact I.ok.noex b o e q
    · exact absurd (Nat.lt_of_lt_of_le (Heap.lt_size (I.ok.bs b o e).1) q) (Nat.lt_irrefl _)
  exfs := fun b hb hs => by
    rcases List.mem_cons.mp (I.stkSub b hs) with q | q
    · exact (hf b hb).2.1 q
    · exact (hf b hb).2.2.1 q
  funs := I.stack
  frf := I.stkFree
theorem getD_none {o : Option (Option V)} {v : V} (h : o.getD none = some v) : o = some (some v) := by
  cases o with
  | none => cases h
  | some u => cases u with
    | none => cases h
    | some w => cases h; rfl
theorem caps_get {n : Nat} {js : List Nat} {σ : St} {i : Nat} {v : V} (e : (caps n js σ)[i]? = some (some v)) : ∃ k j, i = n + k ∧ js[k]? = some j ∧ σ[j]? = some (some v) := by
  unfold caps at e
  by_cases hi : i < n
  · rw [List.getElem?_append_left (by simpa using hi)] at e
    rw [List.getElem?_replicate] at e
    split at e <;> cases e
  · rw [List.getElem?_append_right (by simpa using hi)] at e
    simp only [List.length_replicate, List.getElem?_map] at e
    cases q : js[i - n]? with
    | none => rw [q] at e; cases e
    | some j =>
      rw [q] at e
      exact ⟨i - n, j, by lia, q, getD_none (Option.some.inj e)⟩
theorem lc_start {X : Cx} {N : List Str} {sc scope : Scope} {own fr : List Str} {js : List Nat} {pins : List (Addr × Obj)} {σ : St} {H : Hp} {s : Shared} {fp : List Addr} (L : LcOk X N sc scope own fr js) (I : Inv X pins σ H s) (hf : ∀ b ∈ fp, FpOk X pins H b)
    (ho : ∀ b ∈ fp, b < s.heap.objs.size) {h' : Heap} {m : Str → Option Value} {tk : Nat} (hn : h'.Ns (s.heap.objs.size + 1) m) (hk : ∀ b o, s.heap.get? b = some o → h'.get? b = some o)
    (hl : h'.get? s.heap.objs.size = some { cls := .type "list", data := .seq ([] : List Value).toArray }) :
    Inv (lcCx X N scope (s.heap.objs.size + 1) s H fp) [] (caps own.length js σ) (upd H s.heap.objs.size (.lst [])) { s with heap := h', toks := tk } := by
  have fresh : ∀ a, s.heap.objs.size ≤ a → H a = none := fun a ha => I.hok.fresh ha
  have cellAt : ∀ x c, (clos X.env.cells scope.names []).lookup x = some c → ∃ v, s.heap.IsCell c v := fun x c e => I.cell x c (L.sub I.ok e)
  refine ⟨lc_ctx L I hf ho (Nat.le_succ _), rfl, I.bare, Un.laid hk (Nat.le_refl _) (fresh _ (Nat.le_refl _)), ⟨m, hn, fun i x v e1 e2 e3 => ?_⟩, fun x c e => ?_, ?_, fun x c e => ?_, fun p hp => ?_, I.hok.laid hk (Nat.le_refl _) ?_, ?_⟩
  · obtain ⟨k, j, rfl, hj, hv⟩ := caps_get e2
    have hN : (own ++ fr)[own.length + k]? = some x := by
      have e1' : N[own.length + k]? = some x := e1
      rw [L.names] at e1'
      exact e1'
    rw [List.getElem?_append_right (by lia), Nat.add_sub_cancel_left] at hN
    have hx : x ∈ fr := List.mem_of_getElem? hN
    have hjx : X.N[j]? = some x := by
      have := congrArg (fun l => l[k]?) L.at'
      simp only [List.getElem?_map, hj, hN, Option.map_some] at this
      exact Option.some.inj this
    obtain ⟨kc', kr'⟩ := L.cap x hx
    have kc : X.env.kindOf x = some NameKind.cell := by show X.env.scope.names.lookup x = _; rw [L.around]; exact kc'
    have kr : (relabel scope X.env).names.lookup x = some NameKind.cell := relab_cell (by rw [L.around]; exact L.okind) kc kr'
    obtain ⟨m0, _, hl0⟩ := I.loc
    obtain ⟨u, r, l⟩ := hl0 j x v hjx hv (.inr (.inl kc))
    refine ⟨u, r, .inr ⟨.inl kr, ?_⟩⟩
    rcases l with ⟨kk, _⟩ | ⟨_, c, hc, z⟩
    · rw [kc] at kk; cases kk
    · have hs : ((clos X.env.cells scope.names []).lookup x).isSome = true := clos_has (relab_free L.nocell (.inl rfl) kr)
      cases e : (clos X.env.cells scope.names []).lookup x with
      | none => rw [e] at hs; cases hs
      | some d =>
        have ed := L.sub I.ok e
        rw [hc] at ed
        cases ed
        obtain ⟨o, ho', hd⟩ := z
        exact ⟨c, e, o, hk c o ho', hd⟩
  · obtain ⟨v, o, ho', hd⟩ := cellAt x c e
    exact ⟨v, o, hk c o ho', hd⟩
  · show upd H s.heap.objs.size _ (s.heap.objs.size + 1) = none
    rw [upd_ne (Nat.succ_ne_self _)]
    exact fresh _ (Nat.le_succ _)
  · obtain ⟨v, o, ho', hd⟩ := cellAt x c e
    rw [upd_ne (Nat.ne_of_lt (Heap.lt_size ho'))]
    exact I.freeC x c (L.sub I.ok e)
  · exact nomatch hp
  · exact ⟨Nat.zero_le _, [], 0, .nil, hl⟩
  · show (caps own.length js σ).length = N.length
    rw [L.names]
    simp [caps, L.len]
noncomputable def PIf (X : Cx) (ifs : List Expr) (t : TT) : Prop :=
  ∀ (pins : List (Addr × Obj)) (s : Shared) (σ : St) (H : Hp) (Q : Bool → Hp → Prop), Inv X pins σ H s → t σ H Q →
    wpAny (model X.prog X.w) X.A (forIn ifs true fun c r => if r = true then do let ok ← isTrue c X.env (eval c X.env); pure (ForInStep.yield ok) else pure (ForInStep.yield r)) (TP X pins σ Q) X.xe s
noncomputable def tYes : TT := fun _ H Q => Q true H
theorem pif_nil {X : Cx} : PIf X [] tYes := fun _ _ _ H _ I h => wpAny_tests_nil ⟨H, I, h⟩
theorem pif_one {X : Cx} {c : Expr} {t : TT} (h : PT X c t) : PIf X [c] t := fun pins s σ H Q I q => wpAny_tests_one (h pins s σ H Q I q)
theorem lc_loop {prog : Program} {w : World} {A : Around} {R : Result → Shared → Prop} {s : Shared} {elt tg iter : Expr} {ifs : List Expr} {scope : Scope} {pos : Pos} {it acc : Value} {env : Env} (J : Nat → Shared → Prop)
    (turn : ∀ n s, J n s → wpAny (model prog w) A (pyNext it) (fun r s1 => match r with
      | none => R (.ok .next) s1
      | some v => wpAny (model prog w) A (letOwnedTupleGo tg it v) (fun _ s2 => wpAny (model prog w) A (assign tg env v) (fun _ s3 =>
          wpAny (model prog w) A (forIn ifs true fun c r => if r = true then do let ok ← isTrue c env (eval c env); pure (ForInStep.yield ok) else pure (ForInStep.yield r)) (fun ok s4 =>
            if ok = true then wpAny (model prog w) A (eval elt env) (fun x s5 => wpAny (model prog w) A (call (.builtin "list.append") [acc, x]) (fun _ s6 => ∃ m, m < n ∧ J m s6) (fun _ _ => False) s5) (fun _ _ => False) s4
            else ∃ m, m < n ∧ J m s4) (fun _ _ => False) s3) (fun _ _ => False) s2) (fun _ _ => False) s1) (fun _ _ => False) s)
    (n : Nat) (h : J n s) : codeAny (model prog w) A (.compLoop (.ListComp elt [⟨tg, iter, ifs, 0⟩] scope pos) 0 it acc env) R s := by
  refine codeAny_loop rfl J (fun n s hJ => ?_) n h
  show wpAny _ A ((compTurn (.ListComp elt [⟨tg, iter, ifs, 0⟩] scope pos) 0 it acc env).onRaise (fun x => do noteFrame x env; theTreesLotGoes x)) _ _ s
  refine wpAny_noted ?_
  rw [compTurn_list]
  refine wpAny_bind (wpAny_standAt (wpAny_bind (wpAny_mono (turn n s hJ) (fun r s1 h1 => ?_) fun _ _ f => f.elim)))
  cases r with
  | none => exact wpAny_pure h1
  | some v =>
    refine wpAny_bind (wpAny_mono h1 (fun _ s2 h2 => wpAny_bind (wpAny_mono h2 (fun _ s3 h3 => wpAny_bind (wpAny_mono h3 (fun ok s4 h4 => ?_) fun _ _ f => f.elim)) fun _ _ f => f.elim)) fun _ _ f => f.elim)
    cases ok with
    | false => exact wpAny_pure ⟨rfl, h4⟩
    | true =>
      exact wpAny_bind (wpAny_bind (wpAny_mono h4 (fun x s5 h5 => wpAny_bind (wpAny_mono h5 (fun _ s6 h6 => wpAny_pure (wpAny_pure ⟨rfl, h6⟩)) fun _ _ f => f.elim)) fun _ _ f => f.elim))
noncomputable def tLcB (J : It) (D : Addr) (σ0 : St) (g : TG) (tc : TT) (te : TE) (fin : Hp → Prop) (W : Nat → Nat → List V → Hp → Prop) : Prop :=
  ∀ i m ys H, W i m ys H → (J.stop i H ∧ fin H) ∨ (J.go i H ∧ ∃ N : List V → Hp → Prop, (∀ ys' H', N ys' H' → ∃ m', m' < m ∧ W (i + 1) m' ys' H') ∧
    ∀ x H1, J.yld i H x H1 → g x σ0 H1 fun σ2 H2 => (σ2.length = σ0.length ∧ ∀ (i : Nat) v, σ0[i]? = some (some v) → σ2[i]? = some (some v)) ∧
      tc σ2 H2 fun b H3 => if b = true then te σ2 H3 fun y H4 => ∃ zs, H4 D = some (.lst zs) ∧ zs.length < sizeLine ∧ N (zs ++ [y]) (upd H4 D (.lst (zs ++ [y]))) else N ys H3)
theorem lc_block {X : Cx} {N : List Str} {sc scope : Scope} {own fr : List Str} {js : List Nat} {pins : List (Addr × Obj)} {σ : St} {H : Hp} {s : Shared} {fp : List Addr} {tg iter elt : Expr} {ifs : List Expr} {pos : Pos} {J : It} {it : Addr} {tn : Nat → Heap → Prop}
    {g : TG} {tc : TT} {te : TE} {RR : Value → Addr → Result → Shared → Prop} {E : Value → Shared → Prop} {fin : Addr → Hp → Prop}
    (L : LcOk X N sc scope own fr js) (hc : X.calm = true) (I : Inv X pins σ H s) (T : Turn X.prog X.w X.K tg J fp it tn) (st : tn 0 s.heap) (hf : ∀ b ∈ fp, FpOk X pins H b)
    (hg : ∀ C s H fp, PG (lcCx X N scope C s H fp) tg g) (hi : ∀ C s H fp, PIf (lcCx X N scope C s H fp) ifs tc) (he : ∀ C s H fp, PE (lcCx X N scope C s H fp) elt te)
    (h : ∀ D, H D = none → ∃ W : Nat → Nat → List V → Hp → Prop, (∃ m, W 0 m [] (upd H D (.lst []))) ∧ tLcB J D (caps own.length js σ) g tc te (fin D) W)
    (hRR : ∀ D C s' H', (∃ m, s'.heap.Ns C m) → Inv X pins σ H' s' → FpOk X pins H' C → fin D H' → RR (.ref D) C (.ok .next) s') :
    wpAny (model X.prog X.w) X.A (newList []) (fun acc s3 => wpAny (model X.prog X.w) X.A (newFunctionEnv scope X.env.globals (clos X.env.cells scope.names []) [] X.env.qual none .none (some X.env)) (fun cenv s4 =>
      codeAny (model X.prog X.w) X.A (.compStart (.ListComp elt [⟨tg, iter, ifs, 0⟩] scope pos) 0 (.ref it) acc { cenv with scope := relabel scope X.env }) (RR acc cenv.locals) s4) E s3) E s := by
  have hlt : ∀ b ∈ fp, b < s.heap.objs.size := fun b hb => by
    obtain ⟨o, e, _⟩ := T.obj 0 _ st b hb
    exact Heap.lt_size e
  refine wpAny_newObj_type (wpAny_newFunctionEnv L.nocell (fun _ z => nomatch z) (fun h1 n1 b1 => ?_) L.kind)
  dsimp only at n1 b1 ⊢
  have hsz : (s.heap.push { cls := .type "list", dict := none, data := .seq ([] : List Value).toArray }).objs.size = s.heap.objs.size + 1 := Heap.size_push ..
  rw [hsz] at n1 b1
  rw [hsz]
  have kept : ∀ b o, s.heap.get? b = some o → h1.get? b = some o := fun b o e => b1.extBut b o (Nat.ne_of_lt (Nat.lt_succ_of_lt (Heap.lt_size e))) (Heap.get?_push_of_some _ (Heap.get?_push_of_some _ e))
  have isl : h1.get? s.heap.objs.size = some { cls := .type "list", data := .seq ([] : List Value).toArray } := b1.extBut _ _ (Nat.ne_of_lt (Nat.lt_succ_self _)) (Heap.get?_push_of_some _ (Heap.get?_push_size _ rfl))
  have IY := lc_start (tk := s.toks + ([] : List (Str × Value)).length) L I hf hlt n1 kept isl
  have fresh : H s.heap.objs.size = none := I.hok.fresh (Nat.le_refl _)
  obtain ⟨W, ⟨m0, w0⟩, turn⟩ := h s.heap.objs.size fresh
  -- the iterator's records through the loop
  have stat : ∀ {H' : Hp}, (∀ b ∈ fp, H' b = none) → ∀ b ∈ fp, FpOk (lcCx X N scope (s.heap.objs.size + 1) s H fp) [] H' b := fun hn b hb =>
    ⟨hn b hb, Nat.ne_of_lt (Nat.lt_succ_of_lt (hlt b hb)), fun z => by
      rcases List.mem_cons.mp (I.stkSub b z) with q | q
      · exact (hf b hb).2.1 q
      · exact (hf b hb).2.2.1 q, .inl hb, fun x c e => (hf b hb).2.2.2.2.1 x c (L.sub I.ok e), fun _ z => nomatch z⟩
  have st1 : tn 0 h1 := T.keep 0 _ _ st fun b _ o e => kept b o e
  have loop : ∀ s2 : Shared, s2 = { s with heap := h1, toks := s.toks + ([] : List (Str × Value)).length } →
      codeAny (model X.prog X.w) X.A (.compLoop (.ListComp elt [⟨tg, iter, ifs, 0⟩] scope pos) 0 (.ref it) (.ref s.heap.objs.size) (lcCx X N scope (s.heap.objs.size + 1) s H fp).env) (RR (.ref s.heap.objs.size) (s.heap.objs.size + 1)) s2 := by
    rintro s2 rfl
    refine lc_loop (fun n s' => ∃ i ys H', Inv (lcCx X N scope (s.heap.objs.size + 1) s H fp) [] (caps own.length js σ) H' s' ∧ tn i s'.heap ∧ (∀ b ∈ fp, H' b = none) ∧ W i n ys H') ?_ m0
      ⟨0, [], _, IY, st1, fun b hb => by rw [upd_ne (Nat.ne_of_lt (hlt b hb))]; exact (hf b hb).1, w0⟩
    rintro n s3 ⟨i, ys, H3, I3, st3, fr3, w3⟩
    rcases turn i n ys H3 w3 with ⟨stop, qn⟩ | ⟨go, Nx, hN, step⟩
    · refine thn (T.done (lcCx X N scope (s.heap.objs.size + 1) s H fp) rfl rfl rfl hc i [] s3 _ H3 _ I3 (stat fr3) st3 stop) fun r s4 ⟨hr, I4⟩ => ?_
      subst hr
      have IX : Inv X pins σ H3 s4 := I.call' (ch := fp) I4.os I4.base I4.hok I4.bare fun b hb => ⟨(hf b hb).2.2.2.1, (hf b hb).2.1, (hf b hb).2.2.2.2.1, (hf b hb).2.2.2.2.2⟩
      obtain ⟨m, hm, _⟩ := I4.loc
      exact hRR _ _ s4 H3 ⟨m, hm⟩ IX (I.fpOk (Nat.le_succ _) I4.free) qn
    · refine thn (T.item (lcCx X N scope (s.heap.objs.size + 1) s H fp) rfl rfl rfl hc i [] s3 _ H3 _ I3 (stat fr3) st3 go) fun r s4 ⟨u, hr, h4⟩ => ?_
      subst hr
      refine thn h4 fun _ s5 ⟨x, H5, I5, r5, y5, st5, fr5⟩ => ?_
      have I5' := I5.pinned (stat fr5) (T.obj _ _ st5)
      refine thn (hg _ _ _ _ _ s5 _ H5 x u _ I5' r5 (step x H5 y5)) fun _ s6 ⟨σ6, H6, I6, ⟨hl6, hs6⟩, q6⟩ => ?_
      have next : ∀ {s7 : Shared} {H7 : Hp} {zs : List V}, Inv (lcCx X N scope (s.heap.objs.size + 1) s H fp) ([] ++ pinsAt fp s5.heap) σ6 H7 s7 → Nx zs H7 →
          ∃ m, m < n ∧ ∃ i ys H', Inv (lcCx X N scope (s.heap.objs.size + 1) s H fp) [] (caps own.length js σ) H' s7 ∧ tn i s7.heap ∧ (∀ b ∈ fp, H' b = none) ∧ W i m ys H' := fun {s7 H7 zs} I7 n7 => by
        obtain ⟨m', hm, w7⟩ := hN zs H7 n7
        refine ⟨m', hm, i + 1, zs, H7, I7.unpinned.weak hl6.symm hs6, T.keep _ _ _ st5 fun b hb o e => (I7.pin (b, o) (List.mem_append_right _ (List.mem_append_right _ (mem_pinsAt hb e)))).1, fun b hb => ?_, w7⟩
        obtain ⟨o, e, d⟩ := T.obj _ _ st5 b hb
        exact (I7.pin (b, o) (List.mem_append_right _ (List.mem_append_right _ (mem_pinsAt hb e)))).2.1
      refine thn (hi _ _ _ _ _ s6 σ6 H6 _ I6 q6) fun ok s7 ⟨H7, I7, q7⟩ => ?_
      cases ok with
      | false =>
        rw [if_neg Bool.false_ne_true] at q7
        exact next I7 q7
      | true =>
        rw [if_pos rfl] at q7
        rw [if_pos rfl]
        refine thn (he _ _ _ _ _ s7 σ6 H7 _ I7 q7) fun y s8 ⟨v8, H8, I8, r8, zs, hz, hzl, q8⟩ => ?_
        refine thn (mt_append _ s8 σ6 H8 (.ref s.heap.objs.size) [v8] _ [y] (fun _ H9 => Nx (zs ++ [v8]) H9) I8 rfl (.cons r8 .nil) ⟨_, zs, v8, rfl, rfl, hz, hzl, q8⟩) fun _ s9 ⟨_, H9, I9, _, q9⟩ => ?_
        exact next I9 q9
  exact codeAny_compStart_list (loop _ rfl) (T.self X.A 0 _ _ _ st1 (loop _ rfl))
noncomputable def tLc (wi : TI) (n : Nat) (js : List Nat) (g : TG) (tc : TT) (te : TE) : TE := fun σ H Q => wi σ H fun J H1 => ∀ D, H1 D = none →
  ∃ W : Nat → Nat → List V → Hp → Prop, (∃ m, W 0 m [] (upd H1 D (.lst []))) ∧ tLcB J D (caps n js σ) g tc te (fun H2 => Q (.ref D) H2) W
theorem pe_lc {X : Cx} {N : List Str} {sc scope : Scope} {own fr : List Str} {js : List Nat} {tg iter elt : Expr} {ifs : List Expr} {pos : Pos} {wi : TI} {g : TG} {tc : TT} {te : TE}
    (L : LcOk X N sc scope own fr js) (hc : X.calm = true) (hI : PI X tg iter wi)
    (hg : ∀ C s H fp, PG (lcCx X N scope C s H fp) tg g) (hi : ∀ C s H fp, PIf (lcCx X N scope C s H fp) ifs tc) (he : ∀ C s H fp, PE (lcCx X N scope C s H fp) elt te)
    (hs : ∀ x, foldedSetIterable iter X.env x = pure x := by intro _; rfl) : PE X (.ListComp elt [⟨tg, iter, ifs, 0⟩] scope pos) (tLc wi own.length js g tc te) := by
  intro pins s σ H Q I h
  rw [eval_ListComp]
  refine wpAny_comprehension_free (use := none) rfl hs (closureFor_is (L.cellAt I.ok)) L.kind L.loc ?_
  refine thn (hI pins s σ H _ I h) fun v s1 h1 => thn h1 fun itv s2 h2 => ?_
  obtain ⟨it, fp, tn, J, H2, e, I2, T, st, f2, q⟩ := h2
  subst e
  refine lc_block (RR := fun acc C => compPost (model X.prog X.w) X.A X.xe none (EP X pins σ Q) acc C) (fin := fun D H' => Q (.ref D) H') L hc I2 T st f2 hg hi he q ?_
  intro D C s' H' hm IX fC q'
  obtain ⟨m, hm⟩ := hm
  obtain ⟨f0, f1, _, f3, f4, f5⟩ := fC
  exact ⟨m, hm, fun h' sb => ⟨.ref D, H', IX.turned (t' := s'.toks) (fun b o hb e => (sb.2 b hb).trans e) f0 f1 f3 f4 f5, rfl, q'⟩⟩
noncomputable def tLcS (i : Nat) (wi : TI) (n : Nat) (js : List Nat) (g : TG) (tc : TT) (te : TE) : TS := fun E σ H => wi σ H fun J H1 => ∀ D, H1 D = none →
  ∃ W : Nat → Nat → List V → Hp → Prop, (∃ m, W 0 m [] (upd H1 D (.lst []))) ∧ tLcB J D (caps n js σ) g tc te (fun H2 => E.nx (σ.set i (some (.ref D))) H2) W
theorem ps_lc {X : Cx} {N : List Str} {sc scope : Scope} {own fr : List Str} {js : List Nat} {tg iter elt : Expr} {ifs : List Expr} {pos spos py : Pos} {wi : TI} {g : TG} {tc : TT} {te : TE} {i : Nat} {y : Str}
    (hN : X.N.Nodup) (hy : X.N[i]? = some y) (hl : X.env.scope.names.lookup y = some .local)
    (L : LcOk X N sc scope own fr js) (hc : X.calm = true) (hI : PI X tg iter wi)
    (hg : ∀ C s H fp, PG (lcCx X N scope C s H fp) tg g) (hi : ∀ C s H fp, PIf (lcCx X N scope C s H fp) ifs tc) (he : ∀ C s H fp, PE (lcCx X N scope C s H fp) elt te)
    (hw : swapsWith (.ListComp elt [⟨tg, iter, ifs, 0⟩] scope pos) (some (.Name y py)) spos.line X.env = pure true := by rfl)
    (hs : ∀ x, foldedSetIterable iter X.env x = pure x := by intro _; rfl) : PS X (.Assign [.Name y py] (.ListComp elt [⟨tg, iter, ifs, 0⟩] scope pos) spos) (tLcS i wi own.length js g tc te) := by
  intro pins s σ H E I h
  rw [exec_Assign_Name_used _ _ _ _ hw]
  (refine wpAny_bind (wpAny_standAt (wpAny_bind ?_)))
  show wpAny _ X.A (do let _ ← comprehension (.ListComp elt [⟨tg, iter, ifs, 0⟩] scope pos) scope X.env _ (newList []) false (eval iter X.env) (some (assign (.Name y py) X.env))) _ _ s
  refine wpAny_bind (wpAny_mono (wpAny_comprehension_free (use := some (assign (.Name y py) X.env)) (Q := fun _ s' => SP X pins E .next s') rfl hs (closureFor_is (L.cellAt I.ok)) L.kind L.loc ?_) (fun _ s' q => wpAny_pure (wpAny_pure q)) fun _ _ e => e)
  refine thn (hI pins s σ H _ I h) fun v s1 h1 => thn h1 fun itv s2 h2 => ?_
  obtain ⟨it, fp, tn, J, H2, e, I2, T, st, f2, q⟩ := h2
  subst e
  refine lc_block (RR := fun acc C => compPost (model X.prog X.w) X.A X.xe (some (assign (.Name y py) X.env)) (fun _ s' => SP X pins E .next s') acc C) (fin := fun D H' => E.nx (σ.set i (some (.ref D))) H') L hc I2 T st f2 hg hi he q ?_
  intro D C s' H' hm IX fC q'
  obtain ⟨m, hm⟩ := hm
  obtain ⟨f0, f1, _, f3, f4, f5⟩ := fC
  show wpAny _ X.A (assign (.Name y py) X.env (.ref D)) _ _ s'
  refine wpAny_assign_Name (store_ok2 IX hN hy (.inl hl) (v := .ref D) rfl (fun s3 I3 ha => ?_) (.inr hl))
  obtain ⟨a, sb, ha⟩ := ha
  have hCa : C ≠ a := by
    rcases ha with z | z
    · rw [z]; exact f1
    · exact fun q => f4 y a z q.symm
  refine ⟨m, hm.sameBut sb hCa, fun h' sb' => ⟨_, H', I3.turned (t' := s3.toks) (fun b o hb e => (sb'.2 b hb).trans e) f0 f1 f3 f4 f5, q'⟩⟩
end L2
namespace L2
open PySem PySem.Spec PyProof.Rows
section
variable {X : Cx}
noncomputable def rInsert : V → List V → Hp → VK → Prop := fun x vs H Q => ∃ l xs i y, x = .ref l ∧ vs = [.int i, y] ∧ 0 ≤ i ∧ i ≤ (xs.length : Int) ∧ H l = some (.lst xs) ∧ xs.length < sizeLine ∧ Q .non (upd H l (.lst (xs.take i.toNat ++ y :: xs.drop i.toNat)))
theorem insert_fn (its : List Value) (i : Int) (u : Value) (h0 : 0 ≤ i) (h1 : i ≤ (its.length : Int)) :
    (fun xs : Array Value => have k := if i < 0 then (i + ((xs.size : Nat) : Int)).toNat else min i.toNat xs.size; (xs.extract 0 k).push u ++ xs.extract k) its.toArray = (its.take i.toNat ++ u :: its.drop i.toNat).toArray := by
  have e : (if i < 0 then (i + ((its.toArray.size : Nat) : Int)).toNat else min i.toNat its.toArray.size) = i.toNat := by
    rw [if_neg (by lia), List.size_toArray]
    lia
  show (its.toArray.extract 0 (if i < 0 then (i + ((its.toArray.size : Nat) : Int)).toNat else min i.toNat its.toArray.size)).push u ++ its.toArray.extract (if i < 0 then (i + ((its.toArray.size : Nat) : Int)).toNat else min i.toNat its.toArray.size) = _
  rw [e]
  apply Array.toList_inj.mp
  simp
  (exact List.take_of_length_le (by simp))
theorem mt_insert : MtM X "list.insert" rInsert := by
  intro pins s σ H x vs v us Q I rx rv h
  obtain ⟨l, xs, i, y, rfl, rfl, h0, h1, hH, hz, q⟩ := h
  cases rx
  obtain ⟨u1, u, rfl, ⟨t, rfl⟩, ru⟩ := vals2 rv
  obtain ⟨z, its, n, r, hl, e⟩ := I.lstM hH
  have h63 := line63
  refine call_meets F.slot_list_insert ⟨_, e, rfl⟩ F.entry_list_insert (F.args_list_insert_3 _ _ _) (PySem.AutoListH.list_insert_list_int_val_1 l its.toArray n i t u (by rw [fitsIndex_both (by lia) (by lia)]; decide) (by rw [List.size_toArray]; lia)) ⟨e, ?_⟩
  refine ⟨.non, _, I.lset (its' := its.take i.toNat ++ u :: its.drop i.toNat) hH e (insert_fn its i u h0 (by lia)) ((r.take i.toNat).append (.cons ru (r.drop i.toNat))) ?_, rfl, q⟩
  (rw [List.length_append, List.length_cons, List.length_take, List.length_drop])
  lia
theorem op_mulS : OpR X (binaryOp .Mult) (fun x y H Q => ∃ z i, x = .str z ∧ y = .int i ∧ 1 ≤ i ∧ i ≤ 1000 ∧ z.length ≤ 1000 ∧ Q (.str (Txt.mul z i)) H) := by
  intro pins s σ H x y v u Q I rx ry h
  obtain ⟨z, i, rfl, rfl, h1, h2, h3, q⟩ := h
  obtain ⟨t, rfl⟩ := rx
  obtain ⟨t', rfl⟩ := ry
  have hs : sizeLine = 16777216 := sizeLine_eq
  have hp : z.length * i.toNat ≤ 1000 * 1000 := Nat.mul_le_mul h3 (by lia)
  refine SB.mul ⟨?_, fun _ _ => ?_, fun _ _ => ?_⟩ fun t' k => ⟨.str (Txt.mul z i), H, I.tok _, ⟨_, rfl⟩, q⟩
  · have e1 : decide (i < -(2 ^ 63 : Int)) = false := decide_eq_false (by lia)
    have e2 : decide (i ≥ 2 ^ 63) = false := decide_eq_false (by lia)
    rw [e1, e2, Bool.or_false]
  · have e3 : (z.length : Int) * i = ((z.length * i.toNat : Nat) : Int) := by rw [Int.natCast_mul, Int.toNat_of_nonneg (by lia)]
    have e4 : (z.length : Int) ≤ (2 ^ 63 - 1) / i := Int.le_ediv_of_mul_le (by lia) (by rw [e3]; lia)
    lia
  · show decide (z.length * i.toNat > sizeLine) = false
    exact decide_eq_false (by lia)
theorem mt_starts : MtR X "str.startswith" (fun x xs H Q => ∃ a b, x = .str a ∧ xs = [.str b] ∧ Q (.bl (Txt.startswith a b)) H) := by
  intro pins s σ H x xs v us Q I rx rv h
  obtain ⟨a, b, rfl, rfl, q⟩ := h
  obtain ⟨t, rfl⟩ := rx
  obtain ⟨u, rfl, t', rfl⟩ := vals1 rv
  exact SC.startswith ⟨.bl _, H, I, rfl, q⟩
theorem vals_strsFrom : ∀ (tk : Nat) (xs : List Str), Vals (xs.map V.str) (strsFrom tk xs)
  | _, [] => .nil
  | tk, _ :: r => .cons ⟨tk, rfl⟩ (vals_strsFrom (tk + 1) r)
theorem mt_split : MtR X "str.split" (fun x xs H Q => ∃ a b, x = .str a ∧ xs = [.str b] ∧ (b.length == 0) = false ∧ a.length + 2 ≤ sizeLine ∧ ∀ p, H p = none → Q (.ref p) (upd H p (.lst ((Txt.split a b).map V.str)))) := by
  intro pins s σ H x xs v us Q I rx rv h
  obtain ⟨a, b, rfl, rfl, hb, hz, q⟩ := h
  obtain ⟨t, rfl⟩ := rx
  obtain ⟨u, rfl, t', rfl⟩ := vals1 rv
  have one : ∀ {ys : List Str}, ys = [a] → Txt.split a b = ys → EP X pins σ Q (.ref s.heap.objs.size) { s with heap := s.heap.push { cls := .type "list", data := .seq [Value.str a t].toArray } } := fun {ys} e1 e2 => by
    have q' := q _ (I.hok.fresh (Nat.le_refl _))
    rw [e2, e1] at q'
    exact ⟨.ref _, _, I.lnew (ys := [V.str a]) (t' := s.toks) (.cons ⟨t, rfl⟩ .nil) (by show 1 ≤ sizeLine; decide), rfl, q'⟩
  have hn := split_le a b
  cases h1 : (decide (a.length < b.length) || decide (Builtin.Str.strKind a < Builtin.Str.strKind b)) with
  | true =>
    refine call_meets F.slot_str_split (typeIs_str _ _ _) F.entry_str_split (F.args_str_split_2 _ _) (meets_str_split_cannot_occur a b t t' h1) ?_
    exact one rfl (if_pos h1)
  | false =>
    cases hf : (Builtin.Str.occurrences a b 0 a.length (a.length + 1)).isEmpty with
    | true =>
      refine call_meets F.slot_str_split (typeIs_str _ _ _) F.entry_str_split (F.args_str_split_2 _ _) (meets_str_split_not_found a b t t' h1 hb hf) ?_
      exact one rfl ((if_neg (by rw [h1]; decide)).trans (if_pos hf))
    | false =>
      have e : Txt.split a b = Builtin.Str.partsBetween a (Builtin.Str.occurrences a b 0 a.length (a.length + 1)) b.length := (if_neg (by rw [h1]; decide)).trans (if_neg (by rw [hf]; decide))
      refine call_meets F.slot_str_split (typeIs_str _ _ _) F.entry_str_split (F.args_str_split_2 _ _) (meets_str_split_sep a b t t' h1 hb hf (by lia) (by rw [← e]; lia)) ?_
      have q' := q _ (I.hok.fresh (Nat.le_refl _))
      refine ⟨.ref _, _, I.lnew (vals_strsFrom s.toks _) ?_, rfl, ?_⟩
      · rw [List.length_map, ← e]
        lia
      · rw [← e]
        exact q'
end
mutual
inductive RdV (H : Hp) : V → PyData → Prop
  | non : RdV H .non .none
  | int (i : Int) : RdV H (.int i) (.int i)
  | str (x : Str) : RdV H (.str x) (.str x)
  | tup {a : Addr} {xs : List V} {ds : List PyData} : H a = some (.tup xs) → RdVs H xs ds → RdV H (.ref a) (.tuple ds)
inductive RdVs (H : Hp) : List V → List PyData → Prop
  | nil : RdVs H [] []
  | cons {x : V} {d : PyData} {xs : List V} {ds : List PyData} : RdV H x d → RdVs H xs ds → RdVs H (x :: xs) (d :: ds)
end
mutual
theorem RdV.reads {P : Program} {w : World} {H : Hp} {h : Heap} (ok : HOk P w H h) : ∀ {x : V} {d : PyData} {u : Value}, RdV H x d → RelV x u → ∃ as, Reads h u d as
  | _, _, _, .non, r => by cases r; exact ⟨_, .none⟩
  | _, _, _, .int i, r => by obtain ⟨t, rfl⟩ := r; exact ⟨_, .int i t⟩
  | _, _, _, .str x, r => by obtain ⟨t, rfl⟩ := r; exact ⟨_, .str x t⟩
  | _, _, _, .tup (a := a) e rs, r => by
    cases r
    obtain ⟨z, its, rv, o, ho, hc, n, hd⟩ := ok a _ e
    obtain ⟨as, ra⟩ := RdVs.reads ok rs rv
    exact ⟨as, .tuple ho hc hd (by simpa using ra)⟩
theorem RdVs.reads {P : Program} {w : World} {H : Hp} {h : Heap} (ok : HOk P w H h) : ∀ {xs : List V} {ds : List PyData} {us : List Value}, RdVs H xs ds → Vals xs us → ∃ as, ReadsAll h us ds as
  | _, _, _, .nil, r => by cases r; exact ⟨_, .nil⟩
  | _, _, _, .cons a b, r => by
    cases r with
    | cons r1 r2 =>
      obtain ⟨as, h1⟩ := RdV.reads ok a r1
      obtain ⟨bs, h2⟩ := RdVs.reads ok b r2
      exact ⟨_, .cons h1 h2⟩
end
mutual
theorem RdV.same {H H' : Hp} (k : ∀ b xs, H b = some (.tup xs) → H' b = some (.tup xs)) : ∀ {x : V} {d : PyData}, RdV H x d → RdV H' x d
  | _, _, .non => .non
  | _, _, .int i => .int i
  | _, _, .str x => .str x
  | _, _, .tup e rs => .tup (k _ _ e) (RdVs.same k rs)
theorem RdVs.same {H H' : Hp} (k : ∀ b xs, H b = some (.tup xs) → H' b = some (.tup xs)) : ∀ {xs : List V} {ds : List PyData}, RdVs H xs ds → RdVs H' xs ds
  | _, _, .nil => .nil
  | _, _, .cons a b => .cons (RdV.same k a) (RdVs.same k b)
end
theorem RdVs.append {H : Hp} : ∀ {xs ys : List V} {ds es : List PyData}, RdVs H xs ds → RdVs H ys es → RdVs H (xs ++ ys) (ds ++ es)
  | _, _, _, _, .nil, r => r
  | _, _, _, _, .cons a b, r => .cons a (RdVs.append b r)
theorem RdVs.strs {H : Hp} : ∀ (xs : List Str), RdVs H (xs.map V.str) (xs.map PyData.str)
  | [] => .nil
  | x :: r => .cons (.str x) (RdVs.strs r)
end L2
namespace ZT
open PySem PyProof.Rows
end ZT
namespace L2
open PySem PySem.Spec PyProof.Rows
end L2
namespace L2
open PySem PySem.Spec PyProof.Rows
theorem Same.new {H : Hp} {l : Addr} {o : HO} (h : H l = none) : Same H (upd H l o) := fun b u e => by
  rw [upd_ne (ne_of_none e h)]
  exact e
theorem Same.put {H H' : Hp} {l : Addr} {o : HO} (s : Same H H') (h : H l = none) : Same H (upd H' l o) := fun b u e => by
  rw [upd_ne (ne_of_none e h)]
  exact s b u e
theorem Same.rd {H H' : Hp} (s : Same H H') {v : V} {d : PyData} (h : RdV H v d) : RdV H' v d := h.same fun b xs e => s b _ e
theorem Same.rds {H H' : Hp} (s : Same H H') {vs : List V} {ds : List PyData} (h : RdVs H vs ds) : RdVs H' vs ds := h.same fun b xs e => s b _ e
structure Df (K : PySem.W.Frag) (mg : Str → Option Value) (x : Str) (st : Stmt) (ps : List Str) (f : Addr) (fd : FuncData) : Prop where
  F : Fun K x x st f fd
  m : mg x = some (.ref f)
  b : Binds K fd ps []
noncomputable def isStrC : Expr → Bool
  | .Constant (.str _) _ _ => true
  | _ => false
noncomputable def strC : Expr → V
  | .Constant (.str x) _ _ => .str x
  | _ => .non
theorem pa_strs {X : Cx} : ∀ {es : List Expr}, es.all isStrC = true → PA X es (fun _ H Q => Q (es.map strC) H)
  | [], _ => pa_nil
  | e :: es, h => by
    (rw [List.all_cons, Bool.and_eq_true] at h)
    have ih := pa_strs (X := X) h.2
    cases e with
    | Constant c j pos =>
      cases c with
      | str x => exact pa_cons pe_str ih
      | _ => exact absurd h.1 Bool.false_ne_true
    | _ => exact absurd h.1 Bool.false_ne_true
theorem lcJ {J : It} {n : Nat} {D : Addr} {ρ : St} {tc : TT} {te : TE} {fin : Hp → Prop} {H0 : Hp} (Pv : Nat → List V → Hp → Prop) (h0 : Pv 0 [] (upd H0 D (.lst [])))
    (go : ∀ i ys H, i < n → Pv i ys H → J.go i H) (stop : ∀ ys H, Pv n ys H → J.stop n H)
    (hs : ∀ i ys H x H1, i < n → Pv i ys H → J.yld i H x H1 → tc (some x :: ρ) H1 fun b H3 => if b = true then te (some x :: ρ) H3 fun y H4 => ∃ zs, H4 D = some (.lst zs) ∧ zs.length < sizeLine ∧ Pv (i + 1) (zs ++ [y]) (upd H4 D (.lst (zs ++ [y]))) else Pv (i + 1) ys H3)
    (hd : ∀ ys H, Pv n ys H → fin H) : ∃ W : Nat → Nat → List V → Hp → Prop, (∃ m, W 0 m [] (upd H0 D (.lst []))) ∧ tLcB J D (none :: ρ) (gName 0) tc te fin W := by
  refine ⟨fun i m ys H => m = n - i ∧ i ≤ n ∧ Pv i ys H, ⟨n, rfl, Nat.zero_le _, h0⟩, ?_⟩
  rintro i m ys H ⟨rfl, hi, p⟩
  by_cases hlt : i < n
  · refine .inr ⟨go i ys H hlt p, Pv (i + 1), fun ys' H' p' => ⟨n - (i + 1), by lia, rfl, hlt, p'⟩, fun x H1 y => ⟨⟨rfl, fun j v e => ?_⟩, hs i ys H x H1 hlt p y⟩⟩
    cases j with
    | zero => cases e
    | succ j => exact e
  · have e : i = n := by lia
    subst e
    exact .inl ⟨stop ys H p, hd ys H p⟩
theorem lc_yes {σ : St} {H : Hp} {A B : Hp → Prop} (h : A H) : tYes σ H fun b H3 => if b = true then A H3 else B H3 := by
  show if true = true then A H else B H
  rw [if_pos rfl]
  exact h
section
variable {X : Cx}
theorem ix_listK (K : PySem.W.Frag) (h : X.K = K) : IxR X (rIxL K) := by
  subst h
  exact ix_list
theorem call_tupK (K : PySem.W.Frag) (h : X.K = K) : CallR X (.type "tuple") (fun xs H Q => ∃ p ys, xs = [.ref p] ∧ ((SqL K H p ys ∧ ∀ l, H l = none → Q (.ref l) (upd H l (.tup ys))) ∨ (SqT K H p ys ∧ Q (.ref p) H))) := by
  subst h
  exact call_tuple_of
theorem bmK {e : Expr} {T : String} {r : V → List V → Hp → VK → Prop} {to : TE} {t : TA} (K : PySem.W.Frag) (h : X.K = K) (hp : PE X e (tBM X.K T r to t)) : PE X e (tBM K T r to t) := by
  subst h
  exact hp
end
theorem bt_tuple : bootBuiltins "tuple" = some (.type "tuple") := by decide +kernel
theorem bt_isi : bootBuiltins "isinstance" = some (.builtin "isinstance") := by decide +kernel
end L2
namespace Tx
open PySem L2 PyProof.Rows
open PySem.PyData (strOk)
theorem len_app (x y : Str) : (x ++ y).length = x.length + y.length := by
  (show (x.cps ++ y.cps).size = x.cps.size + y.cps.size)
  rw [Array.size_append]
noncomputable def abc : Str := "abcdefghijklmnopqrstuvwxyz"
theorem abc_len : abc.length ≤ sizeLine := by
  rw [sizeLine_eq]
  decide +kernel
theorem foldl_app (a : Array Nat) : ∀ (k : Nat) (acc : Array Nat), (List.foldl (fun x y => x ++ y) acc (List.replicate k a)).toList = acc.toList ++ (List.replicate k a.toList).flatten
  | 0, acc => by simp
  | k + 1, acc => by
    rw [List.replicate_succ, List.foldl_cons, foldl_app a k, List.replicate_succ, List.flatten_cons, Array.toList_append, List.append_assoc]
noncomputable def thingB : Str := "thing "
noncomputable def blank : Str := " "
theorem blank_eq : blank = ⟨#[32]⟩ := by decide +kernel
end Tx
namespace Rk
open PySem
noncomputable def cs (x : Str) : List Nat := x.cps.toList
theorem cs_app (x y : Str) : cs (x ++ y) = cs x ++ cs y := by
  show (x.cps ++ y.cps).toList = _
  rw [Array.toList_append]
  rfl
theorem cs_inj {x y : Str} (h : cs x = cs y) : x = y := by
  cases x with | mk a =>
  cases y with | mk b =>
  have : a = b := Array.toList_inj.mp h
  rw [this]
theorem cs_len (x : Str) : (cs x).length = x.length := by
  show x.cps.toList.length = x.cps.size
  exact Array.length_toList
theorem cs_one (c : Nat) : cs ⟨#[c]⟩ = [c] := rfl
noncomputable def J : List (List Nat) → List Nat
  | [] => []
  | [a] => a
  | a :: b :: r => a ++ 32 :: J (b :: r)
theorem cut_eq : ∀ {a b u v : List Nat}, 32 ∉ a → 32 ∉ b → a ++ 32 :: u = b ++ 32 :: v → a = b ∧ u = v
  | [], [], u, v, _, _, h => ⟨rfl, by simpa using h⟩
  | [], y :: b, u, v, _, hb, h => by
    simp only [List.nil_append, List.cons_append, List.cons.injEq] at h
    exact absurd (List.mem_cons.mpr (.inl h.1)) hb
  | x :: a, [], u, v, ha, _, h => by
    simp only [List.nil_append, List.cons_append, List.cons.injEq] at h
    exact absurd (List.mem_cons.mpr (.inl h.1.symm)) ha
  | x :: a, y :: b, u, v, ha, hb, h => by
    simp only [List.cons_append, List.cons.injEq] at h
    obtain ⟨e1, e2⟩ := cut_eq (fun z => ha (List.mem_cons_of_mem _ z)) (fun z => hb (List.mem_cons_of_mem _ z)) h.2
    exact ⟨by rw [h.1, e1], e2⟩
theorem J_inj : ∀ {ps ws : List (List Nat)}, ps ≠ [] → ws ≠ [] → (∀ p ∈ ps, 32 ∉ p) → (∀ w ∈ ws, 32 ∉ w) → J ps = J ws → ps = ws
  | [], _, h, _, _, _, _ => absurd rfl h
  | _ :: _, [], _, h, _, _, _ => absurd rfl h
  | [a], [b], _, _, _, _, e => by rw [show a = b from e]
  | [a], b :: c :: r, _, _, ha, _, e => by
    have e' : a = b ++ 32 :: J (c :: r) := e
    exact absurd (by rw [e']; simp) (ha a (List.mem_cons_self ..))
  | a :: c :: r, [b], _, _, _, hb, e => by
    have e' : a ++ 32 :: J (c :: r) = b := e
    exact absurd (by rw [← e']; simp) (hb b (List.mem_cons_self ..))
  | a :: c :: r, b :: d :: t, _, _, ha, hb, e => by
    have e' : a ++ 32 :: J (c :: r) = b ++ 32 :: J (d :: t) := e
    obtain ⟨e1, e2⟩ := cut_eq (ha a (List.mem_cons_self ..)) (hb b (List.mem_cons_self ..)) e'
    rw [e1, J_inj (List.cons_ne_nil _ _) (List.cons_ne_nil _ _) (fun p hp => ha p (List.mem_cons_of_mem _ hp)) (fun p hp => hb p (List.mem_cons_of_mem _ hp)) e2]
theorem J_count : ∀ ps : List (List Nat), (J ps).count 32 + 1 = (ps.map (List.count 32)).sum + (if ps = [] then 1 else ps.length)
  | [] => rfl
  | [a] => by simp [J]
  | a :: b :: r => by
    have ih := J_count (b :: r)
    rw [if_neg (List.cons_ne_nil _ _)] at ih ⊢
    show (a ++ 32 :: J (b :: r)).count 32 + 1 = _
    rw [List.count_append, List.count_cons_self, List.map_cons, List.sum_cons]
    simp only [List.length_cons] at ih ⊢
    lia
theorem sum_zero : ∀ {l : List Nat}, l.sum = 0 → ∀ x ∈ l, x = 0
  | [], _, _, h => nomatch h
  | a :: r, h, x, hx => by
    rw [List.sum_cons] at h
    rcases List.mem_cons.mp hx with e | e
    · lia
    · exact sum_zero (by lia) x e
noncomputable def fixedS : List Str := ["and", "or", "not", "while", "in", "on", "top", "held", "open", "shut", "locked", "bare", "free", "hand"]
structure Nv (x : Str) : Prop where
  low : ∀ c ∈ cs x, 97 ≤ c ∧ c ≤ 122
  pos : 1 ≤ x.length
  len : x.length ≤ 8
  fix : x ∉ fixedS
theorem fixed_two : ∀ w ∈ fixedS, ∃ c ∈ cs w, ∃ d ∈ cs w, c ≠ d := by
  have h : fixedS.all (fun w => (cs w).any fun c => (cs w).any fun d => c != d) = true := by decide +kernel
  intro w hw
  have h1 := List.all_eq_true.mp h w hw
  obtain ⟨c, hc, h2⟩ := List.any_eq_true.mp h1
  obtain ⟨d, hd, h3⟩ := List.any_eq_true.mp h2
  exact ⟨c, hc, d, hd, by simpa using h3⟩
theorem fixed_z : ∀ w ∈ fixedS, ("z" : Str) ++ w ∉ fixedS ∧ (("z" : Str) ++ w).length ≤ 8 := by
  have h : fixedS.all (fun w => decide (("z" : Str) ++ w ∉ fixedS) && decide ((("z" : Str) ++ w).length ≤ 8)) = true := by decide +kernel
  intro w hw
  have h1 := List.all_eq_true.mp h w hw
  rw [Bool.and_eq_true] at h1
  exact ⟨of_decide_eq_true h1.1, of_decide_eq_true h1.2⟩
theorem nv_rep {x : Str} {c n : Nat} (e : cs x = List.replicate n c) (h1 : 97 ≤ c) (h2 : c ≤ 122) (n1 : 1 ≤ n) (n2 : n ≤ 8) : Nv x := by
  have el : x.length = n := by rw [← cs_len, e, List.length_replicate]
  refine ⟨fun d hd => ?_, by lia, by lia, fun hf => ?_⟩
  · rw [e] at hd
    rw [(List.mem_replicate.mp hd).2]
    exact ⟨h1, h2⟩
  · obtain ⟨a, ha, b, hb, ne⟩ := fixed_two x hf
    rw [e] at ha hb
    exact ne ((List.mem_replicate.mp ha).2.trans (List.mem_replicate.mp hb).2.symm)
noncomputable def zed (x : Str) : Str := if x ∈ fixedS then ("z" : Str) ++ x else x
theorem zed_nv {x : Str} (low : ∀ c ∈ cs x, 97 ≤ c ∧ c ≤ 122) (h1 : 1 ≤ x.length) (h2 : x.length ≤ 8) : Nv (zed x) := by
  unfold zed
  by_cases h : x ∈ fixedS
  · rw [if_pos h]
    have z := fixed_z x h
    refine ⟨fun c hc => ?_, ?_, z.2, z.1⟩
    · rw [cs_app] at hc
      rcases List.mem_append.mp hc with q | q
      · have : c = 122 := by
          have e : cs ("z" : Str) = [122] := by decide +kernel
          rw [e] at q
          simpa using q
        lia
      · exact low c q
    · rw [← cs_len, cs_app, List.length_append, cs_len, cs_len]
      lia
  · rw [if_neg h]
    exact ⟨low, h1, h2, h⟩
theorem zed_inj {x y : Str} (hl : x.length = y.length) (h : zed x = zed y) : x = y := by
  have lz : ∀ z : Str, (("z" : Str) ++ z).length = z.length + 1 := fun z => by
    have e : ("z" : Str).length = 1 := by decide +kernel
    rw [← cs_len, cs_app, List.length_append, cs_len, cs_len, e]
    lia
  unfold zed at h
  by_cases h1 : x ∈ fixedS
  · rw [if_pos h1] at h
    by_cases h2 : y ∈ fixedS
    · rw [if_pos h2] at h
      have e := congrArg cs h
      rw [cs_app, cs_app] at e
      exact cs_inj (List.append_cancel_left e)
    · rw [if_neg h2] at h
      have e := congrArg Str.length h
      rw [lz] at e
      lia
  · rw [if_neg h1] at h
    by_cases h2 : y ∈ fixedS
    · rw [if_pos h2] at h
      have e := congrArg Str.length h
      rw [lz] at e
      lia
    · rw [if_neg h2] at h
      exact h
theorem nodup_snoc {α : Type} {l : List α} {x : α} (h : l.Nodup) (hx : x ∉ l) : (l ++ [x]).Nodup := by
  rw [List.nodup_append]
  refine ⟨h, by simp, fun a ha b hb => ?_⟩
  rw [List.mem_singleton.mp hb]
  intro e
  rw [e] at ha
  exact hx ha
theorem five_inj {p : Int} {i j : Nat} (hi : i < 26) (hj : j < 26) (h : (p + 5 * (i : Int)) % 26 = (p + 5 * (j : Int)) % 26) : i = j := by lia
end Rk
namespace Rk
open PySem
inductive Ro where
  | pl (n : Str)
  | bx (n : Str)
  | lk (n k : Str)
  | th (n s : Str)
  deriving DecidableEq
noncomputable def Ro.name : Ro → Str
  | .pl n => n
  | .bx n => n
  | .lk n _ => n
  | .th n _ => n
noncomputable def Ro.isP : Ro → Bool
  | .th _ _ => false
  | _ => true
noncomputable def Ro.boxed : Ro → Bool
  | .bx _ => true
  | .lk _ _ => true
  | _ => false
noncomputable def Ro.words : Ro → List Str
  | .pl n => ["place", n]
  | .bx n => ["box", n]
  | .lk n k => ["box", n, k]
  | .th n s => ["thing", n, s]
noncomputable def Ro.txt : Ro → Str
  | .pl n => ("place " : Str) ++ n
  | .bx n => ("box " : Str) ++ n
  | .lk n k => ("box " : Str) ++ n ++ (" " : Str) ++ k
  | .th n s => ("thing " : Str) ++ n ++ (" " : Str) ++ s
noncomputable def Ro.nv : Ro → Prop
  | .pl n => Nv n
  | .bx n => Nv n
  | .lk n k => Nv n ∧ Nv k
  | .th n s => Nv n ∧ Nv s
theorem Ro.nv_name : ∀ {r : Ro}, r.nv → Nv r.name
  | .pl _, h => h
  | .bx _, h => h
  | .lk _ _, h => h.1
  | .th _ _, h => h.1
theorem Nv.noblank {x : Str} (h : Nv x) : 32 ∉ cs x := fun z => by
  have := h.low 32 z
  lia
theorem Ro.noblank : ∀ {r : Ro}, r.nv → ∀ w ∈ r.words, 32 ∉ cs w
  | .pl n, h, w, hw => by
    simp only [Ro.words, List.mem_cons, List.not_mem_nil, or_false] at hw
    rcases hw with e | e
    · rw [e]; decide +kernel
    · rw [e]; exact Nv.noblank h
  | .bx n, h, w, hw => by
    simp only [Ro.words, List.mem_cons, List.not_mem_nil, or_false] at hw
    rcases hw with e | e
    · rw [e]; decide +kernel
    · rw [e]; exact Nv.noblank h
  | .lk n k, h, w, hw => by
    simp only [Ro.words, List.mem_cons, List.not_mem_nil, or_false] at hw
    rcases hw with e | e | e
    · rw [e]; decide +kernel
    · rw [e]; exact Nv.noblank h.1
    · rw [e]; exact Nv.noblank h.2
  | .th n k, h, w, hw => by
    simp only [Ro.words, List.mem_cons, List.not_mem_nil, or_false] at hw
    rcases hw with e | e | e
    · rw [e]; decide +kernel
    · rw [e]; exact Nv.noblank h.1
    · rw [e]; exact Nv.noblank h.2
theorem cs_txt : ∀ r : Ro, cs r.txt = J (r.words.map cs)
  | .pl n => by
    show cs (("place " : Str) ++ n) = cs ("place" : Str) ++ 32 :: cs n
    rw [cs_app]
    have e : cs ("place " : Str) = cs ("place" : Str) ++ [32] := by decide +kernel
    rw [e]; simp
  | .bx n => by
    show cs (("box " : Str) ++ n) = cs ("box" : Str) ++ 32 :: cs n
    rw [cs_app]
    have e : cs ("box " : Str) = cs ("box" : Str) ++ [32] := by decide +kernel
    rw [e]; simp
  | .lk n k => by
    show cs (("box " : Str) ++ n ++ (" " : Str) ++ k) = cs ("box" : Str) ++ 32 :: (cs n ++ 32 :: cs k)
    rw [cs_app, cs_app, cs_app]
    have e : cs ("box " : Str) = cs ("box" : Str) ++ [32] := by decide +kernel
    have e2 : cs (" " : Str) = [32] := by decide +kernel
    rw [e, e2]; simp
  | .th n k => by
    show cs (("thing " : Str) ++ n ++ (" " : Str) ++ k) = cs ("thing" : Str) ++ 32 :: (cs n ++ 32 :: cs k)
    rw [cs_app, cs_app, cs_app]
    have e : cs ("thing " : Str) = cs ("thing" : Str) ++ [32] := by decide +kernel
    have e2 : cs (" " : Str) = [32] := by decide +kernel
    rw [e, e2]; simp
theorem txt_thing : ∀ r : Ro, r.isP = false ↔ ∃ z, cs r.txt = cs ("thing " : Str) ++ z
  | .pl n => by
    constructor
    · intro h; cases h
    · rintro ⟨z, h⟩
      rw [show cs (Ro.pl n).txt = cs ("place " : Str) ++ cs n from cs_app _ _] at h
      have e1 : cs ("place " : Str) = 112 :: (cs ("place " : Str)).tail := by decide +kernel
      have e2 : cs ("thing " : Str) = 116 :: (cs ("thing " : Str)).tail := by decide +kernel
      rw [e1, e2] at h
      simp only [List.cons_append, List.cons.injEq] at h
      exact absurd h.1 (by decide)
  | .bx n => by
    constructor
    · intro h; cases h
    · rintro ⟨z, h⟩
      rw [show cs (Ro.bx n).txt = cs ("box " : Str) ++ cs n from cs_app _ _] at h
      have e1 : cs ("box " : Str) = 98 :: (cs ("box " : Str)).tail := by decide +kernel
      have e2 : cs ("thing " : Str) = 116 :: (cs ("thing " : Str)).tail := by decide +kernel
      rw [e1, e2] at h
      simp only [List.cons_append, List.cons.injEq] at h
      exact absurd h.1 (by decide)
  | .lk n k => by
    constructor
    · intro h; cases h
    · rintro ⟨z, h⟩
      rw [show cs (Ro.lk n k).txt = cs ("box " : Str) ++ cs n ++ cs (" " : Str) ++ cs k from by show cs (("box " : Str) ++ n ++ (" " : Str) ++ k) = _; rw [cs_app, cs_app, cs_app]] at h
      have e1 : cs ("box " : Str) = 98 :: (cs ("box " : Str)).tail := by decide +kernel
      have e2 : cs ("thing " : Str) = 116 :: (cs ("thing " : Str)).tail := by decide +kernel
      rw [e1, e2] at h
      simp only [List.cons_append, List.cons.injEq] at h
      exact absurd h.1 (by decide)
  | .th n k => by
    refine ⟨fun _ => ⟨cs n ++ cs (" " : Str) ++ cs k, ?_⟩, fun _ => rfl⟩
    show cs (("thing " : Str) ++ n ++ (" " : Str) ++ k) = _
    rw [cs_app, cs_app, cs_app]
    simp
theorem txt_len {r : Ro} (h : r.nv) : r.txt.length ≤ 23 := by
  have l6 : ("place " : Str).length = 6 := by decide +kernel
  have l4 : ("box " : Str).length = 4 := by decide +kernel
  have t6 : ("thing " : Str).length = 6 := by decide +kernel
  have l1 : (" " : Str).length = 1 := by decide +kernel
  cases r with
  | pl n => 
    have := Nv.len h
    rw [← cs_len, show (Ro.pl n).txt = ("place " : Str) ++ n from rfl, cs_app, List.length_append, cs_len, cs_len]; lia
  | bx n =>
    have := Nv.len h
    rw [← cs_len, show (Ro.bx n).txt = ("box " : Str) ++ n from rfl, cs_app, List.length_append, cs_len, cs_len]; lia
  | lk n k =>
    have := Nv.len h.1
    have := Nv.len h.2
    rw [← cs_len, show (Ro.lk n k).txt = ("box " : Str) ++ n ++ (" " : Str) ++ k from rfl, cs_app, cs_app, cs_app, List.length_append, List.length_append, List.length_append, cs_len, cs_len, cs_len, cs_len]; lia
  | th n k =>
    have := Nv.len h.1
    have := Nv.len h.2
    rw [← cs_len, show (Ro.th n k).txt = ("thing " : Str) ++ n ++ (" " : Str) ++ k from rfl, cs_app, cs_app, cs_app, List.length_append, List.length_append, List.length_append, cs_len, cs_len, cs_len, cs_len]; lia
noncomputable def plc : List Ro → List (Str × Bool × Option Str)
  | [] => []
  | .pl n :: r => (n, false, none) :: plc r
  | .bx n :: r => (n, true, none) :: plc r
  | .lk n k :: r => (n, true, some k) :: plc r
  | .th _ _ :: r => plc r
noncomputable def ths : List Ro → List (Str × Str)
  | [] => []
  | .th n s :: r => (n, s) :: ths r
  | _ :: r => ths r
theorem plc_app : ∀ a b : List Ro, plc (a ++ b) = plc a ++ plc b
  | [], _ => rfl
  | .pl n :: r, b => by simp [plc, plc_app r b]
  | .bx n :: r, b => by simp [plc, plc_app r b]
  | .lk n k :: r, b => by simp [plc, plc_app r b]
  | .th n s :: r, b => by simp [plc, plc_app r b]
theorem ths_app : ∀ a b : List Ro, ths (a ++ b) = ths a ++ ths b
  | [], _ => rfl
  | .pl n :: r, b => by simp [ths, ths_app r b]
  | .bx n :: r, b => by simp [ths, ths_app r b]
  | .lk n k :: r, b => by simp [ths, ths_app r b]
  | .th n s :: r, b => by simp [ths, ths_app r b]
theorem names_perm : ∀ rs : List Ro, (rs.map Ro.name).Perm ((plc rs).map (·.1) ++ (ths rs).map (·.1))
  | [] => .nil
  | .pl n :: r => .cons _ (names_perm r)
  | .bx n :: r => .cons _ (names_perm r)
  | .lk n k :: r => .cons _ (names_perm r)
  | .th n s :: r => (List.Perm.cons n (names_perm r)).trans List.perm_middle.symm
theorem mem_plc_name {rs : List Ro} {n : Str} (h : n ∈ (plc rs).map (·.1)) : n ∈ rs.map Ro.name := (names_perm rs).mem_iff.mpr (List.mem_append_left _ h)
theorem mem_ths_name {rs : List Ro} {n : Str} (h : n ∈ (ths rs).map (·.1)) : n ∈ rs.map Ro.name := (names_perm rs).mem_iff.mpr (List.mem_append_right _ h)
structure Good (rs : List Ro) : Prop where
  nv : ∀ r ∈ rs, r.nv
  nd : (rs.map Ro.name).Nodup
  first : ∃ n t, plc rs = (n, false, none) :: t
  fewP : (plc rs).length ≤ 6
  fewT : (ths rs).length ≤ 6
  keys : ∀ p ∈ plc rs, ∀ k, p.2.2 = some k → k ∈ (ths rs).map (·.1)
theorem Good.floor {rs : List Ro} (g : Good rs) {a b : List Ro} {r : Ro} (e : rs = a ++ r :: b) (h : r.boxed = true) : plc a ≠ [] := fun z => by
  obtain ⟨n, t, f⟩ := g.first
  rw [e, plc_app, z, List.nil_append] at f
  cases r with
  | pl n => cases h
  | th n s => cases h
  | bx n => simp [plc] at f
  | lk n k => simp [plc] at f
theorem Good.ndT {rs : List Ro} (g : Good rs) : ((ths rs).map (·.1)).Nodup := ((List.nodup_append.mp ((names_perm rs).nodup_iff.mp g.nd))).2.1
theorem plc_ins (rs : List Ro) (i : Nat) (n s : Str) : plc (rs.take i ++ .th n s :: rs.drop i) = plc rs := by
  rw [plc_app]
  show plc (rs.take i) ++ plc (rs.drop i) = _
  rw [← plc_app, List.take_append_drop]
theorem ths_ins (rs : List Ro) (i : Nat) (n s : Str) : (ths (rs.take i ++ .th n s :: rs.drop i)).Perm ((n, s) :: ths rs) := by
  rw [ths_app]
  show (ths (rs.take i) ++ (n, s) :: ths (rs.drop i)).Perm _
  refine List.perm_middle.trans (.cons _ ?_)
  rw [← ths_app, List.take_append_drop]
end Rk
namespace Rk
open PySem PyProof.Rows L2 Tx
theorem cnt_count (c : Nat) : ∀ l : List Nat, cnt c l = (l.count c : Int)
  | [] => by rw [cnt_nil]; rfl
  | n :: r => by
    rw [cnt_cons, cnt_count c r, List.count_cons]
    by_cases h : n = c
    · simp [h]
      lia
    · simp [h]
theorem cs_blank : cs blank = [32] := by decide +kernel
theorem cs_join : ∀ ps : List Str, cs (Str.join blank ps) = J (ps.map cs)
  | [] => rfl
  | [a] => rfl
  | a :: b :: r => by
    show cs (a ++ blank ++ Str.join blank (b :: r)) = cs a ++ 32 :: J (cs b :: r.map cs)
    rw [cs_app, cs_app, cs_join (b :: r), cs_blank]
    simp
theorem map_cs : ∀ {xs ys : List Str}, xs.map cs = ys.map cs → xs = ys
  | [], [], _ => rfl
  | [], _ :: _, h => by simp at h
  | _ :: _, [], h => by simp at h
  | x :: xs, y :: ys, h => by
    (simp only [List.map_cons, List.cons.injEq] at h)
    rw [cs_inj h.1, map_cs h.2]
theorem split_words {x : Str} {ws : List Str} (h0 : ws ≠ []) (hx : cs x = J (ws.map cs)) (hb : ∀ w ∈ ws, 32 ∉ cs w) : Txt.split x blank = ws := by
  have hj := StrLaws.join_split x blank
  have hl := split_len x 32
  rw [← blank_eq, cnt_count] at hl
  have e1 : J ((Txt.split x blank).map cs) = cs x := by rw [← cs_join, hj]
  have hc := J_count ((Txt.split x blank).map cs)
  have n0 : Txt.split x blank ≠ [] := fun z => by
    rw [z] at hl
    simp at hl
    lia
  rw [if_neg (by simpa using n0), e1, List.length_map] at hc
  have hcc : (cs x).count 32 = x.cps.toList.count 32 := rfl
  have hs : (((Txt.split x blank).map cs).map (List.count 32)).sum = 0 := by lia
  have hp : ∀ p ∈ (Txt.split x blank).map cs, 32 ∉ p := fun p hp => by
    have := sum_zero hs (p.count 32) (List.mem_map_of_mem hp)
    exact List.count_eq_zero.mp this
  refine map_cs (J_inj (by simpa using n0) (by simpa using h0) hp (fun w hw => ?_) (e1.trans hx))
  obtain ⟨v, hv, rfl⟩ := List.mem_map.mp hw
  exact hb v hv
theorem words_ne (r : Ro) : r.words ≠ [] := by cases r <;> exact List.cons_ne_nil _ _
theorem split_txt {r : Ro} (h : r.nv) : Txt.split r.txt blank = r.words := split_words (words_ne r) (cs_txt r) (Ro.noblank h)
theorem starts_iff (x : Str) : Txt.startswith x thingB = true ↔ ∃ z, cs x = cs thingB ++ z := by
  have l6 : thingB.length = 6 := by decide +kernel
  have c6 : (cs thingB).length = 6 := by decide +kernel
  unfold Txt.startswith Builtin.Str.subAt
  rw [Bool.and_eq_true]
  constructor
  · rintro ⟨h1, h2⟩
    have e : x.cps.extract 0 (0 + thingB.length) = thingB.cps := by simpa using h2
    refine ⟨(cs x).drop 6, ?_⟩
    have e2 : (x.cps.extract 0 (0 + thingB.length)).toList = (cs x).take 6 := by
      rw [Array.toList_extract, l6]
      simp [cs]
    rw [e] at e2
    show cs x = thingB.cps.toList ++ (cs x).drop 6
    rw [e2, List.take_append_drop]
  · rintro ⟨z, h⟩
    have hl : x.length = 6 + z.length := by rw [← cs_len, h, List.length_append, c6]
    refine ⟨decide_eq_true (by lia), ?_⟩
    have e : x.cps.extract 0 (0 + thingB.length) = thingB.cps := by
      apply Array.toList_inj.mp
      rw [Array.toList_extract, l6]
      show (List.drop 0 (cs x)).take (0 + 6 - 0) = cs thingB
      rw [h, List.drop_zero]
      exact List.take_left' c6
    simpa using e
theorem starts_txt (r : Ro) : Txt.startswith r.txt thingB = !r.isP := by
  cases hp : r.isP with
  | false =>
    rw [(starts_iff r.txt).mpr ((txt_thing r).mp hp)]
    rfl
  | true =>
    cases hs : Txt.startswith r.txt thingB with
    | false => rfl
    | true =>
      have := (txt_thing r).mpr ((starts_iff r.txt).mp hs)
      rw [hp] at this
      cases this
theorem Nv.ascii {x : Str} (h : Nv x) : x.cps.all (· < 128) = true := by
  rw [Array.all_eq_true']
  intro c hc
  have := h.low c (by simpa [cs] using hc)
  (exact decide_eq_true (by lia))
theorem abc_ix : ∀ n : Nat, n < 26 → abc.cps.toList[n]? = some (97 + n) := by decide +kernel
theorem abc_num {i : Int} (h0 : 0 ≤ i) (h1 : i < 26) : atI abc.cps.toList i = some (97 + i.toNat) := by
  have q := atI_nat (abc_ix i.toNat (by lia))
  rw [Int.toNat_of_nonneg h0] at q
  exact q
theorem in_abc {c : Nat} (h1 : 97 ≤ c) (h2 : c ≤ 122) : (!(Builtin.Str.occurrences abc ⟨#[c]⟩ 0 abc.length 1).isEmpty) = true := by
  have h : ∀ n : Nat, n < 26 → (!(Builtin.Str.occurrences abc ⟨#[97 + n]⟩ 0 abc.length 1).isEmpty) = true := by decide +kernel
  have := h (c - 97) (by lia)
  rw [show 97 + (c - 97) = c by lia] at this
  exact this
theorem inV_strs (x : Str) : ∀ ys : List Str, inV (.str x) (ys.map V.str) = decide (x ∈ ys)
  | [] => rfl
  | y :: ys => by
    show (eqV (.str y) (.str x) || inV (.str x) (ys.map V.str)) = _
    rw [inV_strs x ys]
    by_cases h : y = x
    · subst h
      simp [eqV]
    · have h' : ¬ x = y := fun e => h e.symm
      simp [eqV, h, h']
theorem flat_strs : ∀ ys : List Str, (ys.map V.str).all flatV = true
  | [] => rfl
  | _ :: ys => by
    rw [List.map_cons, List.all_cons, flat_strs ys]
    rfl
noncomputable def lidsK : List Ro → List (Key × V)
  | [] => []
  | .bx n :: r => (Sum.inr n, .bl true) :: lidsK r
  | .lk n _ :: r => (Sum.inr n, .bl true) :: lidsK r
  | _ :: r => lidsK r
noncomputable def keysK : List Ro → List (Key × V)
  | [] => []
  | .lk n k :: r => (Sum.inr n, .str k) :: keysK r
  | _ :: r => keysK r
noncomputable def shK (rs : List Ro) : List (Key × V) := (ths rs).map fun x => (Sum.inr x.1, .str x.2)
theorem lidsK_app : ∀ a b : List Ro, lidsK (a ++ b) = lidsK a ++ lidsK b
  | [], _ => rfl
  | .pl n :: r, b => by simp [lidsK, lidsK_app r b]
  | .bx n :: r, b => by simp [lidsK, lidsK_app r b]
  | .lk n k :: r, b => by simp [lidsK, lidsK_app r b]
  | .th n s :: r, b => by simp [lidsK, lidsK_app r b]
theorem keysK_app : ∀ a b : List Ro, keysK (a ++ b) = keysK a ++ keysK b
  | [], _ => rfl
  | .pl n :: r, b => by simp [keysK, keysK_app r b]
  | .bx n :: r, b => by simp [keysK, keysK_app r b]
  | .lk n k :: r, b => by simp [keysK, keysK_app r b]
  | .th n s :: r, b => by simp [keysK, keysK_app r b]
theorem lidsK_len : ∀ rs : List Ro, (lidsK rs).length ≤ rs.length
  | [] => Nat.le_refl _
  | .pl n :: r => by have := lidsK_len r; simp [lidsK]; lia
  | .bx n :: r => by have := lidsK_len r; simp [lidsK]; lia
  | .lk n k :: r => by have := lidsK_len r; simp [lidsK]; lia
  | .th n s :: r => by have := lidsK_len r; simp [lidsK]; lia
theorem keysK_len : ∀ rs : List Ro, (keysK rs).length ≤ rs.length
  | [] => Nat.le_refl _
  | .pl n :: r => by have := keysK_len r; simp [keysK]; lia
  | .bx n :: r => by have := keysK_len r; simp [keysK]; lia
  | .lk n k :: r => by have := keysK_len r; simp [keysK]; lia
  | .th n s :: r => by have := keysK_len r; simp [keysK]; lia
theorem lidsK_none {x : Str} : ∀ {rs : List Ro}, x ∉ rs.map Ro.name → valV (lidsK rs) (Sum.inr x : Key) = none
  | [], _ => rfl
  | .pl n :: r, h => lidsK_none (rs := r) fun z => h (List.mem_cons_of_mem _ z)
  | .th n s :: r, h => lidsK_none (rs := r) fun z => h (List.mem_cons_of_mem _ z)
  | .bx n :: r, h => by
    show valV ((Sum.inr n, .bl true) :: lidsK r) _ = none
    rw [valV_neg (fun e => h (by rw [Sum.inr.inj e]; exact List.mem_cons_self))]
    exact lidsK_none (rs := r) fun z => h (List.mem_cons_of_mem _ z)
  | .lk n k :: r, h => by
    show valV ((Sum.inr n, .bl true) :: lidsK r) _ = none
    rw [valV_neg (fun e => h (by rw [Sum.inr.inj e]; exact List.mem_cons_self))]
    exact lidsK_none (rs := r) fun z => h (List.mem_cons_of_mem _ z)
theorem keysK_none {x : Str} : ∀ {rs : List Ro}, x ∉ rs.map Ro.name → valV (keysK rs) (Sum.inr x : Key) = none
  | [], _ => rfl
  | .pl n :: r, h => keysK_none (rs := r) fun z => h (List.mem_cons_of_mem _ z)
  | .th n s :: r, h => keysK_none (rs := r) fun z => h (List.mem_cons_of_mem _ z)
  | .bx n :: r, h => keysK_none (rs := r) fun z => h (List.mem_cons_of_mem _ z)
  | .lk n k :: r, h => by
    show valV ((Sum.inr n, .str k) :: keysK r) _ = none
    rw [valV_neg (fun e => h (by rw [Sum.inr.inj e]; exact List.mem_cons_self))]
    exact keysK_none (rs := r) fun z => h (List.mem_cons_of_mem _ z)
theorem lidsK_ins (rs : List Ro) (i : Nat) (n s : Str) : lidsK (rs.take i ++ .th n s :: rs.drop i) = lidsK rs := by
  rw [lidsK_app]
  show lidsK (rs.take i) ++ lidsK (rs.drop i) = _
  rw [← lidsK_app, List.take_append_drop]
theorem keysK_ins (rs : List Ro) (i : Nat) (n s : Str) : keysK (rs.take i ++ .th n s :: rs.drop i) = keysK rs := by
  rw [keysK_app]
  show keysK (rs.take i) ++ keysK (rs.drop i) = _
  rw [← keysK_app, List.take_append_drop]
end Rk
namespace Rk
open PySem PySem.Spec PyProof.Rows L2 Tx
theorem split_join {ws : List Str} (h0 : ws ≠ []) (hb : ∀ w ∈ ws, 32 ∉ cs w) : Txt.split (Txt.join blank ws) blank = ws := by
  refine split_words h0 ?_ hb
  rw [← cs_join]
  exact congrArg cs (StrLaws.glued_eq_join blank ws)
noncomputable def Lo (p : Str × Bool × Option Str) (l : Str) : Prop := l = "open" ∨ (l = "shut" ∧ p.2.1 = true) ∨ (l = "locked" ∧ p.2.2.isSome = true)
theorem lids_some : ∀ {rs : List Ro} {p : Str × Bool × Option Str}, (rs.map Ro.name).Nodup → p ∈ plc rs → (valV (lidsK rs) (Sum.inr p.1 : Key)).isSome = true → p.2.1 = true
  | [], _, _, h, _ => nomatch h
  | .th n s :: r, p, nd, h, e => lids_some (rs := r) (List.nodup_cons.mp nd).2 h e
  | .pl n :: r, p, nd, h, e => by
    rcases List.mem_cons.mp (show p ∈ (n, false, none) :: plc r from h) with z | z
    · have hn : n ∉ r.map Ro.name := (List.nodup_cons.mp nd).1
      have e' : (valV (lidsK r) (Sum.inr p.1 : Key)).isSome = true := e
      rw [z, lidsK_none hn] at e'
      cases e'
    · exact lids_some (rs := r) (List.nodup_cons.mp nd).2 z e
  | .bx n :: r, p, nd, h, e => by
    rcases List.mem_cons.mp (show p ∈ (n, true, none) :: plc r from h) with z | z
    · rw [z]
    · have hne : n ≠ p.1 := fun q => (List.nodup_cons.mp nd).1 (by rw [show Ro.name (.bx n) = n from rfl, q]; exact mem_plc_name (List.mem_map_of_mem z))
      have e' : (valV ((Sum.inr n, V.bl true) :: lidsK r) (Sum.inr p.1 : Key)).isSome = true := e
      rw [valV_neg (fun q => hne (Sum.inr.inj q))] at e'
      exact lids_some (rs := r) (List.nodup_cons.mp nd).2 z e'
  | .lk n k :: r, p, nd, h, e => by
    rcases List.mem_cons.mp (show p ∈ (n, true, some k) :: plc r from h) with z | z
    · rw [z]
    · have hne : n ≠ p.1 := fun q => (List.nodup_cons.mp nd).1 (by rw [show Ro.name (.lk n k) = n from rfl, q]; exact mem_plc_name (List.mem_map_of_mem z))
      have e' : (valV ((Sum.inr n, V.bl true) :: lidsK r) (Sum.inr p.1 : Key)).isSome = true := e
      rw [valV_neg (fun q => hne (Sum.inr.inj q))] at e'
      exact lids_some (rs := r) (List.nodup_cons.mp nd).2 z e'
theorem keys_some : ∀ {rs : List Ro} {p : Str × Bool × Option Str}, (rs.map Ro.name).Nodup → p ∈ plc rs → (valV (keysK rs) (Sum.inr p.1 : Key)).isSome = true → p.2.2.isSome = true
  | [], _, _, h, _ => nomatch h
  | .th n s :: r, p, nd, h, e => keys_some (rs := r) (List.nodup_cons.mp nd).2 h e
  | .pl n :: r, p, nd, h, e => by
    rcases List.mem_cons.mp (show p ∈ (n, false, none) :: plc r from h) with z | z
    · have hn : n ∉ r.map Ro.name := (List.nodup_cons.mp nd).1
      have e' : (valV (keysK r) (Sum.inr p.1 : Key)).isSome = true := e
      rw [z, keysK_none hn] at e'
      cases e'
    · exact keys_some (rs := r) (List.nodup_cons.mp nd).2 z e
  | .bx n :: r, p, nd, h, e => by
    rcases List.mem_cons.mp (show p ∈ (n, true, none) :: plc r from h) with z | z
    · have hn : n ∉ r.map Ro.name := (List.nodup_cons.mp nd).1
      have e' : (valV (keysK r) (Sum.inr p.1 : Key)).isSome = true := e
      rw [z, keysK_none hn] at e'
      cases e'
    · exact keys_some (rs := r) (List.nodup_cons.mp nd).2 z e
  | .lk n k :: r, p, nd, h, e => by
    rcases List.mem_cons.mp (show p ∈ (n, true, some k) :: plc r from h) with z | z
    · rw [z]; rfl
    · have hne : n ≠ p.1 := fun q => (List.nodup_cons.mp nd).1 (by rw [show Ro.name (.lk n k) = n from rfl, q]; exact mem_plc_name (List.mem_map_of_mem z))
      have e' : (valV ((Sum.inr n, V.str k) :: keysK r) (Sum.inr p.1 : Key)).isSome = true := e
      rw [valV_neg (fun q => hne (Sum.inr.inj q))] at e'
      exact keys_some (rs := r) (List.nodup_cons.mp nd).2 z e'
noncomputable def Al (rs : List Ro) (x l : Str) : Prop := l = "open" ∨ (l = "shut" ∧ (valV (lidsK rs) (Sum.inr x : Key)).isSome = true) ∨ (l = "locked" ∧ (valV (keysK rs) (Sum.inr x : Key)).isSome = true)
theorem Al.lo {rs : List Ro} (g : Good rs) {p : Str × Bool × Option Str} {l : Str} (h : p ∈ plc rs) (a : Al rs p.1 l) : Lo p l := by
  rcases a with a | ⟨a, b⟩ | ⟨a, b⟩
  · exact .inl a
  · exact .inr (.inl ⟨a, lids_some g.nd h b⟩)
  · exact .inr (.inr ⟨a, keys_some g.nd h b⟩)
theorem set_flat {α : Type} {a b : List α} {x : α} : ∀ {xss : List (List α)} {j : Nat}, xss[j]? = some (a ++ b) → ((xss.set j (a ++ x :: b)).flatten).Perm (x :: xss.flatten)
  | [], _, h => by simp at h
  | y :: r, 0, h => by
    have e : y = a ++ b := by simpa using h
    subst e
    rw [List.set_cons_zero, List.flatten_cons, List.flatten_cons]
    have : (a ++ x :: b ++ r.flatten) = a ++ x :: (b ++ r.flatten) := by simp
    rw [this, List.append_assoc]
    exact List.perm_middle
  | y :: r, j + 1, h => by
    rw [List.set_cons_succ, List.flatten_cons, List.flatten_cons]
    have ih := set_flat (a := a) (b := b) (x := x) (xss := r) (j := j) (by simpa using h)
    exact (List.Perm.append_left y ih).trans List.perm_middle
theorem len_flat {α : Type} : ∀ {xss : List (List α)} {h : List α}, h ∈ xss → h.length ≤ xss.flatten.length
  | y :: r, h, hm => by
    rw [List.flatten_cons, List.length_append]
    rcases List.mem_cons.mp hm with e | e
    · rw [e]; lia
    · have := len_flat e
      lia
end Rk
namespace SK
open PySem PyProof.Rows
noncomputable def dd {κ : Type} [DecidableEq κ] (val : Nat → κ) : Nat → List κ
  | 0 => []
  | i + 1 => if val i ∈ dd val i then dd val i else dd val i ++ [val i]
section
variable {κ : Type} [DecidableEq κ] {val : Nat → κ}
theorem dd_le : ∀ i : Nat, (dd val i).length ≤ i
  | 0 => Nat.le_refl _
  | i + 1 => by
    have ih := dd_le i
    show (if val i ∈ dd val i then dd val i else dd val i ++ [val i]).length ≤ i + 1
    split
    · lia
    · rw [List.length_append]
      show (dd val i).length + 1 ≤ i + 1
      lia
theorem dd_mem : ∀ {i : Nat} {x : κ}, x ∈ dd val i → ∃ j, j < i ∧ x = val j
  | 0, _, h => nomatch h
  | i + 1, x, h => by
    have h' : x ∈ (if val i ∈ dd val i then dd val i else dd val i ++ [val i]) := h
    split at h'
    · obtain ⟨j, hj, e⟩ := dd_mem h'
      exact ⟨j, by lia, e⟩
    · rcases List.mem_append.mp h' with z | z
      · obtain ⟨j, hj, e⟩ := dd_mem z
        exact ⟨j, by lia, e⟩
      · exact ⟨i, by lia, List.mem_singleton.mp z⟩
theorem dd_full {n : Nat} (inj : ∀ i j, i < n → j < n → val i = val j → i = j) : ∀ i : Nat, i ≤ n → (dd val i).length = i
  | 0, _ => rfl
  | i + 1, h => by
    have ih := dd_full inj i (by lia)
    show (if val i ∈ dd val i then dd val i else dd val i ++ [val i]).length = i + 1
    rw [if_neg, List.length_append, ih]
    · rfl
    · intro z
      obtain ⟨j, hj, e⟩ := dd_mem z
      have := inj i j (by lia) (by lia) e
      lia
theorem dd_step (i : Nat) (x : κ) : decide (x ∈ dd val (i + 1)) = (decide (x ∈ dd val i) || decide (x = val i)) := by
  show decide (x ∈ (if val i ∈ dd val i then dd val i else dd val i ++ [val i])) = _
  by_cases h : val i ∈ dd val i
  · rw [if_pos h]
    by_cases e : x = val i
    · subst e; simp [h]
    · simp [e]
  · rw [if_neg h]
    simp [List.mem_append]
theorem dd_size (i : Nat) : (dd val (i + 1)).length = if decide (val i ∈ dd val i) = true then (dd val i).length else (dd val i).length + 1 := by
  show (if val i ∈ dd val i then dd val i else dd val i ++ [val i]).length = _
  by_cases h : val i ∈ dd val i
  · rw [if_pos h, if_pos (decide_eq_true h)]
  · rw [if_neg h, if_neg (by simpa using h), List.length_append]
    rfl
end
section
variable {prog : Program} {w : World} {κ : Type} [DecidableEq κ] {knd : KeyKind prog w κ} {A : Around} {R : Result → Shared → Prop} {I : Addr} {fp wr : List Addr} {G : Array GenState → Array GenState → Prop} {n : Nat} {P : Nat → Value → Prop} {St : Nat → Shared → Prop}
theorem kept {S : Addr} {h h' : Heap} {f : κ → Bool} {m : Nat} (q : h.SetOf knd S f m) (e : ∀ o, h.get? S = some o → h'.get? S = some o) : h'.SetOf knd S f m := by
  obtain ⟨o, es, ep, t, ho, r⟩ := q
  exact ⟨o, es, ep, t, e o ho, r⟩
theorem congr' {S : Addr} {h : Heap} {f g : κ → Bool} {m k : Nat} (q : h.SetOf knd S f m) (e : ∀ x, f x = g x) (em : m = k) : h.SetOf knd S g k := by
  have : f = g := funext e
  subst this em
  exact q
theorem fill (W : WalksS prog w A.in1 I fp wr G n P St) (S : Addr) (nS : S ∉ fp) (val : Nat → κ) (hv : ∀ i v, P i v → knd.is (val i) v = true ∧ v.scannable = true) (hb : n + 1 < scanBound) :
    ∀ (k i : Nat) (s : Shared), n - i = k → i ≤ n → St i s → s.heap.SetOf knd S (fun x => decide (x ∈ dd val i)) (dd val i).length →
      (∀ s', Moved (S :: wr) G s s' → s'.heap.SetOf knd S (fun x => decide (x ∈ dd val n)) (dd val n).length → R (.ok (.ret .none)) s') →
      (codeAny (model prog w) A (.builtin "set.update.loop" ⟨[.ref S, .ref I], []⟩) R s) := by
  have nw : S ∉ wr := fun h => nS (W.sub _ h)
  have sub : ∀ b ∈ wr, b ∈ S :: wr := fun b z => List.mem_cons_of_mem _ z
  intro k
  induction k with
  | zero =>
    intro i s hk hi st hS fin
    obtain rfl : i = n := by lia
    refine codeAny_builtin PyProof.Rows.F.entry_set_update_loop ?_
    rw [Around.under_plainId PyProof.Rows.F.plain_set_update_loop _]
    refine wpAny_bind (m := pyNext (.ref I)) (W.done s _ _ st fun s1 hm => ?_)
    exact wpAny_pure (fin s1 (hm.mono sub) (kept hS fun o e => hm.heap S o nw e))
  | succ k ih =>
    intro i s hk hi st hS fin
    have lt : i < n := by lia
    refine codeAny_builtin PyProof.Rows.F.entry_set_update_loop ?_
    rw [Around.under_plainId PyProof.Rows.F.plain_set_update_loop _]
    refine wpAny_bind (m := pyNext (.ref I)) (W.item i s _ _ lt st fun v s1 hP st1 hm => ?_)
    obtain ⟨key, sc⟩ := hv i v hP
    refine wpAny_bind (m := holding [v] (setAdd S v)) (wpAny_holding ?_)
    unfold setAdd
    refine wpAny_holding (wpAny_bind (knd.pyHash (k := val i) key ?_))
    have room : (dd val i).length + 1 < scanBound := by have := dd_le (val := val) i; lia
    refine wpAny_setAddHashed_of (knd := knd) (s := { s1 with toks := s1.toks + 1 }) key sc (kept hS fun o e => hm.heap S o nw e) room fun h2 sb hS2 => ?_
    have hS3 : h2.SetOf knd S (fun x => decide (x ∈ dd val (i + 1))) (dd val (i + 1)).length := congr' hS2 (fun x => (dd_step i x).symm) (dd_size i).symm
    have oth : ∀ b o, b ≠ S → s1.heap.get? b = some o → h2.get? b = some o := fun b o z e => (sb.2 b z).trans e
    refine wpAny_pure ⟨plainId_quiet PyProof.Rows.F.plain_set_update_loop _, ih (i + 1) _ (by lia) lt (W.frame _ s1 h2 (s1.toks + 1) st1 (Nat.le_succ _) fun b hb o e => oth b o (fun z => nS (z ▸ hb)) e) hS3 fun s2 hm2 q => ?_⟩
    refine fin s2 (Moved.trans W.gtrans ((hm.mono sub).then_heap (Nat.le_succ _) fun b o hb e => oth b o (fun z => hb (z ▸ List.mem_cons_self)) e) hm2) q
end
section
variable {prog : Program} {w : World} {κ : Type} [DecidableEq κ] {knd : KeyKind prog w κ} {A : Around} {E : Value → Shared → Prop} {s : Shared}
noncomputable abbrev fset (led : Bool) : Obj := { cls := .type "set", dict := none, data := .set #[] 0 (.fresh 0 0 led) }
set_option maxHeartbeats 3300000 in
theorem make {l : Addr} {items : Array Value} {val : Nat → κ} {Q : Value → Shared → Prop} (hh : A.handled = none) (hl : s.heap.IsList l items) (hv : ∀ i v, items[i]? = some v → knd.is (val i) v = true ∧ v.scannable = true) (hb : items.size + 1 < scanBound)
    (q : ∀ (h' : Heap) (tk : Nat), h'.SetOf knd s.heap.objs.size (fun x => decide (x ∈ dd val items.size)) (dd val items.size).length → (∀ b o, s.heap.get? b = some o → h'.get? b = some o) → Q (.ref s.heap.objs.size) { s with heap := h', toks := tk }) :
    (wpAny (model prog w) A (call (.type "set") [.ref l]) Q E s) := by
  obtain ⟨c, tl, hmro⟩ := PySem.F.called_set.mro
  have hmade := PySem.F.called_set.made
  have hsub := PySem.F.called_set.sub
  refine wpAny_call (codeAny_of_tree (show wpAny _ _ (callAny (.type "set") _) _ _ _ from ?_))
  refine wpAny_pure ⟨Code.quiet_builtin _ (by decide +kernel), codeAny_builtin PySem.F.entry_type_call ?_⟩
  (rw [Around.under_plain (weight_type_call_type "set" [.ref l] []) rfl])
  have h1 := PySem.F.called_set.notType
  have h2 := PySem.F.called_set.canCreate
  have hct := PySem.F.typeCall_set_1 (.ref l)
  (repeat (any_goals (first | assumption | wp_step)))
  refine codeAny_mono (code_set_new_1 (.ref l) (E := E) (Q₁ := fun ob s1 => ∃ led : Bool, ob = .ref s.heap.objs.size ∧ s1 = { s with heap := s.heap.push { cls := .type "set", dict := none, data := .set #[] 0 (.fresh 0 0 led) } }) fun led => ⟨led, rfl, rfl⟩) fun r s1 hr => ?_
  cases r with
  | error e => exact hr
  | ok fl =>
    cases fl with
    | ret ob =>
      obtain ⟨led, rfl, rfl⟩ := hr
      have hS : (s.heap.push (fset led)).get? s.heap.objs.size = some (fset led) := Heap.get?_push_size _ rfl
      have hT : Shared.TypeIs { s with heap := s.heap.push (fset led) } (.ref s.heap.objs.size) "set" := ⟨_, hS, rfl⟩
      have hli := PySem.F.called_set.init.lookup
      have hbi := PySem.F.called_set.init.bind (.ref s.heap.objs.size)
      (repeat (any_goals (first | assumption | wp_step)))
      refine codeAny_mono (codeAny_call_builtin (R := wants (fun r s2 => r = .none ∧ ∃ h' tk, s2 = { s with heap := h', toks := tk } ∧ h'.SetOf knd s.heap.objs.size (fun x => decide (x ∈ dd val items.size)) (dd val items.size).length ∧
          (∀ b o, s.heap.get? b = some o → h'.get? b = some o)) E) PySem.F.called_set.init.plain PySem.F.entry_set_init (check_set_init_1 hT ?_)) fun r2 s2 hr2 => ?_
      · obtain ⟨⟨ocls, odict, odata, oslots⟩, hol, hcl, nl, hdl⟩ := hl
        simp only at hcl hdl
        subst hcl hdl
        have hol' : (s.heap.push (fset led)).get? l = some { cls := .type "list", dict := odict, data := .seq items nl, slots := oslots } := Heap.get?_push_of_some _ hol
        have x1 := PySem.F.sub_list_set
        have x2 := PySem.F.sub_list_frozenset
        have x3 : (Value.type "list" == Value.type "dict") = false := by decide
        have hl1 : (s.heap.push (fset led)).IsList l items := ⟨_, hol', rfl, nl, rfl⟩
        (unfold Builtin.«set.__init__» noKeywords Builtin.Frozenset.updateFrom)
        generalize hPI : pyIter = PI
        wp_walk
        subst hPI
        (refine wpAny_pyIter_list hl1 ?_)
        (refine wpAny_bind (wpAny_runValue ?_))
        have lt : l < s.heap.objs.size := Heap.lt_size hol
        have sz : (s.heap.push (fset led)).objs.size = s.heap.objs.size + 1 := Heap.size_push ..
        (have hh3 : A.in1.in1.in1.handled = none := by simp [hh])
        have ne1 : l ≠ (s.heap.push (fset led)).objs.size := by rw [sz]; exact Nat.ne_of_lt (Nat.lt_succ_of_lt lt)
        have nS : s.heap.objs.size ∉ [(s.heap.push (fset led)).objs.size, l] := by
          rw [sz]
          simp only [List.mem_cons, List.not_mem_nil, or_false, not_or]
          exact ⟨Nat.ne_of_lt (Nat.lt_succ_self _), Nat.ne_of_gt lt⟩
        refine fill (knd := knd) ((Walks.list hh3 _ l ne1 items).toS) s.heap.objs.size nS val hv hb (items.size - 0) 0 _ (by lia) (Nat.zero_le _) ⟨⟨_, Heap.get?_push_size _ rfl, rfl, rfl⟩, hl1.push _⟩ ?_ fun s3 hm q3 => ?_
        · have g := Heap.get?_push_of_some ({ cls := .type "list_iterator", data := .fields #[.ref l, .int 0 0] } : Obj) hS
          exact congr' ((PyProof.Rows.setObjOf_fresh (knd := knd) led).setOf g (by unfold scanBound; lia)) (fun x => by simp [dd]) rfl
        · obtain ⟨h3, g3, d3, tk3, os3⟩ := s3
          obtain ⟨m1, m2, m3, m4, m5⟩ := hm
          have eg : g3 = s.gens := m2
          have ed : d3 = s.drawn := m3
          have es : os3 = s.os := m4
          subst eg ed es
          refine wpAny_pure (wpAny_pure ⟨rfl, h3, tk3, rfl, q3, fun b o e => m1 b o ?_ (Heap.get?_push_of_some _ (Heap.get?_push_of_some _ e))⟩)
          have lb : b < s.heap.objs.size := Heap.lt_size e
          rw [sz]
          simp only [List.mem_cons, List.not_mem_nil, or_false, not_or]
          exact ⟨Nat.ne_of_lt lb, Nat.ne_of_lt (Nat.lt_succ_of_lt lb)⟩
      · cases r2 with
        | error e => exact hr2
        | ok fl2 =>
          cases fl2 with
          | ret r =>
            obtain ⟨rfl, h', tk, rfl, a1, a2⟩ := hr2
            (repeat (any_goals (first | assumption | wp_step)))
            exact q _ _ a1 a2
          | _ => exact hr2.elim
    | _ => exact hr.elim
end
end SK
namespace L2
open PySem PySem.Spec PyProof.Rows
theorem vals_at : ∀ {xs : List V} {us : List Value}, xs.length = us.length → (∀ (i : Nat) x u, xs[i]? = some x → us[i]? = some u → RelV x u) → Vals xs us
  | [], [], _, _ => .nil
  | [], _ :: _, h, _ => by (simp at h)
  | _ :: _, [], h, _ => by (simp at h)
  | x :: xs, u :: us, h, r => .cons (r 0 x u rfl rfl) (vals_at (by simpa using h) fun i y v hy hv => r (i + 1) y v (by simpa using hy) (by simpa using hv))
theorem KV.get : ∀ {kvs : List (Key × V)} {vs : List (Key × Value)} {i : Nat} {k : Key} {u : Value}, KV kvs vs → vs[i]? = some (k, u) → ∃ v, kvs[i]? = some (k, v) ∧ RelV v u
  | _, _, _, _, _, .nil, e => by simp at e
  | _, _, 0, _, _, .cons (a := p) r _, e => by
    simp at e
    subst e
    obtain ⟨e1, e2⟩ := r
    obtain ⟨p1, p2⟩ := p
    cases e1
    exact ⟨p2, rfl, e2⟩
  | _, _, i + 1, _, _, .cons _ t, e => by
    obtain ⟨v, h1, h2⟩ := KV.get (i := i) t (by simpa using e)
    exact ⟨v, by simpa using h1, h2⟩
section
variable {X : Cx}
theorem call_listD (hc : X.calm = true) : CallR X (.type "list") (fun xs H Q => ∃ p kvs, xs = [.ref p] ∧ Rd H p (.dK kvs) ∧ ∀ l, H l = none → Q (.ref l) (upd H l (.lst (kvs.map fun kv => kV kv.1)))) := by
  intro pins s σ H xs us Q I r h
  obtain ⟨p, kvs, rfl, hp, q⟩ := h
  obtain ⟨u, rfl, ru⟩ := vals1 r
  cases ru
  obtain ⟨hz, hm, vs, hkv, hd⟩ := dk_rd I.hok hp
  obtain ⟨ep, hat⟩ := hd.dictAt
  have hl := hkv.length
  refine PySem.W.kdl_call (PySem.W.kdl_dict (knd := mixKind X.prog X.w) (kvs := vs) (ep := ep) hm) (I.ok.hd hc) hat (by lia) fun h' tk acc c hk hS hacc => ?_
  refine ⟨.ref _, _, I.laid (a := s.heap.objs.size) (o := .lst (kvs.map fun kv => kV kv.1)) hk (Nat.le_refl _) ⟨by rw [List.length_map]; exact hz, acc.toList, c, vals_at ?_ fun i x u hx hu => ?_, hS⟩, rfl, q _ (I.hok.fresh (Nat.le_refl _))⟩
  · have el : acc.toList.length = acc.size := by simp
    rw [List.length_map, el, hacc.1, hl]
  · obtain ⟨k, z, e1, e2⟩ := hacc.2 i u (by simpa using hu)
    obtain ⟨v, e3, _⟩ := KV.get hkv e1
    rw [List.getElem?_map, e3] at hx
    have hx' : x = kV k := (Option.some.inj hx).symm
    subst hx'
    rcases keyIs_shape (show keyIs k u = true from e2) with ⟨j, t, rfl, rfl⟩ | ⟨y, t, rfl, rfl⟩
    · exact ⟨t, rfl⟩
    · exact ⟨t, rfl⟩
theorem call_all (hc : X.calm = true) : CallR X (.builtin "all") (fun xs H Q => ∃ (p : Addr) (bs : List Bool), xs = [.ref p] ∧ SqL X.K H p (bs.map V.bl) ∧ Q (.bl (bs.all fun b => b)) H) := by
  intro pins s σ H xs us Q I r h
  obtain ⟨p, bs, rfl, hp, q⟩ := h
  obtain ⟨u, rfl, ru⟩ := vals1 r
  cases ru
  obtain ⟨its, rv, pl, hz⟩ := I.list hp
  have hlen := rv.length
  rw [List.length_map] at hlen
  have hlt : p < s.heap.objs.size := by
    obtain ⟨o, n, e, _⟩ := pl
    exact Heap.lt_size e
  refine call_all_walk (wpAny_pyIter_list pl.isList ⟨s.heap.objs.size, _, _, _, _, _, fun i => bs.getD i true, rfl, Walks.list (show X.A.in1.handled = none from I.ok.hd hc) _ p (Nat.ne_of_lt hlt) its.toArray, ⟨⟨_, Heap.get?_push_size _ rfl, rfl, rfl⟩, pl.isList.push _⟩, fun i v s2 Q2 E2 hP hQ => ?_, fun h' tk hk => ?_⟩)
  · have hi : its[i]? = some v := by simpa using hP
    have hib : i < bs.length := by
      have := (List.getElem?_eq_some_iff.mp hi).1
      lia
    obtain ⟨u', hu', ru⟩ := rv.get (i := i) (x := .bl bs[i]) (by simp [hib])
    rw [hi] at hu'
    cases hu'
    cases ru
    refine wpAny_truthy_bool ?_
    have e : bs.getD i true = bs[i] := by simp [List.getD, hib]
    rw [← e]
    exact hQ
  · refine ⟨.bl _, H, I.kept (t' := tk) (fun b o e => hk b o ?_ (Heap.get?_push_of_some _ e)), rfl, ?_⟩
    · intro z
      rw [List.mem_singleton] at z
      exact absurd (Heap.lt_size e) (by rw [z]; exact Nat.lt_irrefl _)
    · have e : (List.range its.toArray.size).all (fun i => bs.getD i true) = bs.all fun b => b := by
        rw [List.size_toArray, ← hlen]
        (rw [Bool.eq_iff_iff, List.all_eq_true, List.all_eq_true])
        constructor
        · intro a b hb
          (obtain ⟨i, hi, rfl⟩ := List.getElem_of_mem hb)
          have := a i (List.mem_range.mpr hi)
          simpa [List.getD, hi] using this
        · intro a i hi
          (have hi' := List.mem_range.mp hi)
          have := a bs[i] (List.getElem_mem hi')
          simpa [List.getD, hi'] using this
      rw [e]
      exact q
noncomputable def setO (P : Program) (w : World) (a : Addr) (n : Nat) : HO := .ext fun h => ∃ S, h.SetOf (mixKind P w) a S n
noncomputable def kAt (ks : List Key) (i : Nat) : Key := ks.getD i (.inl 0)
theorem call_setK (hc : X.calm = true) : CallR X (.type "set") (fun xs H Q => ∃ p ks, xs = [.ref p] ∧ SqL X.K H p (ks.map kV) ∧ ks.length ≤ 1000 ∧ ∀ a, H a = none → Q (.ref a) (upd H a (setO X.prog X.w a (SK.dd (kAt ks) ks.length).length))) := by
  intro pins s σ H xs us Q I r h
  obtain ⟨p, ks, rfl, hp, hk, q⟩ := h
  obtain ⟨u, rfl, ru⟩ := vals1 r
  cases ru
  obtain ⟨its, rv, pl, hz⟩ := I.list hp
  have hlen := rv.length
  rw [List.length_map] at hlen
  refine SK.make (knd := mixKind X.prog X.w) (val := kAt ks) (I.ok.hd hc) pl.isList (fun i v hv => ?_) (by rw [List.size_toArray]; unfold scanBound; lia) fun h' tk hS kp => ?_
  · have hi : its[i]? = some v := by simpa using hv
    have hib : i < ks.length := by
      have := (List.getElem?_eq_some_iff.mp hi).1
      lia
    obtain ⟨u', hu', ru⟩ := rv.get (i := i) (x := kV ks[i]) (by simp [hib])
    rw [hi] at hu'
    cases hu'
    have e : kAt ks i = ks[i] := by simp [kAt, List.getD, hib]
    rw [e]
    refine ⟨kV_is ru, ?_⟩
    cases hkk : ks[i] with
    | inl j => rw [hkk] at ru; obtain ⟨t, rfl⟩ := ru; rfl
    | inr y => rw [hkk] at ru; obtain ⟨t, rfl⟩ := ru; rfl
  · have es : its.toArray.size = ks.length := by simp [hlen]
    rw [es] at hS
    refine ⟨.ref _, _, I.laid (a := s.heap.objs.size) (o := setO X.prog X.w s.heap.objs.size (SK.dd (kAt ks) ks.length).length) kp (Nat.le_refl _) ⟨⟨_, hS⟩, ?_, fun h1 h2 f1 e => ?_⟩, rfl, q _ (I.hok.fresh (Nat.le_refl _))⟩
    · obtain ⟨o, _, _, _, e, _⟩ := hS
      exact ⟨o, e⟩
    · obtain ⟨S, z⟩ := f1
      exact ⟨S, SK.kept z e⟩
theorem call_lenS : CallR X (.builtin "len") (fun xs H Q => ∃ a n, xs = [.ref a] ∧ H a = some (setO X.prog X.w a n) ∧ Q (.int n) H) := by
  intro pins s σ H xs us Q I r h
  obtain ⟨a, n, rfl, ha, q⟩ := h
  obtain ⟨u, rfl, ru⟩ := vals1 r
  cases ru
  obtain ⟨⟨S, o, es, ep, t, ho, ex, hd, _, _, hb, hf, hn⟩, _, _⟩ := I.hok a _ ha
  refine call_len_set ho ex hd hf (by unfold scanBound at hb; lia) ⟨.int n, H, I.tok _, ⟨_, by rw [hn]⟩, q⟩
end
noncomputable def Its (x : Str) : It := ⟨fun i _ => i < x.cps.size, fun i H v H' => H' = H ∧ ∃ c, x.cps[i]? = some c ∧ v = .str ⟨#[c]⟩, fun i _ => x.cps.size ≤ i⟩
theorem turn_str {P : Program} {w : World} {K : PySem.W.Frag} {tg : Expr} (it : Addr) (x : Str) (t : Tok) : Turn P w K tg (Its x) [it] it (fun i h => h.IsStrIter it "str_ascii_iterator" x t i) where
  mem := by simp
  obj := fun i h st b hb => by
    have e : b = it := by simpa using hb
    subst e
    obtain ⟨o, e, c, d⟩ := st
    exact ⟨o, e, fun v z => by rw [d] at z; cases z⟩
  keep := fun i h h' st k => by
    obtain ⟨o, e, r⟩ := st
    exact ⟨o, k it (by simp) o e, r⟩
  item := by
    intro X hP hw hK hc i pins s σ H E I hf st hg
    subst hP hw hK
    obtain ⟨f0, f1, f2, f3, f4, f5⟩ := hf it (by simp)
    have hi : i < x.cps.size := hg
    refine wpAny_pyNext_ascii_item st (c := x.cps[i]) (by simp [hi]) fun h' st' sb => ?_
    have I1 : Inv X pins σ H { s with heap := h', toks := s.toks + 1 } := I.turned (fun b o hb e => (sb.2 b hb).trans e) f0 f1 f3 f4 f5
    obtain ⟨o, e, c, d⟩ := id st'
    exact ⟨_, rfl, go_of (s := { s with heap := h', toks := s.toks + 1 }) e c d (by decide) ⟨.str ⟨#[x.cps[i]]⟩, H, I1, ⟨_, rfl⟩, ⟨rfl, _, by simp [hi], rfl⟩, st', fun b hb => (hf b hb).1⟩⟩
  done := by
    intro X hP hw hK hc i pins s σ H E I hf st hg
    subst hP hw hK
    obtain ⟨f0, f1, f2, f3, f4, f5⟩ := hf it (by simp)
    have hi : x.cps.size ≤ i := hg
    exact wpAny_pyNext_ascii_end (I.ok.hd hc) st (by simp [hi]) fun h' eb => ⟨rfl, I.turned (t' := s.toks) (fun b o hb e => eb b o hb e) f0 f1 f3 f4 f5⟩
  self := fun _ _ _ _ _ st h => wpAny_pyIter_striter_ascii st h
noncomputable def iStr (tl : TE) : TI := fun σ H R => tl σ H fun v H1 => ∃ x, v = .str x ∧ x.cps.all (· < 128) = true ∧ R (Its x) H1
theorem pi_str {X : Cx} {tg l : Expr} {tl : TE} (hl : PE X l tl) : PI X tg l (iStr tl) := by
  intro pins s σ H R I h
  refine thn (hl pins s σ H _ I h) fun v s1 ⟨y, H1, I1, r1, q1⟩ => ?_
  obtain ⟨x, e, ha, q⟩ := q1
  subst e
  obtain ⟨t, rfl⟩ := r1
  refine wpAny_pyIter_ascii ha ⟨s1.heap.objs.size, [s1.heap.objs.size], _, _, H1, rfl, I1.kept (t' := s1.toks) fun b o e => Heap.get?_push_of_some _ e, turn_str _ x t, ⟨_, Heap.get?_push_size _ rfl, rfl, rfl⟩, fun b hb => ?_, q⟩
  have e : b = s1.heap.objs.size := by simpa using hb
  subst e
  exact I1.fpOk (Nat.le_refl _) (I1.hok.fresh (Nat.le_refl _))
end L2
namespace ZN
open PySem PyProof.Rows
end ZN
namespace ZN
open PySem PyProof.Rows
end ZN
namespace L2
open PySem PySem.Spec PyProof.Rows
end L2
namespace L2
open PySem PySem.Spec PyProof.Rows
theorem KV.get2 : ∀ {kvs : List (Key × V)} {vs : List (Key × Value)} {i : Nat} {k : Key} {v : V}, KV kvs vs → kvs[i]? = some (k, v) → ∃ u, vs[i]? = some (k, u) ∧ RelV v u
  | _, _, _, _, _, .nil, e => by simp at e
  | _, _, 0, _, _, .cons (b := p) r _, e => by
    simp at e
    subst e
    obtain ⟨e1, e2⟩ := r
    obtain ⟨p1, p2⟩ := p
    cases e1
    exact ⟨p2, rfl, e2⟩
  | _, _, i + 1, _, _, .cons _ t, e => by
    obtain ⟨v, h1, h2⟩ := KV.get2 (i := i) t (by simpa using e)
    exact ⟨v, by simpa using h1, h2⟩
noncomputable def viewO (v a : Addr) : HO := .ext fun h => h.IsValuesView v a
section
variable {X : Cx}
theorem mt_values : MtR X "dict.values" (fun x xs H Q => ∃ a kvs, x = .ref a ∧ xs = [] ∧ H a = some (.dK kvs) ∧ ∀ v, H v = none → Q (.ref v) (upd H v (viewO v a))) := by
  intro pins s σ H x xs v us Q I rx rv h
  obtain ⟨a, kvs, rfl, rfl, ha, q⟩ := h
  cases rx
  cases rv
  obtain ⟨hz, hm, vs, hkv, hd⟩ := dk_of I.hok ha
  refine call_meetsIn PySem.F.slot_dict_values hd.typeIs PySem.F.entry_dict_values (PySem.F.args_dict_values_1 _) (meets_dict_values (mixKind X.prog X.w) a hm) ⟨⟨vs, hd⟩, ?_⟩
  refine ⟨.ref s.heap.objs.size, _, I.laid (t' := s.toks) (o := viewO s.heap.objs.size a) (fun b o e => Heap.get?_push_of_some _ e) (Nat.le_refl _) ⟨⟨_, Heap.get?_push_size _ rfl, rfl, rfl⟩, ⟨_, Heap.get?_push_size _ rfl⟩, fun h1 h2 f e => ?_⟩, rfl, q _ (I.hok.fresh (Nat.le_refl _))⟩
  obtain ⟨o, ho, r⟩ := f
  exact ⟨o, e o ho, r⟩
theorem Inv.freeze {pins : List (Addr × Obj)} {σ : St} {H : Hp} {s : Shared} {a : Addr} {kvs : List (Key × V)} {o : Obj} (I : Inv X pins σ H s) (ha : H a = some (.dK kvs)) (ho : s.heap.get? a = some o) : Inv X pins σ (upd H a (.frz o (.dK kvs))) s := by
  have hne : ∀ b, H b = none → b ≠ a := fun b e z => by rw [z, ha] at e; cases e
  have keep : ∀ b u, H b = some u → u ≠ .dK kvs → upd H a (.frz o (.dK kvs)) b = some u := fun b u e d => by rw [upd_ne (ne_of e ha d)]; exact e
  have st : Inv X pins σ (upd H a (.frz o (.dK kvs))) { s with heap := s.heap, gens := s.gens, drawn := s.drawn, toks := s.toks } := by
    refine I.step (g' := s.gens) (t' := s.toks) (d' := s.drawn) (ch := []) (fun b hb => nomatch hb) (fun b o _ _ _ e _ => e) (fun b o _ _ _ e _ => ⟨o.slots, e⟩) (fun b o _ e n => by rw [upd_ne (hne b n)]; exact n) (fun b o _ e => ⟨o, e⟩)
      (fun b xs e => keep b _ e (by intro z; cases z)) (fun b o u e => keep b _ e (by intro z; cases z)) (fun b ps e => ⟨#[], by rw [keep b _ e (by intro z; cases z)]; simp⟩) (fun m hm => hm) (fun b u e => ?_) I.bare
    by_cases hb : b = a
    · subst hb
      rw [upd_same] at e
      cases e
      exact ⟨ho, I.hok _ _ ha⟩
    · rw [upd_ne hb] at e
      exact (I.hok b u e).stay (fun c v _ q => q) (fun c q => keep c _ q (by intro z; cases z)) fun c xs q => keep c _ q (by intro z; cases z)
  exact st
end
noncomputable def Itv (a : Addr) (o : Obj) (kvs : List (Key × V)) : It :=
  ⟨fun i H => i < kvs.length ∧ H a = some (.frz o (.dK kvs)), fun i H x H' => H' = H ∧ ∃ k, kvs[i]? = some (k, x), fun i H => kvs.length ≤ i ∧ H a = some (.frz o (.dK kvs))⟩
theorem dict_at {X : Cx} {pins : List (Addr × Obj)} {σ : St} {H : Hp} {s : Shared} {a : Addr} {o : Obj} {kvs : List (Key × V)} {es : Array DictEntry} {ep : Nat} (I : Inv X pins σ H s) (ha : H a = some (.frz o (.dK kvs))) (hd : o.data = .dict es ep) :
    ∃ vs, KV kvs vs ∧ s.heap.DictAt (mixKind X.prog X.w) a vs ep := by
  obtain ⟨ho, hz, hm, vs, hkv, o', es', ep', ho', ex, hd', r⟩ := I.hok a _ ha
  rw [ho] at ho'
  cases ho'
  rw [hd] at hd'
  cases hd'
  exact ⟨vs, hkv, o, es, ho, ex, hd, r⟩
theorem turn_vals {P : Program} {w : World} {K : PySem.W.Frag} {tg : Expr} (it a : Addr) (o : Obj) (kvs : List (Key × V)) (es : Array DictEntry) (ep : Nat) (hd : o.data = .dict es ep) :
    Turn P w K tg (Itv a o kvs) [it] it (fun i h => h.IsValIter it a i kvs.length ep) where
  mem := by simp
  obj := fun i h st b hb => by
    have e : b = it := by simpa using hb
    subst e
    obtain ⟨o, e, c, d⟩ := st
    exact ⟨o, e, fun v z => by rw [d] at z; cases z⟩
  keep := fun i h h' st k => by
    obtain ⟨o, e, r⟩ := st
    exact ⟨o, k it (by simp) o e, r⟩
  item := by
    intro X hP hw hK hc i pins s σ H E I hf st hg
    subst hP hw hK
    obtain ⟨f0, f1, f2, f3, f4, f5⟩ := hf it (by simp)
    obtain ⟨hi, ha⟩ := hg
    obtain ⟨vs, hkv, hat⟩ := dict_at I ha hd
    have hl := hkv.length
    have hx : kvs[i]? = some (kvs[i].1, kvs[i].2) := List.getElem?_eq_getElem hi
    obtain ⟨u, hu, ru⟩ := KV.get2 hkv hx
    rw [hl] at st
    refine wpAny_pyNext_values_item (knd := mixKind X.prog X.w) st hat hu fun h' st' sb => ?_
    have I1 : Inv X pins σ H { s with heap := h' } := I.turned (t' := s.toks) (fun b o hb e => (sb.2 b hb).trans e) f0 f1 f3 f4 f5
    obtain ⟨o', e, c, d⟩ := id st'
    rw [← hl] at st'
    exact ⟨u, rfl, go_of (s := { s with heap := h' }) e c d (by decide) ⟨kvs[i].2, H, I1, ru, ⟨rfl, _, hx⟩, st', fun b hb => (hf b hb).1⟩⟩
  done := by
    intro X hP hw hK hc i pins s σ H E I hf st hg
    subst hP hw hK
    obtain ⟨f0, f1, f2, f3, f4, f5⟩ := hf it (by simp)
    obtain ⟨hi, ha⟩ := hg
    obtain ⟨vs, hkv, hat⟩ := dict_at I ha hd
    have hl := hkv.length
    rw [hl] at st
    exact wpAny_pyNext_values_end (knd := mixKind X.prog X.w) (I.ok.hd hc) st hat (List.getElem?_eq_none (by lia)) fun h' eb => ⟨rfl, I.turned (t' := s.toks) (fun b o hb e => eb b o hb e) f0 f1 f3 f4 f5⟩
  self := fun _ _ _ _ _ st h => wpAny_pyIter_valiter st h
noncomputable def iVals (tl : TE) : TI := fun σ H R => tl σ H fun x H1 => ∃ v a kvs, x = .ref v ∧ H1 v = some (viewO v a) ∧ H1 a = some (.dK kvs) ∧ ∀ o, R (Itv a o kvs) (upd H1 a (.frz o (.dK kvs)))
theorem pi_vals {X : Cx} {tg l : Expr} {tl : TE} (hl : PE X l tl) : PI X tg l (iVals tl) := by
  intro pins s σ H R I h
  refine thn (hl pins s σ H _ I h) fun u s1 ⟨x, H1, I1, r1, q1⟩ => ?_
  obtain ⟨v, a, kvs, rfl, hv, ha, q⟩ := q1
  cases r1
  obtain ⟨hz, hm, vs, hkv, o, es, ep, ho, ex, hd, r⟩ := dk_of I1.hok ha
  have hat : s1.heap.DictAt (mixKind X.prog X.w) a vs ep := ⟨o, es, ho, ex, hd, r⟩
  obtain ⟨view, _, _⟩ := I1.hok v _ hv
  have hl' := hkv.length
  refine wpAny_pyIter_values (knd := mixKind X.prog X.w) view hat ⟨s1.heap.objs.size, [s1.heap.objs.size], _, _, upd H1 a (.frz o (.dK kvs)), rfl, (I1.freeze ha ho).kept (t' := s1.toks) (fun b o e => Heap.get?_push_of_some _ e), turn_vals _ a o kvs es ep hd, ⟨_, Heap.get?_push_size _ rfl, rfl, by rw [hl'] <;> rfl⟩, fun b hb => ?_, q o⟩
  have e : b = s1.heap.objs.size := by simpa using hb
  subst e
  exact (I1.freeze ha ho).fpOk (Nat.le_refl _) ((I1.freeze ha ho).hok.fresh (Nat.le_refl _))
noncomputable def RdK (K : PySem.W.Frag) (v : V) (d : PyData) : Prop := ∀ (h : Heap) (u : Value), K.In h → RelV v u → ∃ as, Reads h u d as
noncomputable def absAll : List Value → Option (List V)
  | [] => some []
  | u :: r => match absV u, absAll r with
    | some v, some vs => some (v :: vs)
    | _, _ => none
theorem rel_abs {u : Value} {v : V} (h : absV u = some v) : RelV v u := by
  cases u with
  | none => cases h; rfl
  | bool b => cases h; rfl
  | int i t => cases h; exact ⟨t, rfl⟩
  | str x t => cases h; exact ⟨t, rfl⟩
  | bytes b t => cases h; exact ⟨t, rfl⟩
  | float b t => cases h; exact ⟨t, rfl⟩
  | ref a => cases h; rfl
  | type n => cases h; rfl
  | _ => cases h
theorem vals_abs : ∀ {us : List Value} {vs : List V}, absAll us = some vs → Vals vs us
  | [], _, h => by cases h; exact .nil
  | u :: r, vs, h => by
    unfold absAll at h
    cases e1 : absV u with
    | none => rw [e1] at h; cases h
    | some v =>
      cases e2 : absAll r with
      | none => rw [e1, e2] at h; cases h
      | some ws =>
        rw [e1, e2] at h
        cases h
        exact .cons (rel_abs e1) (vals_abs e2)
noncomputable def flatD : V → Option PyData
  | .non => some .none
  | .int i => some (.int i)
  | .str x => some (.str x)
  | _ => none
theorem reads_flat {h : Heap} {v : V} {d : PyData} {u : Value} (e : flatD v = some d) (r : RelV v u) : ∃ as, Reads h u d as := by
  cases v with
  | non => cases e; cases r; exact ⟨_, .none⟩
  | int i => cases e; obtain ⟨t, rfl⟩ := r; exact ⟨_, .int i t⟩
  | str x => cases e; obtain ⟨t, rfl⟩ := r; exact ⟨_, .str x t⟩
  | _ => cases e
theorem reads_all {h : Heap} : ∀ {vs : List V} {ds : List PyData} {us : List Value}, Vals vs us → Paired (fun v d => ∀ u, RelV v u → ∃ as, Reads h u d as) vs ds → ∃ as, ReadsAll h us ds as
  | _, _, _, .nil, .nil => ⟨_, .nil⟩
  | _, _, _, .cons r1 r2, .cons p1 p2 => by
    obtain ⟨as, a⟩ := p1 _ r1
    obtain ⟨bs, b⟩ := reads_all r2 p2
    exact ⟨_, .cons a b⟩
theorem rdK_tup {K : PySem.W.Frag} {a : Addr} {od : Option Addr} {its : Array Value} {n : Nat} {sl : Array (Option Value)} {vs : List V} {ds : List PyData} (l : K.lookup a = some ⟨.type "tuple", od, .seq its n, sl⟩) (ab : absAll its.toList = some vs) (r : Paired (RdK K) vs ds) : RdK K (.ref a) (.tuple ds) := by
  intro h u kin ru
  cases ru
  have go : ∀ {vs : List V} {ds : List PyData}, Paired (RdK K) vs ds → Paired (fun v d => ∀ u, RelV v u → ∃ as, Reads h u d as) vs ds := by
    intro vs ds p
    induction p with
    | nil => exact .nil
    | cons a _ ih => exact .cons (fun u ru => a h u kin ru) ih
  obtain ⟨as, q⟩ := reads_all (h := h) (vals_abs ab) (go r)
  exact ⟨as, .tuple (kin a _ l) rfl rfl q⟩
theorem rdK_flat {K : PySem.W.Frag} {v : V} {d : PyData} (e : flatD v = some d) : RdK K v d := fun _ _ _ r => reads_flat e r
section
variable {X : Cx}
noncomputable def rNotInD (K : PySem.W.Frag) : R2 := fun x y H Q => ∃ d ds, RdV H x d ∧ RdK K y (.tuple ds) ∧ PySem.SeqAt.shaped d = true ∧ PySem.SeqAt.shaped (PyData.tuple ds) = true ∧ Q (.bl (!ds.any fun e => PyData.eqv e d)) H
theorem op_notinD (hu : X.A.units + 65 < cLine) : OpR X (compareOp .NotIn) (rNotInD X.K) := by
  intro pins s σ H x y v u Q I rx ry h
  obtain ⟨d, ds, r1, r2, h1, h2, q⟩ := h
  obtain ⟨as, a⟩ := r1.reads I.hok rx
  obtain ⟨bs, b⟩ := r2 s.heap u I.kIn ry
  exact PySem.SeqAt.notIn_tuple_reads b a (PySem.SeqAt.canLay_of_shaped h2) (PySem.SeqAt.canLay_of_shaped h1) (room_in_shaped h1 hu) ⟨.bl _, H, I, rfl, q⟩
theorem empty_app (x : Str) : Str.empty ++ x = x := by
  cases x with | mk a =>
  show Str.mk (#[] ++ a) = Str.mk a
  rw [Array.empty_append]
theorem call_isiS : CallR X (.builtin "isinstance") (fun xs H Q => ∃ x, xs = [.str x, .ty "str"] ∧ Q (.bl true) H) := by
  intro pins s σ H xs us Q I r h
  obtain ⟨x, rfl, q⟩ := h
  obtain ⟨u1, u2, rfl, ⟨t, rfl⟩, r2⟩ := vals2 r
  cases r2
  exact PySem.IsiPair.str_str ⟨.bl true, H, I, rfl, q⟩
end
theorem bt_list : bootBuiltins "list" = some (.type "list") := by decide +kernel
theorem bt_set : bootBuiltins "set" = some (.type "set") := by decide +kernel
theorem bt_str : bootBuiltins "str" = some (.type "str") := by decide +kernel
theorem bt_all : bootBuiltins "all" = some (.builtin "all") := by decide +kernel
end L2
namespace ZN
open PySem PyProof.Rows
end ZN
namespace L2
open PySem PySem.Spec PyProof.Rows
end L2
namespace ZN
open PySem PyProof.Rows
end ZN
namespace L2
open PySem PySem.Spec PyProof.Rows
end L2
namespace L2
open PySem PySem.Spec PyProof.Rows
end L2
namespace L2
open PySem PySem.Spec PyProof.Rows PySem.W
section
variable {P : Program} {w : World}
theorem ObjOk.there {H : Hp} {h : Heap} {a : Addr} {o : HO} (x : ObjOk P w H h a o) : ∃ ob, h.get? a = some ob := by
  cases o with
  | lst xs => obtain ⟨_, _, _, _, e⟩ := x; exact ⟨_, e⟩
  | tup xs => obtain ⟨_, _, _, ob, e, _⟩ := x; exact ⟨_, e⟩
  | dK kvs => obtain ⟨_, _, _, _, o, _, _, e, _⟩ := x; exact ⟨_, e⟩
  | dT kvs => obtain ⟨_, _, _, _, o, _, _, e, _⟩ := x; exact ⟨_, e⟩
  | set S n => obtain ⟨o, _, _, _, e, _⟩ := x; exact ⟨_, e⟩
  | ins C dx fs => obtain ⟨_, _, _, e, _⟩ := x; exact ⟨_, e⟩
  | own y => exact x
  | xd fs => obtain ⟨_, ⟨_, _, _, e, _⟩, _⟩ := x; exact ⟨_, e⟩
  | rng lo hi => obtain ⟨_, _, _, e⟩ := x; exact ⟨_, e⟩
  | frz ob u => obtain ⟨e, _⟩ := x; exact ⟨_, e⟩
  | tbl ps => exact ⟨_, x⟩
  | met f y => exact ⟨_, x⟩
  | ext φ => obtain ⟨_, e, _⟩ := x; exact e
structure Fly (P : Program) (w : World) (outer : List Env) (H : Hp) (s : Shared) (a : Addr) (H' : Hp) (B : Heap) (s' : Shared) : Prop where
  os : s'.os = s.os
  bare : AllBare s'.gens
  un : Un (frs outer) [] H H' s.heap s'.heap
  hok : HOk P w H' s'.heap
  funs : s'.heap.FunFrames B outer
  new : H' a = none
  fresh : s.heap.get? a = none
  k1 : ∀ b o, s.heap.get? b = some o → H b = none → b ∉ frs outer → B.get? b = some o
  k2 : ∀ c v, H' c ≠ none → s'.heap.get? c = some v → B.get? c = some v
  k3 : ∀ b o, s.heap.get? b = some o → b ∉ frs outer → ∃ o', B.get? b = some o'
noncomputable def CXe (P : Program) (w : World) : CXT := fun outer H s E e s' => ∃ (a C t : Addr) (H' : Hp) (B : Heap), e = .ref a ∧ Fly P w outer H s a H' B s' ∧ Heap.FlyingW B outer a (.ref C) (.ref t) s'.heap ∧ E e (some C) H'
theorem fly_on {X : Cx} {pins : List (Addr × Obj)} {σ : St} {H H' : Hp} {s s' : Shared} {a C : Addr} {B h' : Heap} {env : Env} {outer : List Env} (I : Inv X pins σ H s) (hex : X.ex = []) (hst : X.stack = env :: outer) (hout : X.outer = outer) (hf : env.frame = some X.env.locals)
    (F : Fly X.prog X.w X.stack H s a H' B s') {t : Addr} (hfl : Heap.FlyingW B outer a (.ref C) (.ref t) h') (ups : s'.heap.UpToSlots h') : Fly X.prog X.w outer X.H₀ X.s₀ a H' B { s' with heap := h' } := by
  subst hout
  have hsub : ∀ b, b ∈ X.fs → b ∈ frs X.stack := fun b hb => by
    rw [hst]
    unfold frs
    rw [List.filterMap_cons, hf]
    exact List.mem_cons_of_mem _ hb
  have hmem : ∀ b, b ∈ frs X.stack → b = X.env.locals ∨ b ∈ X.fs := fun b hb => by
    rw [hst] at hb
    unfold frs at hb
    rw [List.filterMap_cons, hf] at hb
    exact List.mem_cons.mp hb
  have hold : ∀ b o, X.s₀.heap.get? b = some o → b ≠ X.env.locals := fun b o e z => by
    have h1 := Heap.lt_size e
    rw [z] at h1
    exact absurd (Nat.lt_of_lt_of_le h1 I.ok.above) (Nat.lt_irrefl _)
  have nex : ∀ b : Addr, b ∉ X.ex := fun b z => by rw [hex] at z; cases z
  have hout2 : ∀ b o, X.s₀.heap.get? b = some o → b ∉ X.fs → b ∉ frs X.stack := fun b o e hb z => by
    rcases hmem b z with q | q
    · exact hold b o e q
    · exact hb q
  have k1 : ∀ b o, X.s₀.heap.get? b = some o → X.H₀ b = none → b ∉ X.fs → B.get? b = some o := fun b o e n hb =>
    F.k1 b o (I.base.keep b o e n hb (nex b)) (I.base.free b o e n (nex b)) (hout2 b o e hb)
  have hok : HOk X.prog X.w H' h' := fun b u e => (F.hok b u e).stay (fun c v hc q => hfl.1 c v (F.k2 c v (by
    rcases hc with z | z
    · rw [z, e]; intro z; cases z
    · rw [z]; intro z; cases z) q)) (fun _ q => q) fun _ _ q => q
  have slot : ∀ b o, X.s₀.heap.get? b = some o → X.H₀ b = none → b ∈ X.fs → ∃ sl, h'.get? b = some { o with slots := sl } := fun b o e n hb => by
    obtain ⟨sl, e1⟩ := I.base.slot b o e n hb (nex b)
    obtain ⟨sl2, e2⟩ := F.un.slot b _ e1 (I.base.free b o e n (nex b)) (hsub b hb) (by simp)
    obtain ⟨_, o', ho', hd⟩ := F.funs.mem (hsub b hb)
    rw [e2] at ho'
    cases ho'
    obtain ⟨sl3, e3⟩ := ups b _ e2 hd
    exact ⟨sl3, e3⟩
  have free : ∀ b o, X.s₀.heap.get? b = some o → X.H₀ b = none → H' b = none := fun b o e n => by
    obtain ⟨sl, e1⟩ := I.base.any e n (nex b)
    exact F.un.free b _ e1 (I.base.free b o e n (nex b)) (by simp)
  have there : ∀ b o, X.s₀.heap.get? b = some o → ∃ o', h'.get? b = some o' := fun b o e => by
    by_cases hb : b ∈ X.fs
    · have n := I.ok.frf b hb
      obtain ⟨sl, q⟩ := slot b o e n hb
      exact ⟨_, q⟩
    · obtain ⟨o1, e1⟩ := I.base.there b o e (nex b)
      obtain ⟨o2, e2⟩ := F.k3 b o1 e1 (hout2 b o e hb)
      exact ⟨o2, hfl.1 b o2 e2⟩
  refine ⟨F.os.trans I.os, F.bare, ⟨fun b o e n hb _ => hfl.1 b o (k1 b o e n hb), fun b o e n hb _ => slot b o e n hb, fun b o e n _ => free b o e n, fun b o e _ => there b o e, fun b xs q => F.un.tups b xs (I.base.tups b xs q), fun b o u q => F.un.frzs b o u (I.base.frzs b o u q), fun b ps q => ?_⟩, hok, hfl.2.2.1, F.new, ?_, k1, fun c v hc q => ?_, fun b o e hb => ?_⟩
  · obtain ⟨m1, q1⟩ := I.base.tbls b ps q
    obtain ⟨m2, q2⟩ := F.un.tbls b _ q1
    exact ⟨m1 ++ m2, by rw [q2, Array.append_assoc]⟩
  · cases z : X.s₀.heap.get? a with
    | none => rfl
    | some o =>
      obtain ⟨o', e'⟩ := I.base.there a o z (nex a)
      rw [F.fresh] at e'
      cases e'
  · cases hu : H' c with
    | none => exact absurd hu hc
    | some u =>
      obtain ⟨v', hv'⟩ := (F.hok c u hu).there
      have hB := F.k2 c v' hc hv'
      have q' : h'.get? c = some v := q
      rw [hfl.1 c v' hB] at q'
      cases q'
      exact hB
  · obtain ⟨o1, e1⟩ := I.base.there b o e (nex b)
    exact F.k3 b o1 e1 (hout2 b o e hb)
theorem passE {P : Program} {w : World} {K : PySem.W.Frag} {mg : Str → Option Value} {base : Heap} {N : List Str} {qual : Str} {scope : Scope} {f : Addr} {cd : Value} {A : Around} {outer : List Env} {s0 : Shared} {H0 : Hp} {E : XK} :
    Passes (CXe P w) (cxOf (CXe P w) P w K mg base N qual scope f cd A outer s0 H0 E) E := by
  intro pins σ H s e s' I h
  obtain ⟨a, C, t, H', B, rfl, F, hfl, q⟩ := h
  exact wpAny_leaves_onW I.ok.frames rfl hfl fun h' hfl' ups => ⟨a, C, t, H', B, rfl, fly_on I rfl rfl rfl rfl F hfl' ups, hfl', q⟩
noncomputable def ExcAt (h : Heap) (C : Addr) (bmB : List Value) (newId : String) (bm : List Value) : Prop :=
  ∃ (N : Addr) (nm qn : Str) (bs : List Value) (hdct : Bool) (sn : List Str) (sub : List Value) (ab : Bool) (col : Option Bool) (dd : Option Addr) (k0 k1 k2 k3 k5 : Option Value) (mN : Str → Option Value),
    h.get? C = some (excClassObj nm qn C N bs bm hdct sn sub ab col dd k0 k1 k2 k3 k5 newId) ∧ h.Ns N mN ∧ mN "__init__" = none ∧ OwnTail h bmB bm
theorem own_in {K : Frag} {h : Heap} {C : Addr} {bmB : List Value} {newId : String} (X : K.In h) (g : excIn K C bmB newId = true) : ∃ bm, ExcAt h C bmB newId bm := by
  unfold excIn at g
  split at g
  · rename_i dict0 cls0 slots0 at0
    split at g
    · rename_i first0 tail0 a0 a1 a2 a3 new0 a5 mro0 list0
      have g' := g
      simp only [Bool.and_eq_true, beq_iff_eq, Bool.not_eq_true'] at g'
      obtain ⟨⟨⟨⟨⟨r1, r2⟩, r3⟩, r4⟩, r5⟩, r6⟩ := g'
      subst r1 r2
      obtain ⟨c1, c2, c3, c4, c5, c6, c7, c8, c9, c10, c11⟩ := cls0
      dsimp only at mro0 r3 r5 r6
      subst mro0 r3
      have slots1 : slots0 = #[a0, a1, a2, a3, some (.builtin new0), a5] := Array.toList_inj.mp list0
      subst slots1
      exact ⟨tail0, c4, c1, c5, c2, c6, c7, c8, c9, c10, dict0, a0, a1, a2, a3, a5, _, X _ _ at0, .of_isNs (isNs_of_in X r5), nsMap_none_of_in X r5 r6, tail_of_in X r4⟩
    · cases g
  · cases g
abbrev bmV : List Value := [.type "ValueError", .type "Exception", .type "BaseException", .type "object"]
noncomputable def tRaise (t : TA) (E : XK) (C : Addr) : TS := fun _ σ H => t σ H fun vs H1 => vs.length ≤ 1000 ∧ ∀ a, H1 a = none → E (.ref a) (some C) H1
theorem ps_raise {P : Program} {w : World} {K : PySem.W.Frag} {mg : Str → Option Value} {base : Heap} {N : List Str} {qual : Str} {scope : Scope} {f : Addr} {cd : Value} {A : Around} {outer : List Env} {s0 : Shared} {H0 : Hp} {E : XK} {C : Addr} {x : Str} {np cpos pos : Pos} {e₀ : Expr} {es : List Expr} {t : TA}
    (ow : excIn K C bmV "ValueError.__new__" = true) (hg : Gl (cxOf (CXe P w) P w K mg base N qual scope f cd A outer s0 H0 E) x) (hm : mg x = some (.ref C)) (ha : PA (cxOf (CXe P w) P w K mg base N qual scope f cd A outer s0 H0 E) (e₀ :: es) t)
    (he : starEach (e₀ :: es) (envOfC qual scope s0.heap.objs.size f cd) = (false, eval e₀ (envOfC qual scope s0.heap.objs.size f cd)) :: starEach es (envOfC qual scope s0.heap.objs.size f cd) := by rfl)
    (hpl : (backTo cpos (starEach es (envOfC qual scope s0.heap.objs.size f cd))).any (·.1) = false := by rfl) (hdb : (x == ("__debug__" : Str)) = false := by decide) :
    PS (cxOf (CXe P w) P w K mg base N qual scope f cd A outer s0 H0 E) (.Raise (some (.Call (.Name x np) (e₀ :: es) [] cpos)) none pos) (tRaise t E C) := by
  intro pins s σ H D I hw
  obtain ⟨bm, NN, nm, qn, bs, hdct, sn, sub, ab, col, dd, k0, k1, k2, k3, k5, mN, hC, hN, hni, TL⟩ := own_in I.ok.mod.kin ow
  refine wpAny_Raise_call_subT (C := C) (nm := nm) (q := qn) (N := NN) (bs := bs) (bm := bm) (hdct := hdct) (sn := sn) (sub := sub) (ab := ab) (col := col) (dd := dd) (k0 := k0) (k1 := k1) (k2 := k2) (k3 := k3) (k5 := k5)
    F.excBase_ValueError (mN := mN) (TL.hasType F.excBase_ValueError.hasBase) (I.ok.hd rfl) ?_ hni (ld_glob I hg hm ⟨rfl, ?_⟩ hdb)
  · show (backTo cpos (starEach (e₀ :: es) (envOfC qual scope s0.heap.objs.size f cd))).any (·.1) = false
    rw [he]
    show (false || (backTo cpos (starEach es (envOfC qual scope s0.heap.objs.size f cd))).any (·.1)) = false
    rw [hpl]
    rfl
  have h0 := ha cpos pins s σ H _ I hw
  show wpAny (model P w) _ (evalArgs (.ref C) true (backTo cpos (starEach (e₀ :: es) (envOfC qual scope s0.heap.objs.size f cd))) []) _ _ s
  have h1 : wpAny (model P w) (A.deeper (envOfC qual scope s0.heap.objs.size f cd)) (spliced (backTo cpos (starEach (e₀ :: es) (envOfC qual scope s0.heap.objs.size f cd)))) _ _ s := h0
  rw [he] at h1 ⊢
  refine Calls.evalArgs_plain (wpAny_mono h1 (fun us s2 ⟨vs, H1, I1, r, hz, q⟩ => ?_) fun _ _ y => y)
  have hus := r.length
  have hsl : sizeLine = 16777216 := sizeLine_eq
  refine ⟨rfl, by show us.length ≤ sizeLine; lia, I1.bk _ _ hC, hN.keeps I1.bk, TL.keeps I1.bk, fun h' e hx => ?_⟩
  -- it leaves the frame
  have hin : ∀ env ∈ (envOfC qual scope s0.heap.objs.size f cd :: outer), ∀ b, env.frame = some b → b ∈ frs (envOfC qual scope s0.heap.objs.size f cd :: outer) := fun env hm b hb => List.mem_filterMap.mpr ⟨env, hm, hb⟩
  have funs : s2.heap.FunFrames (hideAll s2.heap (frs (envOfC qual scope s0.heap.objs.size f cd :: outer))) (envOfC qual scope s0.heap.objs.size f cd :: outer) := funFrames_hide I1.stack hin
  have hfree := I1.stkFree
  have hnew : H1 e = none := by
    cases z : H1 e with
    | none => rfl
    | some u =>
      obtain ⟨ob, q⟩ := (I1.hok e u z).there
      rw [hx.new] at q
      cases q
  refine wpAny_leaves_madeW I1.ok.frames rfl (fun b o q => of_hideAll _ q) funs hx fun h'' t' hfl htup hnt ups => ?_
  refine ⟨e, C, t', H1, _, rfl, fly_on (s' := { s2 with heap := h' }) I1 rfl rfl rfl rfl ⟨rfl, I1.bare, Un.kept hx.keeps, I1.hok.kept hx.keeps, funs.of_keeps (fun b o hb _ => ⟨o, hx.keeps b o hb, rfl⟩), hnew, hx.new, fun b o q _ hb => hideAll_get _ q hb, fun c v hc q => ?_, fun b o q hb => ⟨o, hideAll_get _ q hb⟩⟩ hfl ups, hfl, q e hnew⟩
  cases z : H1 c with
  | none => exact absurd z hc
  | some u =>
    obtain ⟨ob, q2⟩ := (I1.hok c u z).there
    have q3 : h'.get? c = some v := q
    rw [hx.keeps c ob q2] at q3
    cases q3
    exact hideAll_get _ q2 fun hb => by
      have := hfree c hb
      rw [z] at this
      cases this
end
end L2
namespace L2
open PySem PySem.Spec PyProof.Rows PySem.W
noncomputable abbrev Cx.at' (X : Cx) (pn : List (Addr × Obj)) (xe : Value → Shared → Prop) : Cx := { X with pn := pn, xe := xe }
noncomputable abbrev Cx.held (X : Cx) (a : Addr) (xe : Value → Shared → Prop) : Cx := { X with A := X.A.mark (some (.ref a)), calm := false, xe := xe }
section
variable {X : Cx} {pins : List (Addr × Obj)} {σ : St} {H : Hp} {s : Shared}
theorem Inv.at' (I : Inv X pins σ H s) (xe : Value → Shared → Prop) : Inv (X.at' (X.pn ++ pins) xe) [] σ H s :=
  ⟨⟨I.ok.mod, I.ok.kind, I.ok.glob, I.ok.blt, I.ok.above, I.ok.inj, I.ok.has, I.ok.cab, I.ok.hd, I.ok.frames, I.ok.stk, I.ok.exf, I.ok.bs, I.ok.bsz, I.ok.noex, I.ok.exfs, I.ok.funs, I.ok.frf⟩, I.os, I.bare, I.base, I.loc, I.cell, I.free, I.freeC,
    fun p hp => I.pin p (by rw [List.append_nil] at hp; exact hp), I.hok, I.len⟩
theorem Inv.unat {pins' : List (Addr × Obj)} {xe : Value → Shared → Prop} (ok : X.Ok) (I : Inv (X.at' (X.pn ++ pins) xe) pins' σ H s) : Inv X pins σ H s :=
  ⟨ok, I.os, I.bare, I.base, I.loc, I.cell, I.free, I.freeC, fun p hp => I.pin p (List.mem_append_left _ hp), I.hok, I.len⟩
theorem Inv.held (I : Inv X pins σ H s) (a : Addr) (xe : Value → Shared → Prop) : Inv (X.held a xe) pins σ H s :=
  ⟨⟨I.ok.mod, I.ok.kind, I.ok.glob, I.ok.blt, I.ok.above, I.ok.inj, I.ok.has, I.ok.cab, (fun z => nomatch z), I.ok.frames, I.ok.stk, I.ok.exf, I.ok.bs, I.ok.bsz, I.ok.noex, I.ok.exfs, I.ok.funs, I.ok.frf⟩, I.os, I.bare, I.base, I.loc, I.cell, I.free, I.freeC, I.pin, I.hok, I.len⟩
theorem Inv.unheld {a : Addr} {xe : Value → Shared → Prop} (ok : X.Ok) (I : Inv (X.held a xe) pins σ H s) : Inv X pins σ H s :=
  ⟨ok, I.os, I.bare, I.base, I.loc, I.cell, I.free, I.freeC, I.pin, I.hok, I.len⟩
theorem unbind_ok {M : Model} {A : Around} {E : Value → Shared → Prop} {i : Nat} {x : Str} {pos : Pos} {Q : Unit → Shared → Prop} (I : Inv X pins σ H s) (hN : X.N.Nodup) (hi : X.N[i]? = some x) (hk : X.env.kindOf x = some .local)
    (h : ∀ s', Inv X pins (σ.set i none) H s' → Q () s') : wpAny M A (do bindName X.env x .none; unbindBehindTheSuite X.env x pos) Q E s := by
  obtain ⟨m, hn, hl⟩ := id I.loc
  have hcls : (X.env.scope.kind == .class || (X.env.scope.kind == .module && X.env.locals != X.env.globals)) = false := by rw [I.ok.kind]; rfl
  have hiσ : i < σ.length := by rw [I.len]; exact (List.getElem?_eq_some_iff.mp hi).1
  have cne := I.cne
  refine wpAny_nameGoes_keeps hk hn hcls fun h' v hn' hs => ?_
  obtain ⟨oL, _, _, hoL, _⟩ := id hn
  have old : ∀ b o, X.s₀.heap.get? b = some o → b ≠ X.env.locals := fun b o e => Nat.ne_of_lt (Nat.lt_of_lt_of_le (Heap.lt_size e) I.ok.above)
  have hok : HOk X.prog X.w H h' := fun b ob e => (I.hok b ob e).stay (fun c w' hc q => (hs.2 c (fun z => by
    subst z
    have hfree := I.free
    rcases hc with rfl | hc
    · rw [hfree] at e; cases e
    · rw [hfree] at hc; cases hc)).trans q) (fun _ q => q) fun _ _ q => q
  refine h { s with heap := h', toks := s.toks + 1 } ⟨I.ok, I.os, I.bare, ⟨fun b o e n hb hx => (hs.2 b (old b o e)).trans (I.base.keep b o e n hb hx), fun b o e n hb hx => ?_, I.base.free, fun b o e hx => ?_, I.base.tups, I.base.frzs, I.base.tbls⟩, ⟨_, hn', fun j y v' e1 e2 e3 => ?_⟩, fun y c e => ?_, I.free, I.freeC, fun p hp => ?_, hok, by simpa using I.len⟩
  · obtain ⟨sl, e1⟩ := I.base.slot b o e n hb hx
    exact ⟨sl, (hs.2 b (old b o e)).trans e1⟩
  · obtain ⟨o', e1⟩ := I.base.there b o e hx
    exact ⟨o', (hs.2 b (old b o e)).trans e1⟩
  · by_cases hj : j = i
    · subst hj
      rw [List.getElem?_set_self hiσ] at e2
      cases e2
    · rw [List.getElem?_set_ne (Ne.symm hj)] at e2
      obtain ⟨u', r', q⟩ := hl j y v' e1 e2 e3
      refine ⟨u', r', ?_⟩
      rcases q with ⟨k, e⟩ | ⟨k, c, e, z⟩
      · refine .inl ⟨k, ?_⟩
        have ne : y ≠ x := fun e => hj (nodup_ix hN e1 (e ▸ hi))
        simp [ne, e]
      · exact .inr ⟨k, c, e, z.sameBut hs (cne y c e)⟩
  · obtain ⟨w', z⟩ := I.cell y c e
    exact ⟨w', z.sameBut hs (cne y c e)⟩
  · obtain ⟨e, n, ne, nf, d⟩ := I.pin p hp
    exact ⟨(hs.2 p.1 ne).trans e, n, ne, nf, d⟩
end
section
variable {A : Around} {M : Model} {E : Value → Shared → Prop}
theorem matches_own {h : Heap} {g : Array GenState} {d : Drawn} {t : Nat} {os : OsState} {e C G : Addr} {oe : Obj} {bmB bmC bmG : List Value} {n1 n2 : String} {Q : Bool → Shared → Prop} (hC : ExcAt h C bmB n1 bmC) (hG : ExcAt h G bmB n2 bmG)
    (he : h.get? e = some oe) (hcls : oe.cls = .ref C) (hbase : bmG.contains (.type "BaseException") = true) (hsub : bmC.contains (.ref G) = true) (hq : Q true ⟨h, g, d, t, os⟩) : wpAny M A (excMatches (.ref e) (.ref G)) Q E ⟨h, g, d, t, os⟩ := by
  obtain ⟨N, nm, qn, bs, hdct, sn, sub, ab, col, dd, k0, k1, k2, k3, k5, mN, hC, _, _, _⟩ := hC
  obtain ⟨N', nm', qn', bs', hdct', sn', sub', ab', col', dd', k0', k1', k2', k3', k5', mN', hG, _, _, _⟩ := hG
  have hcB : (Value.ref G :: bmG).contains (.type "BaseException") = true := by rw [List.contains_cons, hbase, Bool.or_true]
  have hcC : (Value.ref C :: bmC).contains (.ref G) = true := by rw [List.contains_cons, hsub, Bool.or_true]
  have f := tc_notTuple
  unfold excMatches
  repeat (first | (with_reducible refine wpAny_loadPart_at he ?_; rw [hcls]) | with_reducible refine wpAny_loadPart_at hG ?_ | (with_reducible refine wpAny_isSubtype_exc hG ?_; rw [hcB]) | (with_reducible refine wpAny_isSubtype_exc hC ?_; rw [hcC]) | wp_step)
  exact hq
end
noncomputable def excO (a C : Addr) : HO := .ext fun h => ∃ o, h.get? a = some o ∧ o.cls = .ref C
section
variable {X : Cx} {pins : List (Addr × Obj)} {σ : St} {H : Hp} {s : Shared}
theorem Inv.track {a C : Addr} (I : Inv X pins σ H s) (hn : H a = none) (h0 : X.s₀.heap.get? a = none) (hl : a ≠ X.env.locals) (hc : ∀ x c, X.env.cells.lookup x = some c → a ≠ c) (hp : ∀ p ∈ X.pn ++ pins, a ≠ p.1) (ho : ∃ o, s.heap.get? a = some o ∧ o.cls = .ref C) :
    Inv X pins σ (upd H a (excO a C)) s := by
  have ne : ∀ {b : Addr} {u : HO}, H b = some u → b ≠ a := fun e => ne_of_none e hn
  refine ⟨I.ok, I.os, I.bare, ⟨I.base.keep, I.base.slot, fun b o e n hx => ?_, I.base.there, fun b xs q => ?_, fun b o u q => ?_, fun b ps q => ?_⟩, I.loc, I.cell, by rw [upd_ne hl.symm]; exact I.free, fun x c e => by rw [upd_ne (hc x c e).symm]; exact I.freeC x c e, fun p hpm => ?_, fun b u e => ?_, I.len⟩
  · rw [upd_ne (fun z => by rw [z, h0] at e; cases e)]
    exact I.base.free b o e n hx
  · have := I.base.tups b xs q
    rw [upd_ne (ne this)]
    exact this
  · have := I.base.frzs b o u q
    rw [upd_ne (ne this)]
    exact this
  · obtain ⟨m, q2⟩ := I.base.tbls b ps q
    exact ⟨m, by rw [upd_ne (ne q2)]; exact q2⟩
  · obtain ⟨e, n, ne', nf, d⟩ := I.pin p hpm
    exact ⟨e, by rw [upd_ne (hp p hpm).symm]; exact n, ne', nf, d⟩
  · by_cases hb : b = a
    · subst hb
      rw [upd_same] at e
      cases e
      obtain ⟨o, e1, e2⟩ := ho
      refine ⟨⟨o, e1, e2⟩, ⟨o, e1⟩, fun h1 h2 ⟨o', q1, q2⟩ k => ⟨o', k _ q1, q2⟩⟩
    · rw [upd_ne hb] at e
      exact (I.hok b u e).stay (fun _ _ _ q => q) (fun c q => by rw [upd_ne (ne q)]; exact q) fun c xs q => by rw [upd_ne (ne q)]; exact q
end
theorem fly_here {P : Program} {w : World} {outer : List Env} {H H' : Hp} {s s' : Shared} {a : Addr} {B h' : Heap} (F : Fly P w outer H s a H' B s') (hfree : ∀ b ∈ frs outer, H b = none) (k : B.StaysIn h') (ups : s'.heap.UpToSlots h') :
    Un (frs outer) [] H H' s.heap h' ∧ HOk P w H' h' := by
  have slot : ∀ b o, s.heap.get? b = some o → H b = none → b ∈ frs outer → ∃ sl, h'.get? b = some { o with slots := sl } := fun b o e n hb => by
    obtain ⟨sl2, e2⟩ := F.un.slot b _ e n hb (by simp)
    obtain ⟨_, o', ho', hd⟩ := F.funs.mem hb
    rw [e2] at ho'
    cases ho'
    obtain ⟨sl3, e3⟩ := ups b _ e2 hd
    exact ⟨sl3, e3⟩
  refine ⟨⟨fun b o e n hb _ => k b o (F.k1 b o e n hb), fun b o e n hb _ => slot b o e n hb, F.un.free, fun b o e _ => ?_, F.un.tups, F.un.frzs, F.un.tbls⟩, fun b u e => (F.hok b u e).stay (fun c v hc q => k c v (F.k2 c v (by
    rcases hc with z | z
    · rw [z, e]; intro z; cases z
    · rw [z]; intro z; cases z) q)) (fun _ q => q) fun _ _ q => q⟩
  by_cases hb : b ∈ frs outer
  · obtain ⟨sl, q⟩ := slot b o e (hfree b hb) hb
    exact ⟨_, q⟩
  · obtain ⟨o2, e2⟩ := F.k3 b o e hb
    exact ⟨o2, k b o2 e2⟩
noncomputable def mroIn (K : Frag) (C G : Addr) : Bool := match K.lookup C with
  | some ⟨_, _, .cls cd, _⟩ => (cd.mro.drop 1).contains (.ref G)
  | _ => false
theorem own_sub {K : Frag} {h : Heap} {C G : Addr} {bmB : List Value} {newId : String} (X : K.In h) (e : excIn K C bmB newId = true) (m : mroIn K C G = true) : ∃ bm, ExcAt h C bmB newId bm ∧ bm.contains (.ref G) = true := by
  obtain ⟨bm, x⟩ := own_in X e
  refine ⟨bm, x, ?_⟩
  obtain ⟨N, nm, qn, bs, hdct, sn, sub, ab, col, dd, k0, k1, k2, k3, k5, mN, a1, a2, a3, a4⟩ := x
  unfold mroIn at m
  split at m
  · rename_i at0
    have := X _ _ at0
    rw [a1] at this
    cases this
    exact m
  · cases m
noncomputable def tTry (len j : Nat) (K : Frag) (G : Addr) (tb : XK → TS) (th : TS) : TS := fun D σ H =>
  tb (fun e c H' => ∃ a C nC, e = .ref a ∧ c = some C ∧ excIn K C bmV nC = true ∧ mroIn K C G = true ∧
    (H' a = none → th { nx := fun σ' H2 => D.nx (σ'.set j none) H2, rt := D.rt, bk := fun σ' H2 => D.bk (σ'.set j none) H2, ct := fun σ' H2 => D.ct (σ'.set j none) H2 } ((List.replicate len none).set j (some (.ref a))) (upd H' a (excO a C)))) D σ H
theorem ps_try {X : Cx} {G : Addr} {nG : String} {x n : Str} {j : Nat} {np hpos pos : Pos} {body : List Stmt} {b₀ : Stmt} {suite : List Stmt} {tb : XK → TS} {th : TS} (hex : X.ex = []) (hst : X.stack = X.env :: X.outer) (hfr : X.env.frame = some X.env.locals)
    (owG : excIn X.K G bmV nG = true) (hg : Gl X x) (hm : X.mg x = some (.ref G)) (hN : X.N.Nodup) (hi : X.N[j]? = some n) (hk : X.env.scope.names.lookup n = some .local)
    (hb : ∀ pn xe E', Passes (CXe X.prog X.w) (X.at' pn xe) E' → PSs (X.at' pn xe) body (tb E')) (hs : ∀ a, PSs (X.held a fun _ _ => False) (b₀ :: suite) th) (hdb : (x == ("__debug__" : Str)) = false := by decide) :
    PS X (.Try body [.ExceptHandler (some (.Name x np)) (some n) (b₀ :: suite) hpos] [] [] pos) (tTry X.N.length j X.K G tb th) := by
  intro pins s σ H D I hw
  refine wpAny_Try_except (wpAny_mono (hb (X.pn ++ pins) (fun e s' => ∃ σ1 H1 s1, Inv X pins σ1 H1 s1 ∧ CXe X.prog X.w X.stack H1 s1 _ e s') _ (fun pins1 σ1 H1 s1 e s' I1 h => ⟨σ1, H1, s1, I1.unat I.ok, h⟩) [] s σ H D (I.at' _) hw) (fun f s1 h1 => ?_) (fun e s1 h1 => ?_))
  · cases f with
    | next => obtain ⟨σ', H', I', q⟩ := h1; exact pss_nil pins s1 σ' H' D (I'.unat I.ok) q
    | brk => obtain ⟨σ', H', I', q⟩ := h1; exact ⟨σ', H', I'.unat I.ok, q⟩
    | cont => obtain ⟨σ', H', I', q⟩ := h1; exact ⟨σ', H', I'.unat I.ok, q⟩
    | ret u => obtain ⟨v, σ', H', I', r, q⟩ := h1; exact ⟨v, σ', H', I'.unat I.ok, r, q⟩
  · obtain ⟨σ1, H1, s0, I1, a, C, t, H', B, rfl, F, hfl, a', C', nC, e1, e2, oc, sub, q⟩ := h1
    cases e1
    cases e2
    have hfree := I1.stkFree
    have hframes : X.A.frames = some (X.env :: X.outer) := by rw [← hst]; exact I1.ok.frames
    rw [hst] at hfl
    have hna : ∀ b o, s0.heap.get? b = some o → a ≠ b := fun b o e z => by rw [← z, F.fresh] at e; cases e
    refine wpAny_looks_onW hframes hfr hfl fun h4 held4 ups4 => ?_
    refine wpAny_landsW held4 fun h5 hfl5 ups5 => ?_
    have ups15 : s1.heap.UpToSlots h5 := ups4.trans ups5
    -- what is known
    have know : ∀ (h' : Heap), B.StaysIn h' → s1.heap.UpToSlots h' → Inv X pins (List.replicate X.N.length none) H' { s1 with heap := h' } := fun h' k ups => by
      obtain ⟨u, hok⟩ := fly_here F hfree k ups
      have I2 : Inv X pins σ1 H' { s1 with heap := h' } := I1.call' (s' := { s1 with heap := h' }) (ch := []) F.os u hok F.bare (fun b z => nomatch z)
      exact I2.weak (by rw [List.length_replicate]; exact I1.len.symm) fun i v e => by
        rw [List.getElem?_replicate] at e
        split at e <;> cases e
    have I5 := know h5 hfl5.1 ups15
    obtain ⟨bmC, exC, subC⟩ := own_sub I5.kIn oc sub
    obtain ⟨bmG, exG⟩ := own_in I5.kIn owG
    have hbaseG : bmG.contains (.type "BaseException") = true := by
      obtain ⟨_, _, _, _, _, _, _, _, _, _, _, _, _, _, _, _, _, _, _, tl⟩ := exG
      exact tl.hasType PySem.F.excBase_ValueError.hasBase
    obtain ⟨oe, hoe, hoc⟩ := hfl5.there
    refine wpAny_handleBy_cons (codeAny_handlers_test (ld_glob (X := X.held a fun _ _ => False) (I5.held a _) hg hm ?_ hdb)) (by intro q; cases q)
    refine matches_own exC exG hoe hoc hbaseG subC (codeAny_handlers_suite_as ?_)
    refine lands_againW hfl5 fun h6 hfl6 ups6 => ?_
    have I6 := know h6 hfl6.1 (ups15.trans ups6)
    obtain ⟨m0, hn0, _⟩ := I1.loc
    obtain ⟨oL, _, _, hoL, _⟩ := hn0
    have I7 := I6.track (a := a) (C := C) F.new (by
      cases z : X.s₀.heap.get? a with
      | none => rfl
      | some o =>
        obtain ⟨o', e'⟩ := I1.base.there a o z (by rw [hex]; simp)
        rw [F.fresh] at e'
        cases e') (hna _ _ hoL) (fun y c e => by
        obtain ⟨v, oc', hoc', _⟩ := I1.cell y c e
        exact hna _ _ hoc') (fun p hp => hna _ _ (I1.pin p hp).1) hfl6.there
    have hIσ : j < (List.replicate X.N.length (none : Option V)).length := by rw [List.length_replicate]; exact (List.getElem?_eq_some_iff.mp hi).1
    refine store_ok (X := X.held a fun _ _ => False) (i := j) (v := .ref a) (I7.held a _) hN hi (.inl hk) rfl (fun s7 I8 => ?_) (.inr hk)
    refine wpAny_mono (hs a pins s7 _ _ _ I8 (q F.new)) (fun f s8 h8 => ?_) (fun _ _ z => z.elim)
    cases f with
    | next =>
      obtain ⟨σ', H2, I9, q9⟩ := h8
      exact unbind_ok (X := X) (I9.unheld I.ok) hN hi hk fun s9 I10 => ⟨_, H2, I10, q9⟩
    | brk =>
      obtain ⟨σ', H2, I9, q9⟩ := h8
      exact unbind_ok (X := X) (I9.unheld I.ok) hN hi hk fun s9 I10 => ⟨_, H2, I10, q9⟩
    | cont =>
      obtain ⟨σ', H2, I9, q9⟩ := h8
      exact unbind_ok (X := X) (I9.unheld I.ok) hN hi hk fun s9 I10 => ⟨_, H2, I10, q9⟩
    | ret u =>
      obtain ⟨v, σ', H2, I9, r, q9⟩ := h8
      exact unbind_ok (X := X) (I9.unheld I.ok) hN hi hk fun s9 I10 => ⟨v, _, H2, I10, r, q9⟩
end L2
namespace L2
open PySem PySem.Spec PyProof.Rows PySem.W
section
variable {X : Cx}
theorem pe_fstrR {a : Str} {j : Nat} {p p2 pos : Pos} {e : Expr} {te : TE} (he : PE X e te) (ha : a.length ≤ 1000) :
    PE X (.JoinedStr [.Constant (.str a) j p, .FormattedValue e 114 none p2] pos) (fun σ H Q => te σ H fun v H1 => ∃ x, v = .str x ∧ (reprText x).length ≤ 100000 ∧ Q (.str (a ++ reprText x)) H1) := by
  intro pins s σ H Q I h
  have hs : sizeLine = 16777216 := sizeLine_eq
  refine JoinedStr_many (joinParts_cons (thn (pe_str (X := X) (x := a) (j := j) (pos := p) pins s σ H (fun v H1 => v = .str a ∧ H1 = H) I ⟨rfl, rfl⟩) fun u s1 ⟨v, H1, I1, r1, e1, e2⟩ => ?_))
  subst e1 e2
  obtain ⟨t, rfl⟩ := r1
  have l1 : (Str.empty ++ a).length ≤ sizeLine := by rw [empty_app]; lia
  refine ⟨l1, joinParts_cons (wpAny_FormattedValue_repr (thn (he pins s1 σ H1 _ I1 h) fun u2 s2 ⟨v2, H2, I2, r2, x, e3, lx, q⟩ => ?_))⟩
  subst e3
  obtain ⟨t2, rfl⟩ := r2
  have la : (a ++ reprText x).length = a.length + (reprText x).length := by
    show (a.cps ++ (reprText x).cps).size = _
    rw [Array.size_append]
    rfl
  refine wpAny_pyReprObj_str ?_ (by lia)
  refine formatField_str (fun t' tk => ?_) (by lia)
  have e4 : Str.empty ++ a ++ reprText x = a ++ reprText x := by rw [empty_app]
  refine ⟨by rw [e4]; lia, joinParts_nil ⟨.str (a ++ reprText x), H2, (I2.tok _), ⟨_, by rw [e4]⟩, q⟩ (by rw [e4]; lia)⟩
theorem call_isiE : CallR X (.builtin "isinstance") (fun xs H Q => ∃ a C, xs = [.ref a, .ref C] ∧ H a = some (excO a C) ∧ Q (.bl true) H) := by
  intro pins s σ H xs us Q I r h
  obtain ⟨a, C, rfl, ha, q⟩ := h
  obtain ⟨u1, u2, rfl, r1, r2⟩ := vals2 r
  cases r1
  cases r2
  obtain ⟨⟨o, ho, hc⟩, _⟩ := I.hok a _ ha
  refine call_isinstance_of ?_ (by intro e; cases e)
  (unfold Builtin.«isinstance.nested»)
  refine wpAny_bind (m := typeOf (.ref a)) (wpAny_typeOf_ref ho ?_)
  rw [hc]
  show wpAny _ _ (if (Value.ref C == Value.ref C) = true then _ else _) _ _ s
  rw [if_pos (beq_self_eq_true _)]
  (repeat (first | refine wpAny_pure ?_ | refine wpAny_rule ?_ | refine wpAny_bind ?_))
  exact ⟨.bl true, H, I, rfl, q⟩
theorem call_isiV {nC : String} {C : Addr} (oc : excIn X.K C bmV nC = true) (hty : typeOf (.type "ValueError") = pure (.type "type")) : CallR X (.builtin "isinstance") (fun xs H Q => ∃ a, xs = [.ref a, .ty "ValueError"] ∧ H a = some (excO a C) ∧ Q (.bl true) H) := by
  intro pins s σ H xs us Q I r h
  obtain ⟨a, rfl, ha, q⟩ := h
  obtain ⟨u1, u2, rfl, r1, r2⟩ := vals2 r
  cases r1
  cases r2
  obtain ⟨⟨o, ho, hc⟩, _⟩ := I.hok a _ ha
  obtain ⟨bm, x⟩ := own_in I.kIn oc
  obtain ⟨N, nm, qn, bs, hdct, sn, sub, ab, col, dd, k0, k1, k2, k3, k5, mN, a1, a2, a3, a4⟩ := x
  have hV : bm.contains (.type "ValueError") = true := a4.hasType (by rfl)
  have hcV : (Value.ref C :: bm).contains (.type "ValueError") = true := by rw [List.contains_cons, hV, Bool.or_true]
  refine call_isinstance_of ?_ (by intro e; cases e)
  (unfold Builtin.«isinstance.nested»)
  refine wpAny_bind (m := typeOf (.ref a)) (wpAny_typeOf_ref ho ?_)
  rw [hc]
  show wpAny _ _ (if (Value.ref C == Value.type "ValueError") = true then _ else _) _ _ s
  rw [if_neg (by intro z; exact absurd (eq_of_beq z) (by intro z; cases z))]
  refine wpAny_bind (m := typeOf (.type "ValueError")) (wpAny_of_eq hty ?_)
  (show wpAny _ _ (if (Value.type "type" == Value.type "type") = true then _ else _) _ _ s)
  rw [if_pos (by decide)]
  refine wpAny_bind (wpAny_bind (m := isType (.type "ValueError")) (wpAny_pure (a := true) ?_))
  refine wpAny_bind (m := isInstance (.ref a) (.type "ValueError")) ?_
  unfold isInstance
  refine wpAny_bind (m := typeOf (.ref a)) (wpAny_typeOf_ref ho ?_)
  rw [hc]
  (obtain ⟨hp, g, d, tk, os⟩ := s)
  refine wpAny_isSubtype_exc a1 ?_
  rw [hcV]
  exact wpAny_pure (a := true) (wpAny_pure ⟨.bl true, H, I, rfl, q⟩)
theorem rd_tupB {P : Program} {w : World} {H : Hp} {h : Heap} (ok : HOk P w H h) {a : Addr} {xs : List Bool} (e : H a = some (.tup (xs.map V.bl))) : ∃ as, Reads h (.ref a) (.tuple (xs.map PyData.bool)) as := by
  obtain ⟨z, its, rv, o, ho, hc, n, hd⟩ := ok a _ e
  have all : ∀ {bs : List Bool} {us : List Value}, Vals (bs.map V.bl) us → ∃ as, ReadsAll h us (bs.map PyData.bool) as := by
    intro bs
    induction bs with
    | nil => intro us r; cases r; exact ⟨_, .nil⟩
    | cons b bs ih =>
      intro us r
      cases r with
      | cons r1 r2 =>
        cases r1
        obtain ⟨as, q⟩ := ih r2
        exact ⟨_, .cons (.bool b) q⟩
  obtain ⟨as, ra⟩ := all rv
  exact ⟨as, .tuple ho hc hd (by simpa using ra)⟩
theorem op_eqTB (hu : X.A.units + 64 < cLine) : OpR X (compareOp .Eq) (fun x y H Q => ∃ (a b : Addr) (xs ys : List Bool), x = .ref a ∧ y = .ref b ∧ H a = some (.tup (xs.map V.bl)) ∧ H b = some (.tup (ys.map V.bl)) ∧ PySem.SeqAt.shaped (.tuple (xs.map PyData.bool)) = true ∧
    PySem.SeqAt.shaped (.tuple (ys.map PyData.bool)) = true ∧ Q (.bl (PyData.eqv (.tuple (xs.map PyData.bool)) (.tuple (ys.map PyData.bool)))) H) := by
  intro pins s σ H x y v u Q I rx ry h
  obtain ⟨a, b, xs, ys, rfl, rfl, ha, hb, h1, h2, q⟩ := h
  cases rx
  cases ry
  obtain ⟨as, ra⟩ := rd_tupB I.hok ha
  obtain ⟨bs, rb⟩ := rd_tupB I.hok hb
  exact PySem.SeqAt.compareEq_shaped ra rb h1 h2 hu ⟨.bl _, H, I, rfl, q⟩
theorem Fun.okE {P : Program} {w : World} {K : PySem.W.Frag} {mg : Str → Option Value} {base : Heap} {x qual : Str} {st : Stmt} {f : Addr} {fd : FuncData} {N ps : List Str} {k : Nat} {sp : Sp} (F : Fun K x qual st f fd) (S : FnScope N ps (defScope st)) (len : ∀ vs H Q E, sp vs H Q E → vs.length = ps.length)
    (hbody : ∀ (cdv : Value) (A : Around) (outer : List Env) (s : Shared) (H : Hp) (vs : List V) (Q : VK) (E : XK), Room k (A.deeper (envOfC qual (defScope st) s.heap.objs.size f cdv)) → sp vs H Q E →
      ∃ t, PSs (cxOf (CXe P w) P w K mg base N qual (defScope st) f cdv A outer s H E) (defBody st) t ∧ t { nx := fun _ H' => Q .non H', rt := Q } (start N vs) H) : FnOk P w K mg base (CXe P w) (k + 1) f fd ps sp := by
  obtain ⟨oc, od, kV, doc, pm, an, cdv, ct, osl, rfl, lk, hcd⟩ := F.ex
  exact fn_of lk hcd S len fun A outer s H vs Q E hr hsp => hbody cdv A outer s H vs Q E hr hsp
theorem passE0 {P : Program} {w : World} : Passes (CXe P w) X E0 := fun _ _ _ _ _ _ _ ⟨_, _, _, _, _, _, _, _, q⟩ => q.elim
end
end L2
namespace L2
open PySem PySem.Spec PyProof.Rows
section
variable {X : Cx}
theorem iteS {A B : Prop} {x y : Str} (h : x = y) (a : A) : if decide (V.str x = V.str y) = true then A else B := by
  rw [decide_eq_true (by rw [h])]
  exact a
theorem iteN {A B : Prop} {x y : Str} (h : ¬ x = y) (b : B) : if decide (V.str x = V.str y) = true then A else B := by
  rw [decide_eq_false (fun z => h (V.str.inj z))]
  exact b
theorem dec_s (x y : Str) : decide (V.str x = V.str y) = decide (x = y) := by
  by_cases h : x = y
  · rw [decide_eq_true h, decide_eq_true (by rw [h])]
  · rw [decide_eq_false h, decide_eq_false (fun z => h (V.str.inj z))]
end
end L2
namespace L2
open PySem PySem.Spec PyProof.Rows
section
variable {X : Cx}
theorem mt_upper : MtR X "str.upper" (fun x xs H Q => ∃ a, x = .str a ∧ xs = [] ∧ (Txt.upper a).length ≤ 1000 ∧ Q (.str (Txt.upper a)) H) := by
  intro pins s σ H x xs v us Q I rx rv h
  obtain ⟨a, rfl, rfl, hz, q⟩ := h
  obtain ⟨t, rfl⟩ := rx
  cases rv
  have hs : sizeLine = 16777216 := sizeLine_eq
  exact SC.upper (decide_eq_false (by lia)) ⟨.str _, H, I.tok _, ⟨_, rfl⟩, q⟩
theorem op_notIn_seqK (K : PySem.W.Frag) (h : X.K = K) : OpR X (compareOp .NotIn) (rIn K true) := by
  subst h
  exact op_notIn_seq
theorem lst_new {Q : Hp → Prop} {H : Hp} {l : Addr} (ys : List Str) (xs : List V) (hx : xs = ys.map V.str) (hl : H l = none) (h : ∀ H', Same H H' → H' l = some (.lst (ys.map V.str)) → Q H') : Q (upd H l (.lst xs)) := by
  subst hx
  exact h _ (Same.new hl) upd_same
theorem lst_put {Q : Hp → Prop} {H0 H : Hp} {l : Addr} (ys : List Str) (xs : List V) (hx : xs = ys.map V.str) (s : Same H0 H) (hl : H0 l = none) (h : ∀ H', Same H0 H' → H' l = some (.lst (ys.map V.str)) → Q H') : Q (upd H l (.lst xs)) := by
  subst hx
  exact h _ (s.put hl) upd_same
end
end L2
namespace L2
open PySem PySem.Spec PyProof.Rows
end L2
namespace SK
end SK
namespace L2
open PySem
end L2
namespace K12
open PySem L2 Tx Rk PyProof.Rows PySem.SeqAt
open PySem.PyData (strOk)
section
variable {P : Program} {w : World} {K : PySem.W.Frag} {mg : Str → Option Value} {base : Heap}
noncomputable def top (i : Nat) : Stmt := PySem.Challenge.pw_grope_k12_no_look.main.body.getD i (.Pass ⟨0, 0, 0, 0⟩)
noncomputable abbrev sLooked : Stmt := top 11
noncomputable abbrev sReadLook : Stmt := top 12
noncomputable abbrev sIsLook : Stmt := top 13
noncomputable abbrev sShapeTold : Stmt := top 17
noncomputable abbrev sIsName : Stmt := top 25
noncomputable abbrev sReadLine : Stmt := top 26
noncomputable abbrev sReadRows : Stmt := top 27
noncomputable abbrev sReadThings : Stmt := top 28
noncomputable abbrev sReadPlaces : Stmt := top 29
noncomputable abbrev sCheckKeys : Stmt := top 30
noncomputable abbrev sInit : Stmt := inClass (top 31) 0
noncomputable abbrev sPlaces : Stmt := inClass (top 31) 1
noncomputable abbrev sShapeOf : Stmt := inClass (top 31) 6
noncomputable abbrev sPick : Stmt := top 33
noncomputable abbrev sFixed : Stmt := top 34
noncomputable abbrev sNames : Stmt := top 35
noncomputable abbrev sLine : Stmt := top 36
noncomputable abbrev sRoom : Stmt := top 37
noncomputable abbrev sSizes : Stmt := top 38
noncomputable abbrev sLids : Stmt := top 39
noncomputable abbrev sWorld : Stmt := top 40
noncomputable abbrev sLFresh : Stmt := top 41
noncomputable abbrev sLBad : Stmt := top 42
noncomputable abbrev sLRefused : Stmt := top 43
noncomputable abbrev sLaw : Stmt := top 44
structure Bl (mg : Str → Option Value) : Prop where
  len : mg "len" = none
  range : mg "range" = none
  tuple : mg "tuple" = none
  zip : mg "zip" = none
  isi : mg "isinstance" = none
  str : mg "str" = none
  list : mg "list" = none
  set : mg "set" = none
  all : mg "all" = none
  sorted : mg "sorted" = none
  int : mg "int" = none
  bool : mg "bool" = none
  ve : mg "ValueError" = none
noncomputable abbrev pPick : List Str := ["_law_script", "_law_k", "_law_many"]
noncomputable def cellV (ns : List Int) (k : Int) : Int := if 0 < ns.length then ns.getD (k % (ns.length : Int)).toNat 0 else 0
noncomputable def pk (ns : List Int) (k m : Int) : Int := (cellV ns k % 10 ^ (12 : Int).toNat + 104729) * (k * k + 48271 * k + 11) % 2147483647 * 742938285 % 2147483629 % m
theorem pk_lo (ns : List Int) (k : Int) {m : Int} (h : 0 < m) : 0 ≤ pk ns k m := Int.emod_nonneg _ (by lia)
theorem pk_hi (ns : List Int) (k : Int) {m : Int} (h : 0 < m) : pk ns k m < m := Int.emod_lt_of_pos _ h
inductive spPickD (K : PySem.W.Frag) (vs : List V) (H : Hp) (Q : VK) (E0_ : XK) : Prop
  | mk (a : Addr) (ns : List Int) (k m : Int) (c0 : vs = [.ref a, .int k, .int m]) (c1 : SqL K H a (ns.map V.int)) (c2 : ns.length ≤ 63) (c3 : 0 ≤ k) (c4 : k < 1000000) (c5 : 0 < m) (c6 : Q (.int (pk ns k m)) H) : spPickD K vs H Q E0_
inductive spPick (K : PySem.W.Frag) (vs : List V) (H : Hp) (Q : VK) (E0_ : XK) : Prop
  | mk (a : Addr) (ns : List Int) (k m : Int) (c0 : vs = [.ref a, .int k, .int m]) (c1 : SqL K H a (ns.map V.int)) (c2 : ns.length ≤ 63) (c3 : 0 ≤ k) (c4 : k < 1000000) (c5 : 0 < m) (c6 : ∀ r : Int, 0 ≤ r → r < m → Q (.int r) H) : spPick K vs H Q E0_
inductive spFixed (vs : List V) (H : Hp) (Q : VK) (E0_ : XK) : Prop
  | mk (x : Str) (c0 : vs = [.str x]) (c1 : ∀ (H' : Hp), Same H H' → Q (.bl (decide (x ∈ fixedS))) H') : spFixed  vs H Q E0_
noncomputable def xr (k : Nat) : Str := ⟨(List.replicate k 120).toArray⟩
noncomputable def Xf (xs : List Str) : Prop := ∃ n : Nat, ∀ k : Nat, 1 ≤ k → xr k ∈ xs → k = n
theorem Xf.mono {xs ys : List Str} (h : Xf xs) (s : ∀ x ∈ ys, x ∈ xs) : Xf ys := by
  obtain ⟨n, hn⟩ := h
  exact ⟨n, fun k h1 h2 => hn k h1 (s _ h2)⟩
inductive spNames (K : PySem.W.Frag) (vs : List V) (H : Hp) (Q : VK) (E0_ : XK) : Prop
  | mk (a : Addr) (ns : List Int) (k m : Int) (c0 : vs = [.ref a, .int k, .int m]) (c1 : SqL K H a (ns.map V.int)) (c2 : ns.length ≤ 63) (c3 : 0 ≤ k) (c4 : k < 1000) (c5 : 0 ≤ m) (c6 : m ≤ 12) (c7 : ∀ (l : Addr) (xs : List Str) (H' : Hp), Same H H' → H l = none → H' l = some (.lst (xs.map V.str)) → (xs.length : Int) = m → (∀ x ∈ xs, Nv x) → xs.Nodup → Xf xs → Q (.ref l) H') : spNames K vs H Q E0_
inductive spSizes (K : PySem.W.Frag) (vs : List V) (H : Hp) (Q : VK) (E0_ : XK) : Prop
  | mk (a : Addr) (ns : List Int) (c0 : vs = [.ref a]) (c1 : SqL K H a (ns.map V.int)) (c2 : ns.length ≤ 63) (c3 : ∀ (t : Addr) (p m : Int) (H' : Hp), Same H H' → H' t = some (.tup [.int p, .int m]) → 1 ≤ p → p ≤ 6 → 0 ≤ m → m ≤ 6 → Q (.ref t) H') : spSizes K vs H Q E0_
theorem cell_ok (c : Int) : -(2 ^ 64) < c % 10 ^ (12 : Int).toNat + 104729 ∧ c % 10 ^ (12 : Int).toNat + 104729 < 2 ^ 64 := by
  have e : (10 : Int) ^ (12 : Int).toNat = 1000000000000 := by decide +kernel
  rw [e]
  lia
theorem scPick : FnScope ["_law_script", "_law_k", "_law_many", "_law_cell", "_law_number"] pPick (defScope sPick) := ⟨rfl, rfl, rfl, by decide +kernel, rfl, by decide +kernel, by decide +kernel⟩
theorem scFixed : FnScope ["_law_text", "_law_words"] ["_law_text"] (defScope sFixed) := ⟨rfl, rfl, rfl, by decide +kernel, rfl, by decide +kernel, by decide +kernel⟩
theorem pa_strsE {X : Cx} {es : List Expr} (vs : List V) (h : es.all isStrC = true) (hv : es.map strC = vs) : PA X es (fun _ H Q => Q vs H) := by
  subst hv
  exact pa_strs h
noncomputable def wordsE : List Expr := match (defBody sFixed).getD 0 (.Pass ⟨0, 0, 0, 0⟩) with
  | .Assign _ (.List es _) _ => es
  | _ => []
noncomputable def fixedB (es : List Expr) : List Stmt := match defBody sFixed with
  | [.Assign a (.List _ p2) p3, r] => [.Assign a (.List es p2) p3, r]
  | l => l
theorem fixedB_eq : fixedB wordsE = defBody sFixed := by rfl
noncomputable abbrev nNames : List Str := ["_law_script", "_law_k", "_law_many", "_law_signs", "_law_at", "_law_i", "_law_size", "_law_alike", "_law_names_here", "_law_name", "_law_j", "_law_number"]
theorem scNames : FnScope nNames pPick (defScope sNames) := ⟨rfl, rfl, rfl, by decide +kernel, rfl, by decide +kernel, by decide +kernel⟩
theorem scSizes : FnScope ["_law_script"] ["_law_script"] (defScope sSizes) := ⟨rfl, rfl, rfl, by decide +kernel, rfl, by decide +kernel, by decide +kernel⟩
noncomputable def numF (ns : List Int) (k al at' : Int) (i j : Nat) : Int := if (j : Int) = at' then (pk ns (k + 12) 26 + 5 * (i : Int)) % 26 else pk ns (k + 3 + (j : Int) * al) 26
theorem numF_lo (ns : List Int) (k al at' : Int) (i j : Nat) : 0 ≤ numF ns k al at' i j ∧ numF ns k al at' i j < 26 := by
  unfold numF
  split
  · exact ⟨Int.emod_nonneg _ (by decide), Int.emod_lt_of_pos _ (by decide)⟩
  · exact ⟨pk_lo _ _ (by decide), pk_hi _ _ (by decide)⟩
noncomputable def signs (ns : List Int) (k al at' : Int) (i n : Nat) : List Nat := (List.range n).map fun j => 97 + (numF ns k al at' i j).toNat
noncomputable def nameF (ns : List Int) (k al at' : Int) (n i : Nat) : Str := zed ⟨(signs ns k al at' i n).toArray⟩
theorem signs_succ (ns : List Int) (k al at' : Int) (i n : Nat) : signs ns k al at' i (n + 1) = signs ns k al at' i n ++ [97 + (numF ns k al at' i n).toNat] := by
  unfold signs
  rw [List.range_succ, List.map_append]
  rfl
theorem cs_mk (l : List Nat) : cs ⟨l.toArray⟩ = l := rfl
theorem signs_low {ns : List Int} {k al at' : Int} {i n c : Nat} (h : c ∈ signs ns k al at' i n) : 97 ≤ c ∧ c ≤ 122 := by
  obtain ⟨j, _, rfl⟩ := List.mem_map.mp h
  have := numF_lo ns k al at' i j
  lia
theorem signs_len (ns : List Int) (k al at' : Int) (i n : Nat) : (signs ns k al at' i n).length = n := by
  unfold signs
  rw [List.length_map, List.length_range]
theorem mk_len (l : List Nat) : (Str.mk l.toArray).length = l.length := by
  rw [← cs_len, cs_mk]
theorem nameF_nv (ns : List Int) (k al at' : Int) {n : Nat} (i : Nat) (h1 : 1 ≤ n) (h2 : n ≤ 8) : Nv (nameF ns k al at' n i) :=
  zed_nv (fun c hc => signs_low (show c ∈ signs ns k al at' i n from hc)) (by rw [mk_len, signs_len]; exact h1) (by rw [mk_len, signs_len]; exact h2)
theorem nameF_inj {ns : List Int} {k al : Int} {n a i j : Nat} (ha : a < n) (hi : i < 26) (hj : j < 26) (h : nameF ns k al (a : Int) n i = nameF ns k al (a : Int) n j) : i = j := by
  have e := zed_inj (by rw [mk_len, mk_len, signs_len, signs_len]) h
  have e2 : signs ns k al a i n = signs ns k al a j n := by
    have := congrArg cs e
    rwa [cs_mk, cs_mk] at this
  have e3 : (signs ns k al a i n)[a]? = (signs ns k al a j n)[a]? := by rw [e2]
  unfold signs at e3
  rw [List.getElem?_map, List.getElem?_map, List.getElem?_range ha] at e3
  have e4 : 97 + (numF ns k al a i a).toNat = 97 + (numF ns k al a j a).toNat := Option.some.inj e3
  have l1 := numF_lo ns k al a i a
  have l2 := numF_lo ns k al a j a
  have e5 : numF ns k al a i a = numF ns k al a j a := by lia
  unfold numF at e5
  rw [if_pos rfl, if_pos rfl] at e5
  exact five_inj hi hj e5
noncomputable def repF (at' : Int) (i : Nat) : Str := Txt.mul ⟨#[97 + ((at' + (i : Int) / 8) % 23).toNat]⟩ (1 + (i : Int) % 8)
theorem cs_mul {c : Nat} {i : Int} (h1 : 1 ≤ i) : cs (Txt.mul ⟨#[c]⟩ i) = List.replicate i.toNat c := by
  have e0 : ¬ i < 1 := by lia
  unfold Txt.mul
  rw [if_neg e0]
  by_cases he : (i == 1 || (⟨#[c]⟩ : Str).length == 0) = true
  · rw [if_pos he]
    have : i = 1 := by
      rw [Bool.or_eq_true] at he
      rcases he with q | q
      · exact eq_of_beq q
      · cases q
    subst this
    rfl
  · rw [if_neg he]
    have el := foldl_app #[c] i.toNat #[]
    show (List.foldl (fun x y => x ++ y) #[] (List.replicate i.toNat #[c])).toList = _
    rw [el]
    have : ∀ n : Nat, (List.replicate n [c]).flatten = List.replicate n c := fun n => by
      induction n with
      | zero => rfl
      | succ n ih => rw [List.replicate_succ, List.flatten_cons, ih, List.replicate_succ]; rfl
    simpa using this i.toNat
theorem repF_cs (at' : Int) (i : Nat) : cs (repF at' i) = List.replicate (1 + (i : Int) % 8).toNat (97 + ((at' + (i : Int) / 8) % 23).toNat) := cs_mul (by lia)
theorem repF_nv (at' : Int) (i : Nat) : Nv (repF at' i) := nv_rep (repF_cs at' i) (by lia) (by lia) (by lia) (by lia)
theorem repF_inj {at' : Int} {i j : Nat} (hi : i < 16) (hj : j < 16) (h : repF at' i = repF at' j) : i = j := by
  have e := congrArg cs h
  rw [repF_cs, repF_cs] at e
  have l := congrArg List.length e
  rw [List.length_replicate, List.length_replicate] at l
  have hm : 97 + ((at' + (i : Int) / 8) % 23).toNat ∈ List.replicate (1 + (j : Int) % 8).toNat (97 + ((at' + (j : Int) / 8) % 23).toNat) := by
    rw [← e]
    exact List.mem_replicate.mpr ⟨by lia, rfl⟩
  have e2 := (List.mem_replicate.mp hm).2
  lia
theorem xf_rep (at' : Int) (m : Nat) : Xf ((List.range m).map (repF at')) := ⟨0, fun k h1 h2 => by
  obtain ⟨i, _, e⟩ := List.mem_map.mp h2
  have e2 := congrArg cs e
  rw [repF_cs] at e2
  have e3 : (120 : Nat) ∈ List.replicate (1 + (i : Int) % 8).toNat (97 + ((at' + (i : Int) / 8) % 23).toNat) := by
    rw [e2]
    exact List.mem_replicate.mpr ⟨by lia, rfl⟩
  have e4 := (List.mem_replicate.mp e3).2
  lia⟩
theorem xf_name (ns : List Int) (k al at' : Int) (n m : Nat) : Xf ((List.range m).map (nameF ns k al at' n)) := ⟨n, fun j h1 h2 => by
  obtain ⟨i, _, e⟩ := List.mem_map.mp h2
  have e2 := congrArg cs e
  unfold nameF zed at e2
  split at e2
  · rw [cs_app] at e2
    have e3 : (122 : Nat) ∈ List.replicate j 120 := by
      rw [show List.replicate j 120 = cs (xr j) from rfl, ← e2]
      exact List.mem_append_left _ (by decide +kernel)
    exact absurd (List.mem_replicate.mp e3).2 (by decide)
  · have e3 := congrArg List.length e2
    rw [cs_mk, signs_len, show cs (xr j) = List.replicate j 120 from rfl, List.length_replicate] at e3
    exact e3.symm⟩
theorem nodup_range {f : Nat → Str} {n : Nat} (inj : ∀ i j, i < n → j < n → f i = f j → i = j) : ((List.range n).map f).Nodup := by
  rw [List.nodup_iff_pairwise_ne, List.pairwise_map]
  refine List.Pairwise.imp_of_mem (R := fun a b => a ≠ b) (fun {a b} ha hb ne e => ne (inj a b (List.mem_range.mp ha) (List.mem_range.mp hb) e)) (List.nodup_range)
end
end K12
namespace K12
open PySem L2 Tx Rk PyProof.Rows PySem.SeqAt
open PySem.PyData (strOk)
section
variable {P : Program} {w : World} {K : PySem.W.Frag} {mg : Str → Option Value} {base : Heap}
theorem ok_pickD {f : Addr} {fd : FuncData} (F : Fun K "_law_pick" "_law_pick" sPick f fd) (T : Bl mg) : FnOk P w K mg base CX0 1 f fd pPick (spPickD K) := by
  refine F.ok scPick (fun vs H Q E h => ?_) (fun cdv A outer s H vs Q E hr h => ?_)
  · obtain ⟨a, ns, k, m, rfl, _⟩ := h
    rfl
  · obtain ⟨a, ns, k, m, rfl, hS, hn, k0, k1, m0, q⟩ := h
    refine ⟨_, pss_cons (ps_set (i := 3) scPick.nd rfl (Or.inl rfl) pe_int)
      (pss_cons (ps_if (pt_cmpR op_gt (pe_callB call_len (by rfl) T.len PySem.boot_len (pa_cons (pv 0) pa_nil)) pe_int (nomark _))
        (pss_one (ps_set (i := 3) scPick.nd rfl (Or.inl rfl) (pe_ix ix_list (pv 0) (pe_op op_mod (pv 1) (pe_callB call_len (by rfl) T.len PySem.boot_len (pa_cons (pv 0) pa_nil))) (fun _ _ => rfl)))) pss_nil)
      (pss_cons (ps_set (i := 4) scPick.nd rfl (Or.inl rfl) (pe_op op_mod (pe_op op_mul (pe_op op_add (pe_op op_mod (pv 3) (pe_op op_pow pe_int pe_int)) pe_int)
        (pe_op op_add (pe_op op_add (pe_op op_mul (pv 1) (pv 1)) (pe_op op_mul pe_int (pv 1))) pe_int)) pe_int))
      (pss_one (ps_ret (pe_op op_mod (pe_op op_mod (pe_op op_mul (pv 4) pe_int) pe_int) (pv 2)))))), ?_⟩
    refine ⟨_, rfl, _, _, rfl, .inl ⟨_, hS, rfl⟩, _, _, rfl, rfl, _, rfl, ?_⟩
    have hl : (ns.map V.int).length = ns.length := List.length_map ..
    refine ite2 (fun hp => ?_) (fun hp => ?_)
    · have hp' : 0 < ns.length := by
        have := of_decide_eq_true hp
        rw [hl] at this
        lia
      have hpi : (0 : Int) < ((ns.map V.int).length : Int) := by rw [hl]; lia
      obtain ⟨j, hj⟩ : ∃ j : Nat, (j : Int) = k % ((ns.map V.int).length : Int) := ⟨(k % ((ns.map V.int).length : Int)).toNat, Int.toNat_of_nonneg (Int.emod_nonneg _ (by lia))⟩
      have hjl : j < ns.length := by
        have := Int.emod_lt_of_pos k hpi
        rw [hl] at this hj
        lia
      have hat : atI (ns.map V.int) (k % ((ns.map V.int).length : Int)) = some (.int ns[j]) := by
        rw [← hj]
        exact atI_nat (by simp [hjl])
      have hcv : cellV ns k = ns[j] := by
        unfold cellV
        rw [if_pos hp', ← hl, ← hj, Int.toNat_natCast]
        simp [List.getD, hjl]
      unfold pk at q
      rw [hcv] at q
      refine ⟨_, rfl, _, rfl, _, rfl, _, _, rfl, .inl ⟨_, hS, rfl⟩, _, _, rfl, rfl, hpi, _, _, _, _, rfl, rfl, hS, hat, ?_⟩
      refine ⟨_, rfl, _, _, rfl, rfl, ⟨by decide, by decide, by decide⟩, _, _, rfl, rfl, (by show (0 : Int) < _; decide +kernel), _, _, rfl, rfl, _, rfl, _, rfl, _, _, rfl, rfl, .inl ⟨by lia, by lia⟩, _, rfl, _, _, rfl, rfl, .inl ⟨by decide, by decide⟩,
        _, _, rfl, rfl, _, _, rfl, rfl, _, _, rfl, rfl, .inl (cell_ok _), _, _, rfl, rfl, (by show (0 : Int) < _; decide), ?_⟩
      exact ⟨_, rfl, _, _, rfl, rfl, .inr ⟨by decide, by decide⟩, _, _, rfl, rfl, (by show (0 : Int) < _; decide), _, rfl, _, _, rfl, rfl, m0, q⟩
    · have hcv : cellV ns k = 0 := by
        unfold cellV
        rw [if_neg]
        intro z
        exact hp (decide_eq_true (by rw [hl]; lia))
      unfold pk at q
      rw [hcv] at q
      refine ⟨_, rfl, _, _, rfl, rfl, ⟨by decide, by decide, by decide⟩, _, _, rfl, rfl, (by show (0 : Int) < _; decide +kernel), _, _, rfl, rfl, _, rfl, _, rfl, _, _, rfl, rfl, .inl ⟨by lia, by lia⟩, _, rfl, _, _, rfl, rfl, .inl ⟨by decide, by decide⟩,
        _, _, rfl, rfl, _, _, rfl, rfl, _, _, rfl, rfl, .inl (cell_ok _), _, _, rfl, rfl, (by show (0 : Int) < _; decide), ?_⟩
      exact ⟨_, rfl, _, _, rfl, rfl, .inr ⟨by decide, by decide⟩, _, _, rfl, rfl, (by show (0 : Int) < _; decide), _, rfl, _, _, rfl, rfl, m0, q⟩
end
end K12
namespace K12
open PySem L2 Tx Rk PyProof.Rows PySem.SeqAt
open PySem.PyData (strOk)
section
variable {P : Program} {w : World} {K : PySem.W.Frag} {mg : Str → Option Value} {base : Heap}
theorem ok_pick {f : Addr} {fd : FuncData} (G : FnOk P w K mg base CX0 1 f fd pPick (spPickD K)) : FnOk P w K mg base CX0 1 f fd pPick (spPick K) :=
  G.imp fun vs H Q E h => by
    obtain ⟨a, ns, k, m, e, hS, hn, k0, k1, m0, q⟩ := h
    exact ⟨a, ns, k, m, e, hS, hn, k0, k1, m0, q _ (pk_lo _ _ m0) (pk_hi _ _ m0)⟩
end
end K12
namespace K12
open PySem L2 Tx Rk PyProof.Rows PySem.SeqAt
open PySem.PyData (strOk)
section
variable {P : Program} {w : World} {K : PySem.W.Frag} {mg : Str → Option Value} {base : Heap}
theorem fixedB_ok {f : Addr} {cdv : Value} {A : Around} {outer : List Env} {s : Shared} {H : Hp} {E : XK} {es : List Expr} (vs : List V) (h : es.all isStrC = true) (hv : es.map strC = vs) (hl : vs.length ≤ sizeLine) (hf : vs.all flatV = true) :
    ∃ t, PSs (cxOf CX0 P w K mg base ["_law_text", "_law_words"] "_law_fixed" (defScope sFixed) f cdv A outer s H E).nox (fixedB es) t ∧
      ∀ (x : Str) (Q : VK), (∀ (H' : Hp), Same H H' → Q (.bl (inV (.str x) vs)) H') → t { nx := fun _ H' => Q .non H', rt := Q } [some (.str x), none] H := by
  refine ⟨_, pss_cons (ps_set (i := 1) scFixed.nd rfl (Or.inl rfl) (pe_lst (pa_strsE vs h hv))) (pss_one (ps_ret (pe_cmpR op_in_seq (pv 0) (pv 1) (by rfl)))), ?_⟩
  intro x Q q
  refine ⟨hl, fun l hl => ?_⟩
  exact ⟨_, rfl, _, rfl, l, _, rfl, .inl (SqL.of upd_same), rfl, hf, q _ (Same.new hl)⟩
theorem ok_fixed {f : Addr} {fd : FuncData} (F : Fun K "_law_fixed" "_law_fixed" sFixed f fd) : FnOk P w K mg base CX0 1 f fd ["_law_text"] spFixed := by
  refine F.ok scFixed (fun vs H Q E h => ?_) (fun cdv A outer s H vs Q E hr h => ?_)
  · obtain ⟨x, rfl, _⟩ := h
    rfl
  · obtain ⟨x, rfl, q⟩ := h
    obtain ⟨t, ht, rt⟩ := fixedB_ok (P := P) (w := w) (K := K) (mg := mg) (base := base) (f := f) (cdv := cdv) (A := A) (outer := outer) (s := s) (H := H) (E := E) (es := wordsE) (fixedS.map V.str) (by decide +kernel) (by rfl) (by rw [sizeLine_eq]; decide +kernel) (flat_strs _)
    rw [fixedB_eq] at ht
    refine ⟨t, ?_, rt x Q fun H' s' => ?_⟩
    · assumption
    · rw [inV_strs]
      exact q H' s'
end
end K12
namespace K12
open PySem L2 Tx Rk PyProof.Rows PySem.SeqAt
open PySem.PyData (strOk)
section
variable {P : Program} {w : World} {K : PySem.W.Frag} {mg : Str → Option Value} {base : Heap}
theorem ok_names {f fP fX : Addr} {fd fdP fdX : FuncData} (F : Fun K "_law_names" "_law_names" sNames f fd) (DP : Df K mg "_law_pick" sPick pPick fP fdP) (DX : Df K mg "_law_fixed" sFixed ["_law_text"] fX fdX) (T : Bl mg)
    (GP : FnOk P w K mg base CX0 1 fP fdP pPick (spPickD K)) (GX : FnOk P w K mg base CX0 1 fX fdX ["_law_text"] spFixed) :
    FnOk P w K mg base CX0 2 f fd pPick (spNames K) := by
  refine F.ok scNames (fun vs H Q E h => ?_) (fun cdv A outer s H vs Q E hr h => ?_)
  · obtain ⟨a, ns, k, m, rfl, _⟩ := h
    rfl
  · obtain ⟨a, ns, k, m, rfl, hS, hn, k0, k1, m0, m1, q⟩ := h
    refine ⟨_, (pss_cons (ps_set (i := 3) scNames.nd rfl (Or.inr rfl) pe_str)
      (pss_cons (ps_if (pt_cmpR op_eq (pe_call GP hr (by rfl) DP.m DP.F.kp DP.b .nil pass0 (pa_cons (pv 0) (pa_cons (pe_op op_add (pv 1) pe_int) (pa_cons pe_int pa_nil)))) pe_int (nomark _)) (pss_cons (ps_set (i := 4) scNames.nd rfl (Or.inr rfl) (pe_call GP hr (by rfl) DP.m DP.F.kp DP.b .nil pass0 (pa_cons (pv 0) (pa_cons (pv 1) (pa_cons pe_int pa_nil)))))
      (pss_one (ps_ret (pe_lc (N := ["_law_i", "_law_signs", "_law_at"]) (sc := defScope sNames) (own := ["_law_i"]) (fr := ["_law_signs", "_law_at"]) (js := [3, 4]) ⟨rfl, rfl, rfl, rfl, by decide +kernel, by decide +kernel, by decide +kernel, rfl, by decide +kernel⟩ rfl (pi_range1 (by rfl) T.range (pa_cons (pv 2) pa_nil)) (fun _ _ _ _ => pg_name (i := 0) (show List.Nodup (["_law_i", "_law_signs", "_law_at"] : List Str) by decide +kernel) rfl (Or.inl rfl)) (fun _ _ _ _ => pif_nil) (fun _ _ _ _ => (pe_op op_mulS (pe_ix ix_str (pv 1) (pe_op op_mod (pe_op op_add (pv 2) (pe_op op_fdiv (pv 0) pe_int)) pe_int) (fun _ _ => rfl)) (pe_op op_add pe_int (pe_op op_mod (pv 0) pe_int)))))))) pss_nil)
      (pss_cons (ps_set (i := 6) scNames.nd rfl (Or.inl rfl) (pe_op op_add pe_int (pe_call GP hr (by rfl) DP.m DP.F.kp DP.b .nil pass0 (pa_cons (pv 0) (pa_cons (pv 1) (pa_cons pe_int pa_nil))))))
      (pss_cons (ps_set (i := 4) scNames.nd rfl (Or.inr rfl) (pe_call GP hr (by rfl) DP.m DP.F.kp DP.b .nil pass0 (pa_cons (pv 0) (pa_cons (pe_op op_add (pv 1) pe_int) (pa_cons (pv 6) pa_nil)))))
      (pss_cons (ps_set (i := 7) scNames.nd rfl (Or.inl rfl) (pe_call GP hr (by rfl) DP.m DP.F.kp DP.b .nil pass0 (pa_cons (pv 0) (pa_cons (pe_op op_add (pv 1) pe_int) (pa_cons pe_int pa_nil)))))
      (pss_cons (ps_set (i := 8) scNames.nd rfl (Or.inl rfl) (pe_lst pa_nil))
      (pss_cons (ps_for PassesOwn.never rfl (pi_range1 (by rfl) T.range (pa_cons (pv 2) pa_nil)) (pg_name (i := 5) scNames.nd rfl (Or.inl rfl)) (pss_cons (ps_set (i := 9) scNames.nd rfl (Or.inl rfl) pe_str)
      (pss_cons (ps_for PassesOwn.never rfl (pi_range1 (by rfl) T.range (pa_cons (pv 6) pa_nil)) (pg_name (i := 10) scNames.nd rfl (Or.inl rfl)) (pss_cons (ps_set (i := 11) scNames.nd rfl (Or.inl rfl) (pe_call GP hr (by rfl) DP.m DP.F.kp DP.b .nil pass0 (pa_cons (pv 0) (pa_cons (pe_op op_add (pe_op op_add (pv 1) pe_int) (pe_op op_mul (pv 10) (pv 7))) (pa_cons pe_int pa_nil)))))
      (pss_cons (ps_if (pt_cmpR op_eq (pv 10) (pv 4) (nomark _)) (pss_one (ps_set (i := 11) scNames.nd rfl (Or.inl rfl) (pe_op op_mod (pe_op op_add (pe_call GP hr (by rfl) DP.m DP.F.kp DP.b .nil pass0 (pa_cons (pv 0) (pa_cons (pe_op op_add (pv 1) pe_int) (pa_cons pe_int pa_nil)))) (pe_op op_mul pe_int (pv 5))) pe_int))) pss_nil)
      (pss_one (ps_set (i := 9) scNames.nd rfl (Or.inl rfl) (pe_op op_add_str (pv 9) (pe_ix ix_str (pv 3) (pv 11) (fun _ _ => rfl))))))))
      (pss_cons (ps_if (pt_val (pe_call GX hr (by rfl) DX.m DX.F.kp DX.b .nil pass0 (pa_cons (pv 9) pa_nil))) (pss_one (ps_set (i := 9) scNames.nd rfl (Or.inl rfl) (pe_op op_add_str pe_str (pv 9)))) pss_nil)
      (pss_one (ps_expr (pe_bm PySem.F.plainAttrs_list PySem.F.slot_list_append PySem.F.type_list_append mt_append (pv 8) (pa_cons (pv 9) pa_nil))))))))
      (pss_one (ps_ret (pv 8)))))))))), ?_⟩
    have abc_e : (Str.ofString "abcdefghijklmnopqrstuvwxyz") = abc := rfl
    have hsl : sizeLine = 16777216 := sizeLine_eq
    -- the first draw
    refine ⟨_, rfl, _, rfl, _, _, rfl, rfl, a, ns, _, _, rfl, hS, hn, by lia, by lia, by decide, ⟨rfl, _, rfl, ?_⟩⟩
    refine ite2 (fun _ => ?_) (fun _ => ?_)
    · -- beginnings of one another
      refine ⟨_, rfl, _, rfl, a, ns, _, _, rfl, hS, hn, by lia, by lia, by decide, ?_⟩
      have a0 := pk_lo ns k (m := 23) (by decide)
      have a1 := pk_hi ns k (m := 23) (by decide)
      generalize pk ns k 23 = at' at a0 a1 ⊢
      refine ⟨_, rfl, m, rfl, by lia, by lia, fun D hD => ?_⟩
      refine lcJ (n := m.toNat) (fun i ys H2 => ys = ((List.range i).map (repF at')).map V.str ∧ Same H H2 ∧ H2 D = some (.lst ys)) ⟨rfl, Same.new hD, upd_same⟩
        (fun i _ _ hi _ => hi) (fun _ _ _ => Nat.le_refl _) ?_ ?_
      · rintro i ys H2 x H3 hi ⟨rfl, sm, hD2⟩ ⟨rfl, rfl⟩
        refine lc_yes ?_
        have b0 := Int.emod_nonneg (at' + (0 + (i : Int)) / 8) (b := 23) (by decide)
        have b1 := Int.emod_lt_of_pos (at' + (0 + (i : Int)) / 8) (b := 23) (by decide)
        have hc := abc_num b0 (by lia)
        have d0 := Int.emod_nonneg (0 + (i : Int)) (b := 8) (by decide)
        have d1 := Int.emod_lt_of_pos (0 + (i : Int)) (b := 8) (by decide)
        refine ⟨_, rfl, _, rfl, _, rfl, _, _, rfl, rfl, ⟨by decide, by decide⟩, _, _, rfl, rfl, _, _, rfl, rfl, (by show (0 : Int) < _; decide), abc, _, _, rfl, rfl, abc_len, hc, _, rfl, _, _, rfl, rfl, (by show (0 : Int) < _; decide), _, _, rfl, rfl, _, _, rfl, rfl, by lia, by lia, (by show 1 ≤ 1000; decide), ?_⟩
        refine ⟨_, hD2, by rw [List.length_map, List.length_map, List.length_range]; lia, ?_, sm.put hD, upd_same⟩
        rw [List.range_succ, List.map_append, List.map_append]
        show _ = _ ++ [V.str (repF at' i)]
        unfold repF
        rw [Int.zero_add]
      · rintro ys H2 ⟨rfl, sm, hD2⟩
        refine q D _ H2 sm hD hD2 (by rw [List.length_map, List.length_range]; lia) (fun x hx => ?_) (nodup_range fun i j hi hj e => repF_inj (by lia) (by lia) e) (xf_rep at' _)
        obtain ⟨i, _, rfl⟩ := List.mem_map.mp hx
        exact repF_nv at' i
    · -- names that differ at one place
      refine ⟨_, rfl, _, rfl, a, ns, _, _, rfl, hS, hn, by lia, by lia, by decide, ⟨_, _, rfl, rfl, ?_⟩⟩
      have s0 := pk_lo ns k (m := 8) (by decide)
      have s1 := pk_hi ns k (m := 8) (by decide)
      generalize pk ns k 8 = sz at s0 s1 ⊢
      refine ⟨_, rfl, _, rfl, _, _, rfl, rfl, _, rfl, a, ns, _, _, rfl, hS, hn, by lia, by lia, by lia, ?_⟩
      have a0 := pk_lo ns (k + 1) (m := 1 + sz) (by lia)
      have a1 := pk_hi ns (k + 1) (m := 1 + sz) (by lia)
      generalize pk ns (k + 1) (1 + sz) = at' at a0 a1 ⊢
      refine ⟨_, rfl, _, rfl, _, _, rfl, rfl, a, ns, _, _, rfl, hS, hn, by lia, by lia, by decide, ?_⟩
      have l0 := pk_lo ns (k + 2) (m := 2) (by decide)
      have l1 := pk_hi ns (k + 2) (m := 2) (by decide)
      generalize pk ns (k + 2) 2 = al at l0 l1 ⊢
      refine ⟨Nat.zero_le _, fun l hl => ?_⟩
      obtain ⟨n, hn'⟩ : ∃ n : Nat, (n : Int) = 1 + sz := ⟨(1 + sz).toNat, Int.toNat_of_nonneg (by lia)⟩
      obtain ⟨a', ha'⟩ : ∃ n : Nat, (n : Int) = at' := ⟨at'.toNat, Int.toNat_of_nonneg (by lia)⟩
      refine ⟨_, rfl, m, rfl, by lia, by lia, for_range (n := m.toNat) (fun i σ H2 => ∃ (v5 v9 v10 v11 : Option V),
        σ = [some (.ref a), some (.int k), some (.int m), some (.str abc), some (.int at'), v5, some (.int (1 + sz)), some (.int al), some (.ref l), v9, v10, v11] ∧
        Same H H2 ∧ H2 l = some (.lst (((List.range i).map (nameF ns k al at' n)).map V.str))) ⟨none, none, none, none, rfl, Same.new hl, upd_same⟩ ?_ ?_⟩
      · rintro i σ H2 hi ⟨v5, v9, v10, v11, rfl, sm, hl2⟩
        have hS2 := sm.seq hS
        refine ⟨_, rfl, _, rfl, by lia, by lia, for_range (n := (1 + sz).toNat) (fun j σ H3 => ∃ (v10 v11 : Option V),
          σ = [some (.ref a), some (.int k), some (.int m), some (.str abc), some (.int at'), some (.int (0 + (i : Int))), some (.int (1 + sz)), some (.int al), some (.ref l), some (.str ⟨(signs ns k al at' i j).toArray⟩), v10, v11] ∧
          H3 = H2) ⟨v10, v11, rfl, rfl⟩ ?_ ?_⟩
        · rintro j σ H3 hj ⟨w10, w11, rfl, rfl⟩
          have hjl : (j : Int) < 1 + sz := by lia
          have hja : 0 ≤ (0 + (j : Int)) * al ∧ (0 + (j : Int)) * al ≤ 8 := by
            have : al = 0 ∨ al = 1 := by lia
            rcases this with e | e
            · subst e; lia
            · subst e; lia
          refine ⟨_, rfl, _, rfl, _, _, rfl, rfl, _, rfl, _, rfl, _, _, rfl, rfl, .inl ⟨by lia, by lia⟩, _, _, rfl, rfl, a, ns, _, _, rfl, hS2, hn, by lia, by lia, by decide, ?_⟩
          refine ⟨_, rfl, _, rfl, rfl, _, rfl, ?_⟩
          have hnl := numF_lo ns k al at' i j
          have hc := abc_num hnl.1 hnl.2
          have hsg : (⟨(signs ns k al at' i j).toArray⟩ : Str) ++ ⟨#[97 + (numF ns k al at' i j).toNat]⟩ = ⟨(signs ns k al at' i (j + 1)).toArray⟩ := by
            apply cs_inj
            rw [cs_app, cs_one]
            show signs ns k al at' i j ++ [97 + (numF ns k al at' i j).toNat] = signs ns k al at' i (j + 1)
            rw [signs_succ]
          have hlen : (⟨(signs ns k al at' i j).toArray⟩ : Str).length = j := by rw [mk_len, signs_len]
          refine ite2 (fun he => ?_) (fun he => ?_)
          · have he' : (j : Int) = at' := by
              have := V.int.inj (of_decide_eq_true he)
              lia
            have hnu : numF ns k al at' i j = (pk ns (k + 12) 26 + 5 * (0 + (i : Int))) % 26 := by
              unfold numF
              rw [if_pos he', Int.zero_add]
            rw [hnu] at hc hsg
            refine ⟨_, rfl, _, rfl, _, _, rfl, rfl, a, ns, _, _, rfl, hS2, hn, by lia, by lia, by decide, ?_⟩
            refine ⟨_, rfl, _, _, rfl, rfl, .inl ⟨by decide, by decide⟩, _, _, rfl, rfl, _, _, rfl, rfl, (by show (0 : Int) < _; decide), ?_⟩
            refine ⟨_, rfl, _, rfl, _, rfl, abc, _, _, rfl, rfl, abc_len, hc, _, _, rfl, rfl, by show (⟨(signs ns k al at' i j).toArray⟩ : Str).length + 1 ≤ sizeLine; lia, some (.int (0 + (j : Int))), some (.int ((pk ns (k + 12) 26 + 5 * (0 + (i : Int))) % 26)), ?_, rfl⟩
            rw [← hsg]
            all_goals rfl
          · have he' : ¬ (j : Int) = at' := fun z => he (decide_eq_true (by rw [← z, Int.zero_add]))
            have hnu : numF ns k al at' i j = pk ns (k + 3 + (0 + (j : Int)) * al) 26 := by
              unfold numF
              rw [if_neg he', Int.zero_add]
            rw [hnu] at hc hsg
            refine ⟨_, rfl, _, rfl, _, rfl, abc, _, _, rfl, rfl, abc_len, hc, _, _, rfl, rfl, by show (⟨(signs ns k al at' i j).toArray⟩ : Str).length + 1 ≤ sizeLine; lia, some (.int (0 + (j : Int))), some (.int (pk ns (k + 3 + (0 + (j : Int)) * al) 26)), ?_, rfl⟩
            rw [← hsg]
            all_goals rfl
        · rintro σ H3 ⟨w10, w11, rfl, rfl⟩
          have en : (1 + sz).toNat = n := by lia
          rw [en]
          refine ⟨_, rfl, _, rfl, fun H4 s4 => ⟨_, rfl, ?_⟩⟩
          have hl4 := s4 _ _ hl2
          have hlen : (⟨(signs ns k al at' i n).toArray⟩ : Str).length = n := by rw [mk_len, signs_len]
          have hz : ((List.range i).map (nameF ns k al at' n)).map V.str ++ [V.str (nameF ns k al at' n i)] = ((List.range (i + 1)).map (nameF ns k al at' n)).map V.str := by
            rw [List.range_succ, List.map_append, List.map_append]
            rfl
          have hll : (((List.range i).map (nameF ns k al at' n)).map V.str).length < sizeLine := by rw [List.length_map, List.length_map, List.length_range]; lia
          refine ite2 (fun hx => ?_) (fun hx => ?_)
          · have hx' := of_decide_eq_true hx
            refine ⟨_, rfl, _, _, rfl, rfl, by show 1 + (⟨(signs ns k al at' i n).toArray⟩ : Str).length ≤ sizeLine; lia, ?_⟩
            refine ⟨_, rfl, .inl ⟨rfl, _, SqL.of hl4⟩, _, rfl, l, _, _, rfl, rfl, hl4, hll, _, _, _, _, rfl, (sm.trans s4).put hl, ?_⟩
            rw [upd_same, ← hz]
            unfold nameF zed
            rw [if_pos hx']
            all_goals rfl
          · have hx' : ¬ (⟨(signs ns k al at' i n).toArray⟩ : Str) ∈ fixedS := fun z => hx (decide_eq_true z)
            refine ⟨_, rfl, .inl ⟨rfl, _, SqL.of hl4⟩, _, rfl, l, _, _, rfl, rfl, hl4, hll, _, _, _, _, rfl, (sm.trans s4).put hl, ?_⟩
            rw [upd_same, ← hz]
            unfold nameF zed
            rw [if_neg hx']
      · rintro σ H2 ⟨v5, v9, v10, v11, rfl, sm, hl2⟩
        refine ⟨_, rfl, q l _ H2 sm hl hl2 (by rw [List.length_map, List.length_range]; lia) (fun x hx => ?_) (nodup_range fun i j hi hj e => ?_) (xf_name ns k al at' n _)⟩
        · obtain ⟨i, _, rfl⟩ := List.mem_map.mp hx
          exact nameF_nv ns k al at' i (by lia) (by lia)
        · rw [← ha'] at e
          exact nameF_inj (by lia) (by lia) (by lia) e
end
end K12
namespace K12
open PySem L2 Tx Rk PyProof.Rows PySem.SeqAt
open PySem.PyData (strOk)
section
variable {P : Program} {w : World} {K : PySem.W.Frag} {mg : Str → Option Value} {base : Heap}
theorem ok_sizes {f fP : Addr} {fd fdP : FuncData} (F : Fun K "_law_sizes" "_law_sizes" sSizes f fd) (DP : Df K mg "_law_pick" sPick pPick fP fdP) (T : Bl mg) (GP : FnOk P w K mg base CX0 1 fP fdP pPick (spPick K)) : FnOk P w K mg base CX0 2 f fd ["_law_script"] (spSizes K) := by
  refine F.ok scSizes (fun vs H Q E h => ?_) (fun cdv A outer s H vs Q E hr h => ?_)
  · obtain ⟨a, ns, rfl, _⟩ := h
    rfl
  · obtain ⟨a, ns, rfl, hS, hn, q⟩ := h
    refine ⟨_, pss_one (ps_ret (pe_tup (pa_cons (pe_op op_add pe_int (pe_call GP hr (by rfl) DP.m DP.F.kp DP.b .nil pass0 (pa_cons (pv 0) (pa_cons pe_int (pa_cons pe_int pa_nil)))))
      (pa_cons (pe_call GP hr (by rfl) DP.m DP.F.kp DP.b .nil pass0 (pa_cons (pv 0) (pa_cons pe_int (pa_cons pe_int pa_nil)))) pa_nil)))), ?_⟩
    refine ⟨_, rfl, a, ns, _, _, rfl, hS, hn, by decide, by decide, by decide, fun r r0 r1 => ⟨_, _, rfl, rfl, ?_⟩⟩
    refine ⟨_, rfl, a, ns, _, _, rfl, hS, hn, by decide, by decide, by decide, fun r' r2 r3 => ⟨by show 2 ≤ sizeLine; decide, fun t ht => ?_⟩⟩
    exact q t _ _ _ (Same.new ht) upd_same (by lia) (by lia) r2 (by lia)
end
end K12
namespace K12
open PySem L2 Tx Rk PyProof.Rows PySem.SeqAt
open PySem.PyData (strOk)
section
variable {P : Program} {w : World} {K : PySem.W.Frag} {mg : Str → Option Value} {base : Heap}
noncomputable abbrev Sk (x : Str) : Prop := strOk x = true ∧ x.length ≤ 16
theorem dget {H : Hp} {a : Addr} {kvs : List (Key × V)} {x : Str} {v : V} (e : H a = some (.dK kvs)) (h : valV kvs (Sum.inr x : Key) = some v) : DGet H a (.str x) (some v) := by
  have q := DGet.k (k := (Sum.inr x : Key)) e
  rw [h] at q
  exact q
noncomputable abbrev pLids : List Str := ["_law_room_here", "_law_place"]
noncomputable def Ad (L1 L2 : List (Key × V)) (x l : Str) : Prop := l = "open" ∨ (l = "shut" ∧ (valV L1 (Sum.inr x : Key)).isSome = true) ∨ (l = "locked" ∧ (valV L2 (Sum.inr x : Key)).isSome = true)
inductive spLids (vs : List V) (H : Hp) (Q : VK) (E0_ : XK) : Prop
  | mk (r d1 d2 : Addr) (x : Str) (kvs L1 L2 : List (Key × V)) (c0 : vs = [.ref r, .str x]) (c1 : H r = some (.dK kvs)) (c2 : valV kvs (Sum.inr "lids" : Key) = some (.ref d1)) (c3 : valV kvs (Sum.inr "keys" : Key) = some (.ref d2)) (c4 : H d1 = some (.dK L1)) (c5 : H d2 = some (.dK L2)) (c6 : ∀ (l : Addr) (ys : List Str) (H' : Hp), Same H H' → H l = none → H' l = some (.lst (ys.map V.str)) → 1 ≤ ys.length → (∀ y ∈ ys, Ad L1 L2 x y) → Q (.ref l) H') : spLids  vs H Q E0_
theorem scLids : FnScope ["_law_room_here", "_law_place", "_law_some"] pLids (defScope sLids) := ⟨rfl, rfl, rfl, by decide +kernel, rfl, by decide +kernel, by decide +kernel⟩
theorem kne {x y : Str} (h : ¬ x = y) : ¬ (Sum.inr x : Key) = Sum.inr y := fun e => h (Sum.inr.inj e)
noncomputable def room0 (p t d1 d2 d3 : Addr) : List (Key × V) := [(Sum.inr "places", .ref p), (Sum.inr "things", .ref t), (Sum.inr "lids", .ref d1), (Sum.inr "keys", .ref d2), (Sum.inr "shapes", .ref d3)]
theorem room0_things (p t d1 d2 d3 : Addr) : valV (room0 p t d1 d2 d3) (Sum.inr "things" : Key) = some (.ref t) := by
  unfold room0
  rw [valV_neg (kne (by decide +kernel)), valV_pos rfl]
theorem room0_lids (p t d1 d2 d3 : Addr) : valV (room0 p t d1 d2 d3) (Sum.inr "lids" : Key) = some (.ref d1) := by
  unfold room0
  rw [valV_neg (kne (by decide +kernel)), valV_neg (kne (by decide +kernel)), valV_pos rfl]
theorem room0_keys (p t d1 d2 d3 : Addr) : valV (room0 p t d1 d2 d3) (Sum.inr "keys" : Key) = some (.ref d2) := by
  unfold room0
  rw [valV_neg (kne (by decide +kernel)), valV_neg (kne (by decide +kernel)), valV_neg (kne (by decide +kernel)), valV_pos rfl]
theorem room0_shapes (p t d1 d2 d3 : Addr) : valV (room0 p t d1 d2 d3) (Sum.inr "shapes" : Key) = some (.ref d3) := by
  unfold room0
  rw [valV_neg (kne (by decide +kernel)), valV_neg (kne (by decide +kernel)), valV_neg (kne (by decide +kernel)), valV_neg (kne (by decide +kernel)), valV_pos rfl]
theorem room0_places (p t d1 d2 d3 : Addr) : valV (room0 p t d1 d2 d3) (Sum.inr "places" : Key) = some (.ref p) := by
  unfold room0
  rw [valV_pos rfl]
noncomputable abbrev pLine : List Str := ["_law_script", "_law_k", "_law_room_here", "_law_name"]
inductive spLine (K : PySem.W.Frag) (vs : List V) (H : Hp) (Q : VK) (E0_ : XK) : Prop
  | mk (a : Addr) (ns : List Int) (k : Int) (r p t d1 d2 d3 : Addr) (x : Str) (ts : List Str) (L1 L2 : List (Key × V)) (c0 : vs = [.ref a, .int k, .ref r, .str x]) (c1 : SqL K H a (ns.map V.int)) (c2 : ns.length ≤ 63) (c3 : 0 ≤ k) (c4 : k < 100) (c5 : Nv x) (c6 : H r = some (.dK (room0 p t d1 d2 d3))) (c7 : H t = some (.lst (ts.map V.str))) (c8 : (∀ y ∈ ts, Nv y)) (c9 : ts.length ≤ 12) (c10 : H d1 = some (.dK L1)) (c11 : H d2 = some (.dK L2)) (c12 : L1.length ≤ 100) (c13 : L2.length ≤ 100) (c14 : r ≠ d1) (c15 : r ≠ d2) (c16 : d1 ≠ d2) (c17 : valV L1 (Sum.inr x : Key) = none) (c18 : valV L2 (Sum.inr x : Key) = none) (c19 : ∀ (ro : Ro) (H' : Hp), ro.name = x → ro.isP = true → ro.nv → (k = 0 → ro = .pl x) → (∀ y, ro = .lk x y → y ∈ ts) → H' d1 = some (.dK (L1 ++ lidsK [ro])) → H' d2 = some (.dK (L2 ++ keysK [ro])) → (∀ b o, H b = some o → b ≠ d1 → b ≠ d2 → H' b = some o) → Q (.str ro.txt) H') : spLine K vs H Q E0_
theorem scLine : FnScope ["_law_script", "_law_k", "_law_room_here", "_law_name", "_law_way", "_law_key"] pLine (defScope sLine) := ⟨rfl, rfl, rfl, by decide +kernel, rfl, by decide +kernel, by decide +kernel⟩
theorem seq_keep {H H' : Hp} {a d1 : Addr} {xs : List V} (h : SqL K H a xs) (k : ∀ b o, H b = some o → b ≠ d1 → H' b = some o) {L : List (Key × V)} (hd : H d1 = some (.dK L)) : SqL K H' a xs := by
  rcases h with (h | ⟨o, h⟩) | h
  · exact .inl (.inl (k _ _ h (ne_of h hd (by intro z; cases z))))
  · exact .inl (.inr ⟨o, k _ _ h (ne_of h hd (by intro z; cases z))⟩)
  · exact .inr h
end
end K12
namespace K12
open PySem L2 Tx Rk PyProof.Rows PySem.SeqAt
open PySem.PyData (strOk)
section
variable {P : Program} {w : World} {K : PySem.W.Frag} {mg : Str → Option Value} {base : Heap}
theorem ok_lids {f : Addr} {fd : FuncData} (F : Fun K "_law_lids" "_law_lids" sLids f fd) : FnOk P w K mg base CX0 1 f fd pLids spLids := by
  refine F.ok scLids (fun vs H Q E h => ?_) (fun cdv A outer s H vs Q E hr h => ?_)
  · obtain ⟨r, d1, d2, x, kvs, L1, L2, rfl, _⟩ := h
    rfl
  · obtain ⟨r, d1, d2, x, kvs, L1, L2, rfl, h1, h4, h5, h8, h9, q⟩ := h
    have hu := hu_of hr
    refine ⟨_, pss_cons (ps_set (i := 2) scLids.nd rfl (Or.inl rfl) (pe_lst (pa_cons pe_str pa_nil)))
      (pss_cons (ps_if (pt_cmp (pc_din hu (pv 1) (pe_dget hu (pv 0) pe_str (fun _ _ => rfl)))) (pss_one (ps_expr (pe_bm PySem.F.plainAttrs_list PySem.F.slot_list_append PySem.F.type_list_append mt_append (pv 2) (pa_cons pe_str pa_nil)))) pss_nil)
      (pss_cons (ps_if (pt_cmp (pc_din hu (pv 1) (pe_dget hu (pv 0) pe_str (fun _ _ => rfl)))) (pss_one (ps_expr (pe_bm PySem.F.plainAttrs_list PySem.F.slot_list_append PySem.F.type_list_append mt_append (pv 2) (pa_cons pe_str pa_nil)))) pss_nil)
      (pss_one (ps_ret (pv 2))))), ?_⟩
    refine ⟨by show 1 ≤ sizeLine; decide, fun l hl => ?_⟩
    have hsl : sizeLine = 16777216 := sizeLine_eq
    have s0 : Same H (upd H l (.lst [V.str "open"])) := Same.new hl
    refine ⟨_, rfl, _, rfl, r, _, rfl, dget (s0 _ _ h1) h4, _, _, rfl, DGet.k (k := (Sum.inr x : Key)) (s0 _ _ h8), _, rfl, ?_⟩
    have s1 : ∀ o, Same H (upd (upd H l (.lst [V.str "open"])) l o) := fun o => s0.put hl
    refine ite2 (fun c1 => ?_) (fun _ => ?_)
    · refine ⟨_, rfl, .inl ⟨rfl, _, SqL.of upd_same⟩, l, _, _, rfl, rfl, upd_same, by show 1 < sizeLine; decide, ?_⟩
      refine ⟨_, rfl, _, rfl, r, _, rfl, dget (s1 _ _ _ h1) h5, _, _, rfl, DGet.k (k := (Sum.inr x : Key)) (s1 _ _ _ h9), _, rfl, ?_⟩
      refine ite2 (fun c2 => ?_) (fun _ => ?_)
      · refine ⟨_, rfl, .inl ⟨rfl, _, SqL.of upd_same⟩, l, _, _, rfl, rfl, upd_same, by show 2 < sizeLine; decide, ?_⟩
        refine ⟨_, rfl, q l ["open", "shut", "locked"] _ ((s1 _).put hl) hl upd_same (by decide) fun y hy => ?_⟩
        simp only [List.mem_cons, List.not_mem_nil, or_false] at hy
        rcases hy with e | e | e
        · exact .inl e
        · exact .inr (.inl ⟨e, c1⟩)
        · exact .inr (.inr ⟨e, c2⟩)
      · refine ⟨_, rfl, q l ["open", "shut"] _ (s1 _) hl upd_same (by decide) fun y hy => ?_⟩
        simp only [List.mem_cons, List.not_mem_nil, or_false] at hy
        rcases hy with e | e
        · exact .inl e
        · exact .inr (.inl ⟨e, c1⟩)
    · refine ⟨_, rfl, _, rfl, r, _, rfl, dget (s0 _ _ h1) h5, _, _, rfl, DGet.k (k := (Sum.inr x : Key)) (s0 _ _ h9), _, rfl, ?_⟩
      refine ite2 (fun c2 => ?_) (fun _ => ?_)
      · refine ⟨_, rfl, .inl ⟨rfl, _, SqL.of upd_same⟩, l, _, _, rfl, rfl, upd_same, by show 1 < sizeLine; decide, ?_⟩
        refine ⟨_, rfl, q l ["open", "locked"] _ (s1 _) hl upd_same (by decide) fun y hy => ?_⟩
        simp only [List.mem_cons, List.not_mem_nil, or_false] at hy
        rcases hy with e | e
        · exact .inl e
        · exact .inr (.inr ⟨e, c2⟩)
      · refine ⟨_, rfl, q l ["open"] _ s0 hl upd_same (by decide) fun y hy => ?_⟩
        simp only [List.mem_cons, List.not_mem_nil, or_false] at hy
        exact .inl hy
end
end K12
namespace K12
open PySem L2 Tx Rk PyProof.Rows PySem.SeqAt
open PySem.PyData (strOk)
section
variable {P : Program} {w : World} {K : PySem.W.Frag} {mg : Str → Option Value} {base : Heap}
theorem ok_line {f fP : Addr} {fd fdP : FuncData} (F : Fun K "_law_place_line" "_law_place_line" sLine f fd) (DP : Df K mg "_law_pick" sPick pPick fP fdP) (T : Bl mg) (GP : FnOk P w K mg base CX0 1 fP fdP pPick (spPick K)) : FnOk P w K mg base CX0 2 f fd pLine (spLine K) := by
  refine F.ok scLine (fun vs H Q E h => ?_) (fun cdv A outer s H vs Q E hr h => ?_)
  · obtain ⟨a, ns, k, r, p, t, d1, d2, d3, x, ts, L1, L2, rfl, _⟩ := h
    rfl
  · obtain ⟨a, ns, k, r, p, t, d1, d2, d3, x, ts, L1, L2, rfl, hS, hn, k0, k1, hx, hr0, ht, hts, htl, h1, h2, z1, z2, n1, n2, n3, v1, v2, q⟩ := h
    have hu := hu_of hr
    have hsl : sizeLine = 16777216 := sizeLine_eq
    have hxl := hx.len
    refine ⟨_, pss_cons (ps_set (i := 4) scLine.nd rfl (Or.inl rfl) (pe_call GP hr (by rfl) DP.m DP.F.kp DP.b .nil pass0 (pa_cons (pv 0) (pa_cons (pe_op op_add pe_int (pv 1)) (pa_cons pe_int pa_nil)))))
      (pss_cons (ps_if (PW.pt (pw_or (pt_cmpR op_eq (pv 1) pe_int (nomark _)) (pw_or1 (pt_cmpR op_eq (pv 4) pe_int (nomark _))))) (pss_one (ps_ret (pe_op op_add_str pe_str (pv 3)))) pss_nil)
      (pss_cons (ps_dput hu (pe_dget hu (pv 2) pe_str (fun _ _ => rfl)) (pv 3) pe_bl rfl)
      (pss_cons (ps_if (PW.pt (pw_or (pt_cmpR op_eq (pv 4) pe_int (nomark _)) (pw_or1 (pt_cmpR op_eq (pe_callB call_len (by rfl) T.len PySem.boot_len (pa_cons (pe_dget hu (pv 2) pe_str (fun _ _ => rfl)) pa_nil)) pe_int (nomark _)))))
        (pss_one (ps_ret (pe_op op_add_str pe_str (pv 3)))) pss_nil)
      (pss_cons (ps_set (i := 5) scLine.nd rfl (Or.inl rfl) (pe_ix ix_list (pe_dget hu (pv 2) pe_str (fun _ _ => rfl)) (pe_call GP hr (by rfl) DP.m DP.F.kp DP.b .nil pass0 (pa_cons (pv 0) (pa_cons (pe_op op_add pe_int (pv 1))
        (pa_cons (pe_callB call_len (by rfl) T.len PySem.boot_len (pa_cons (pe_dget hu (pv 2) pe_str (fun _ _ => rfl)) pa_nil)) pa_nil)))) (fun _ _ => rfl)))
      (pss_cons (ps_dput hu (pe_dget hu (pv 2) pe_str (fun _ _ => rfl)) (pv 3) (pv 5) rfl)
      (pss_one (ps_ret (pe_op op_add_str (pe_op op_add_str (pe_op op_add_str pe_str (pv 3)) pe_str) (pv 5))))))))), ?_⟩
    have plain : Q (.str (("place " : Str) ++ x)) H := q (.pl x) H rfl rfl hx (fun _ => rfl) (fun y e => nomatch e) (by show H d1 = some (.dK (L1 ++ [])); rw [List.append_nil]; exact h1) (by show H d2 = some (.dK (L2 ++ [])); rw [List.append_nil]; exact h2) fun b o e _ _ => e
    refine ⟨_, rfl, _, rfl, _, _, rfl, rfl, a, ns, _, _, rfl, hS, hn, by lia, by lia, by decide, fun way w0 w1 => ?_⟩
    refine ⟨_, rfl, rfl, _, rfl, ?_⟩
    refine ite2 (fun _ => ?_) (fun hk0 => ?_)
    · refine iteT ?_
      exact ⟨_, rfl, _, _, rfl, rfl, by show 6 + x.length ≤ sizeLine; lia, plain⟩
    have hk : k ≠ 0 := fun z => hk0 (decide_eq_true (by rw [z]))
    refine ⟨_, rfl, rfl, _, rfl, ?_⟩
    refine ite2 (fun _ => ?_) (fun _ => ?_)
    · exact ⟨_, rfl, _, _, rfl, rfl, by show 6 + x.length ≤ sizeLine; lia, plain⟩
    -- a lid
    refine ⟨_, rfl, r, _, rfl, dget hr0 (room0_lids _ _ _ _ _), _, rfl, d1, _, rfl, DPut.k (k := (Sum.inr x : Key)) h1 (by lia), ?_⟩
    rw [putK_new _ v1]
    have k1' : ∀ (u : HO) b o, H b = some o → b ≠ d1 → upd H d1 u b = some o := fun u b o e hb => by rw [upd_ne hb]; exact e
    have rK := k1' (.dK (L1 ++ [(Sum.inr x, V.bl true)])) _ _ hr0 n1
    have tK := k1' (.dK (L1 ++ [(Sum.inr x, V.bl true)])) _ _ ht (ne_of ht h1 (by intro z; cases z))
    have dK := k1' (.dK (L1 ++ [(Sum.inr x, V.bl true)])) _ _ h2 (Ne.symm n3)
    have sK := seq_keep (K := K) hS (fun b o e hb => k1' (.dK (L1 ++ [(Sum.inr x, V.bl true)])) b o e hb) h1
    have box : Q (.str (("box " : Str) ++ x)) (upd H d1 (.dK (L1 ++ [(Sum.inr x, V.bl true)]))) :=
      q (.bx x) _ rfl rfl hx (fun z => absurd z hk) (fun y e => nomatch e) upd_same (by show (upd H d1 (.dK (L1 ++ [(Sum.inr x, V.bl true)]))) d2 = some (HO.dK (L2 ++ [])); rw [List.append_nil]; exact dK) fun b o e hb _ => k1' _ b o e hb
    refine ⟨_, rfl, rfl, _, rfl, ?_⟩
    refine ite2 (fun _ => ?_) (fun _ => ?_)
    · refine iteT ?_
      exact ⟨_, rfl, _, _, rfl, rfl, by show 4 + x.length ≤ sizeLine; lia, box⟩
    refine ⟨_, rfl, r, _, rfl, dget rK (room0_things _ _ _ _ _), _, _, rfl, .inl ⟨_, SqL.of tK, rfl⟩, rfl, _, rfl, ?_⟩
    refine ite2 (fun _ => ?_) (fun hne => ?_)
    · exact ⟨_, rfl, _, _, rfl, rfl, by show 4 + x.length ≤ sizeLine; lia, box⟩
    have hlm : (ts.map V.str).length = ts.length := List.length_map ..
    have tpos : 0 < ts.length := by
      rcases Nat.eq_zero_or_pos ts.length with z | z
      · exact absurd (decide_eq_true (by rw [hlm, z]; rfl)) hne
      · exact z
    refine ⟨_, rfl, r, _, rfl, dget rK (room0_things _ _ _ _ _), _, rfl, _, rfl, _, _, rfl, rfl, _, rfl, r, _, rfl, dget rK (room0_things _ _ _ _ _), _, _, rfl, .inl ⟨_, SqL.of tK, rfl⟩, a, ns, _, _, rfl, sK, hn, by lia, by lia, by rw [hlm]; lia, fun j j0 j1 => ?_⟩
    have hj : j.toNat < ts.length := by rw [hlm] at j1; lia
    have hat : atI (ts.map V.str) j = some (.str ts[j.toNat]) := by
      have q := atI_nat (xs := ts.map V.str) (j := j.toNat) (v := .str ts[j.toNat]) (by simp [hj])
      rw [Int.toNat_of_nonneg j0] at q
      exact q
    have hym := List.getElem_mem hj
    have hy := hts _ hym
    have hyl := hy.len
    refine ⟨_, _, _, _, rfl, rfl, SqL.of tK, hat, ?_⟩
    generalize ts[j.toNat] = y at hym hy hyl
    refine ⟨_, rfl, _, rfl, r, _, rfl, dget rK (room0_keys _ _ _ _ _), _, rfl, d2, _, rfl, DPut.k (k := (Sum.inr x : Key)) dK (by lia), ?_⟩
    rw [putK_new _ v2]
    have e1 : ("box " : Str).length = 4 := by decide +kernel
    have e2 : (" " : Str).length = 1 := by decide +kernel
    refine ⟨_, rfl, _, _, rfl, rfl, by show 4 + x.length ≤ sizeLine; lia, _, _, rfl, rfl, by rw [len_app, e1, e2]; lia, _, rfl, _, _, rfl, rfl, by rw [len_app, len_app, e1, e2]; lia, ?_⟩
    refine q (.lk x y) _ rfl rfl ⟨hx, hy⟩ (fun z => absurd z hk) (fun y' e => by cases e; exact hym) ?_ upd_same fun b o e hb hb' => ?_
    · rw [upd_ne n3]
      exact upd_same
    · rw [upd_ne hb']
      exact k1' _ b o e hb
end
end K12
namespace K12
open PySem L2 Tx Rk PyProof.Rows PySem.SeqAt
open PySem.PyData (strOk)
section
variable {P : Program} {w : World} {K : PySem.W.Frag} {mg : Str → Option Value} {base : Heap}
noncomputable abbrev pRoom : List Str := ["_law_script", "_law_places", "_law_things"]
inductive RmSE (H : Hp) (r : Addr) (rs : List Ro) : Prop
  | mk (kvs L3 : List (Key × V)) (p t d1 d2 d3 D : Addr) (c0 : H r = some (.dK kvs)) (c1 : valV kvs (Sum.inr "places" : Key) = some (.ref p)) (c2 : valV kvs (Sum.inr "things" : Key) = some (.ref t)) (c3 : valV kvs (Sum.inr "lids" : Key) = some (.ref d1)) (c4 : valV kvs (Sum.inr "keys" : Key) = some (.ref d2)) (c5 : valV kvs (Sum.inr "shapes" : Key) = some (.ref d3)) (c6 : valV kvs (Sum.inr "lines" : Key) = some (.ref D)) (c7 : H p = some (.lst (((plc rs).map (·.1)).map V.str))) (c8 : H t = some (.lst (((ths rs).map (·.1)).map V.str))) (c9 : H d1 = some (.dK (lidsK rs))) (c10 : H d2 = some (.dK (keysK rs))) (c11 : H d3 = some (.dK L3)) (c12 : H D = some (.lst ((rs.map Ro.txt).map V.str))) (c13 : ∀ x ∈ ths rs, valV L3 (Sum.inr x.1 : Key) = some (.str x.2)) : RmSE H r rs
structure RmS (H : Hp) (r : Addr) (rs : List Ro) : Prop where
  ex : RmSE H r rs
  good : Good rs
theorem RmS.same {H H' : Hp} {r : Addr} {rs : List Ro} (R : RmS H r rs) (s : Same H H') : RmS H' r rs := by
  obtain ⟨⟨kvs, L3, p, t, d1, d2, d3, D, h1, h2, h3, h4, h5, h6, h7, g1, g2, g3, g4, g5, g6, g7⟩, g⟩ := R
  exact ⟨⟨kvs, L3, p, t, d1, d2, d3, D, s _ _ h1, h2, h3, h4, h5, h6, h7, s _ _ g1, s _ _ g2, s _ _ g3, s _ _ g4, s _ _ g5, s _ _ g6, g7⟩, g⟩
theorem good_nv {rs : List Ro} (g : Good rs) {x : Str} (h : x ∈ rs.map Ro.name) : Nv x := by
  obtain ⟨r, hr, rfl⟩ := List.mem_map.mp h
  exact Ro.nv_name (g.nv r hr)
inductive spRoom (K : PySem.W.Frag) (vs : List V) (H : Hp) (Q : VK) (E0_ : XK) : Prop
  | mk (a : Addr) (ns : List Int) (p m : Int) (c0 : vs = [.ref a, .int p, .int m]) (c1 : SqL K H a (ns.map V.int)) (c2 : ns.length ≤ 63) (c3 : 1 ≤ p) (c4 : p ≤ 6) (c5 : 0 ≤ m) (c6 : m ≤ 6) (c7 : ∀ (r : Addr) (rs : List Ro) (H' : Hp), Same H H' → RmS H' r rs → ((plc rs).length : Int) = p → ((ths rs).length : Int) = m → rs.length ≤ 12 → Xf (rs.map Ro.name) → Q (.ref r) H') : spRoom K vs H Q E0_
noncomputable abbrev nRoom : List Str := ["_law_script", "_law_places", "_law_things", "_law_names_here", "_law_room_here", "_law_k", "_law_lines", "_law_shapes", "_law_thing", "_law_at"]
structure Mk (H H2 : Hp) (r p t d1 d2 d3 l D : Addr) (xs : List Str) (n : Nat) (rs : List Ro) (i : Nat) : Prop where
  sm : Same H H2
  room : H2 r = some (.dK (room0 p t d1 d2 d3))
  pl : H2 p = some (.lst ((xs.take n).map V.str))
  th : H2 t = some (.lst ((xs.drop n).map V.str))
  l1 : H2 d1 = some (.dK (lidsK rs))
  l2 : H2 d2 = some (.dK (keysK rs))
  l3 : ∃ L, H2 d3 = some (.dK L) ∧ L.length ≤ i ∧ ∀ x ∈ ths rs, valV L (Sum.inr x.1 : Key) = some (.str x.2)
  nm : H2 l = some (.lst (xs.map V.str))
  ln : H2 D = some (.lst ((rs.map Ro.txt).map V.str))
  ok : ∀ x ∈ rs, x.nv
  len : rs.length = i
  ks : ∀ x y, Ro.lk x y ∈ rs → y ∈ xs.drop n
structure Ap (H : Hp) (r p t d1 d2 d3 l D : Addr) : Prop where
  fr : H r = none
  f1 : H d1 = none
  f2 : H d2 = none
  f3 : H d3 = none
  fl : H l = none
  fD : H D = none
  r1 : r ≠ d1
  r2 : r ≠ d2
  r3 : r ≠ d3
  n12 : d1 ≠ d2
  n13 : d1 ≠ d3
  n23 : d2 ≠ d3
  Dp : D ≠ p
  Dt : D ≠ t
  Dl : D ≠ l
theorem scRoom : FnScope nRoom pRoom (defScope sRoom) := ⟨rfl, rfl, rfl, by decide +kernel, rfl, by decide +kernel, by decide +kernel⟩
theorem kind_ne {H : Hp} {a b : Addr} {xs : List V} {L : List (Key × V)} (h : H a = some (.lst xs)) (h' : H b = some (.dK L)) : a ≠ b := ne_of h h' (by intro z; cases z)
theorem upd_none {H : Hp} {a b : Addr} {o : HO} (h : upd H a o b = none) : b ≠ a ∧ H b = none := by
  by_cases e : b = a
  · subst e
    rw [upd_same] at h
    cases h
  · rw [upd_ne e] at h
    exact ⟨e, h⟩
theorem at_mapI {xs : List Str} {j : Int} (h0 : 0 ≤ j) (h1 : j < (xs.length : Int)) : ∃ x ∈ xs, xs[j.toNat]? = some x ∧ atI (xs.map V.str) j = some (.str x) := by
  have hj : j.toNat < xs.length := by lia
  refine ⟨xs[j.toNat], List.getElem_mem hj, List.getElem?_eq_getElem hj, ?_⟩
  have q := atI_nat (xs := xs.map V.str) (j := j.toNat) (v := .str xs[j.toNat]) (by simp [hj])
  rw [Int.toNat_of_nonneg h0] at q
  exact q
theorem at_map {xs : List Str} {j : Int} (h0 : 0 ≤ j) (h1 : j < (xs.length : Int)) : ∃ x ∈ xs, atI (xs.map V.str) j = some (.str x) := by
  obtain ⟨x, a, _, b⟩ := at_mapI h0 h1
  exact ⟨x, a, b⟩
theorem room0_merge (p t d1 d2 d3 : Addr) : mergeK [] (room0 p t d1 d2 d3) = room0 p t d1 d2 d3 := by
  with_unfolding_all rfl
theorem plc_names : ∀ {rs : List Ro}, (∀ r ∈ rs, r.isP = true) → (plc rs).map (·.1) = rs.map Ro.name ∧ ths rs = []
  | [], _ => ⟨rfl, rfl⟩
  | .th n s :: r, h => nomatch h _ List.mem_cons_self
  | .pl n :: r, h => by
    obtain ⟨a, b⟩ := plc_names (rs := r) fun x hx => h x (List.mem_cons_of_mem _ hx)
    exact ⟨by rw [show plc (.pl n :: r) = (n, false, none) :: plc r from rfl, List.map_cons, List.map_cons, a]; rfl, b⟩
  | .bx n :: r, h => by
    obtain ⟨a, b⟩ := plc_names (rs := r) fun x hx => h x (List.mem_cons_of_mem _ hx)
    exact ⟨by rw [show plc (.bx n :: r) = (n, true, none) :: plc r from rfl, List.map_cons, List.map_cons, a]; rfl, b⟩
  | .lk n k :: r, h => by
    obtain ⟨a, b⟩ := plc_names (rs := r) fun x hx => h x (List.mem_cons_of_mem _ hx)
    exact ⟨by rw [show plc (.lk n k :: r) = (n, true, some k) :: plc r from rfl, List.map_cons, List.map_cons, a]; rfl, b⟩
theorem plc_key : ∀ {rs : List Ro} {p : Str × Bool × Option Str} {k : Str}, p ∈ plc rs → p.2.2 = some k → ∃ n, Ro.lk n k ∈ rs
  | [], _, _, h, _ => nomatch h
  | .th n s :: r, p, k, h, e => by
    obtain ⟨n, z⟩ := plc_key (rs := r) h e
    exact ⟨n, List.mem_cons_of_mem _ z⟩
  | .pl n :: r, p, k, h, e => by
    rcases List.mem_cons.mp (show p ∈ (n, false, none) :: plc r from h) with z | z
    · rw [z] at e; cases e
    · obtain ⟨n, z⟩ := plc_key (rs := r) z e
      exact ⟨n, List.mem_cons_of_mem _ z⟩
  | .bx n :: r, p, k, h, e => by
    rcases List.mem_cons.mp (show p ∈ (n, true, none) :: plc r from h) with z | z
    · rw [z] at e; cases e
    · obtain ⟨n, z⟩ := plc_key (rs := r) z e
      exact ⟨n, List.mem_cons_of_mem _ z⟩
  | .lk n k' :: r, p, k, h, e => by
    rcases List.mem_cons.mp (show p ∈ (n, true, some k') :: plc r from h) with z | z
    · rw [z] at e
      cases e
      exact ⟨n, List.mem_cons_self⟩
    · obtain ⟨n, z⟩ := plc_key (rs := r) z e
      exact ⟨n, List.mem_cons_of_mem _ z⟩
theorem len_rows (rs : List Ro) : rs.length = (plc rs).length + (ths rs).length := by
  have h := (names_perm rs).length_eq
  rw [List.length_map, List.length_append, List.length_map, List.length_map] at h
  exact h
theorem good_of {rs : List Ro} {xs : List Str} {n : Nat} (nd : xs.Nodup) (hn : n ≤ 6) (hl : xs.length ≤ n + 6) (ok : ∀ x ∈ rs, x.nv) (hp : (plc rs).map (·.1) = xs.take n) (ht : ((ths rs).map (·.1)).Perm (xs.drop n)) (fl : ∃ m t, plc rs = (m, false, none) :: t)
    (ks : ∀ x y, Ro.lk x y ∈ rs → y ∈ xs.drop n) : Good rs := by
  have hpl : (plc rs).length ≤ n := by
    have := congrArg List.length hp
    rw [List.length_map, List.length_take] at this
    lia
  have htl : (ths rs).length ≤ 6 := by
    have := ht.length_eq
    rw [List.length_map, List.length_drop] at this
    lia
  refine ⟨ok, ?_, fl, by lia, htl, fun p h k e => ?_⟩
  · refine (names_perm rs).nodup_iff.mpr ?_
    rw [hp]
    refine (List.Perm.append_left _ ht).nodup_iff.mpr ?_
    rw [List.take_append_drop]
    exact nd
  · obtain ⟨m, z⟩ := plc_key h e
    exact ht.mem_iff.mpr (ks m k z)
end
end K12
namespace K12
open PySem L2 Tx Rk PyProof.Rows PySem.SeqAt
open PySem.PyData (strOk)
section
variable {P : Program} {w : World} {K : PySem.W.Frag} {mg : Str → Option Value} {base : Heap}
theorem ok_room {f fP fN fL : Addr} {fd fdP fdN fdL : FuncData} (F : Fun K "_law_room" "_law_room" sRoom f fd) (DP : Df K mg "_law_pick" sPick pPick fP fdP)
    (DN : Df K mg "_law_names" sNames pPick fN fdN) (DL : Df K mg "_law_place_line" sLine pLine fL fdL) (T : Bl mg)
    (GP : FnOk P w K mg base CX0 1 fP fdP pPick (spPick K)) (GN : FnOk P w K mg base CX0 2 fN fdN pPick (spNames K)) (GL : FnOk P w K mg base CX0 2 fL fdL pLine (spLine K)) : FnOk P w K mg base CX0 3 f fd pRoom (spRoom K) := by
  refine F.ok scRoom (fun vs H Q E h => ?_) (fun cdv A outer s H vs Q E hr h => ?_)
  · obtain ⟨a, ns, p, m, rfl, _⟩ := h
    rfl
  · obtain ⟨a, ns, p, m, rfl, hS, hn, p0, p1, m0, m1, q⟩ := h
    have hr1 : Room 1 _ := hr.mono (by decide)
    have hu := hu_of hr
    have hsl : sizeLine = 16777216 := sizeLine_eq
    -- all behind the reversal
    have tail : ∃ t, PSs (cxOf CX0 P w K mg base nRoom "_law_room" (defScope sRoom) f cdv A outer s H E).nox ((defBody sRoom).drop 2) t ∧
        ∀ (l : Addr) (xs : List Str) (H2 : Hp), Same H H2 → H l = none → H2 l = some (.lst (xs.map V.str)) → (xs.length : Int) = p + m → (∀ x ∈ xs, Nv x) → xs.Nodup → Xf xs →
          t { nx := fun _ H' => Q .non H', rt := Q } [some (.ref a), some (.int p), some (.int m), some (.ref l), none, none, none, none, none, none] H2 := by
      refine ⟨_, (pss_cons (ps_set (i := 4) scRoom.nd rfl (Or.inr rfl) (pe_disp (pps_cons pe_str (pe_slice sl_list (pv 3) po_none (po_some (pv 1))) (pps_cons pe_str (pe_slice sl_list (pv 3) (po_some (pv 1)) po_none) (pps_cons pe_str pe_dnewK (pps_cons pe_str pe_dnewK (pps_cons pe_str pe_dnewK pps_nil))))) rfl rfl (by decide) (by decide)))
      (pss_cons (ps_lc (i := 6) (N := ["_law_k", "_law_script", "_law_room_here", "_law_names_here"]) (sc := defScope sRoom) (own := ["_law_k"]) (fr := ["_law_script", "_law_room_here", "_law_names_here"]) (js := [0, 4, 3]) scRoom.nd rfl rfl ⟨rfl, rfl, rfl, rfl, by decide +kernel, by decide +kernel, by decide +kernel, rfl, by decide +kernel⟩ rfl (pi_range1 (by rfl) T.range (pa_cons (pv 1) pa_nil)) (fun _ _ _ _ => pg_name (i := 0) (show List.Nodup (["_law_k", "_law_script", "_law_room_here", "_law_names_here"] : List Str) by decide +kernel) rfl (Or.inl rfl)) (fun _ _ _ _ => pif_nil) (fun _ _ _ _ => (pe_call GL hr (by rfl) DL.m DL.F.kp DL.b .nil pass0 (pa_cons (pv 1) (pa_cons (pv 0) (pa_cons (pv 2) (pa_cons (pe_ix (ix_listK K rfl) (pv 3) (pv 0) (fun _ _ => rfl)) pa_nil)))))))
      (pss_cons (ps_set (i := 7) scRoom.nd rfl (Or.inl rfl) (pe_op op_cat (pe_call GN hr (by rfl) DN.m DN.F.kp DN.b .nil pass0 (pa_cons (pv 0) (pa_cons pe_int (pa_cons pe_int pa_nil)))) (pe_lst (pa_cons (pe_ix ix_list (pv 3) pe_int (fun _ _ => rfl)) pa_nil))))
      (pss_cons (ps_for PassesOwn.never rfl (pi_range1 (by rfl) T.range (pa_cons (pv 2) pa_nil)) (pg_name (i := 5) scRoom.nd rfl (Or.inl rfl)) (pss_cons (ps_set (i := 8) scRoom.nd rfl (Or.inl rfl) (pe_ix ix_list (pv 3) (pe_op op_add (pv 1) (pv 5)) (fun _ _ => rfl)))
      (pss_cons (ps_dput hu (pe_dget hu (pv 4) pe_str (fun _ _ => rfl)) (pv 8) (pe_ix ix_list (pv 7) (pe_call GP hr1 (by rfl) DP.m DP.F.kp DP.b .nil pass0 (pa_cons (pv 0) (pa_cons (pe_op op_add pe_int (pv 5)) (pa_cons pe_int pa_nil)))) (fun _ _ => rfl)) rfl)
      (pss_cons (ps_set (i := 9) scRoom.nd rfl (Or.inl rfl) (pe_call GP hr1 (by rfl) DP.m DP.F.kp DP.b .nil pass0 (pa_cons (pv 0) (pa_cons (pe_op op_add pe_int (pv 5)) (pa_cons (pe_op op_add (pe_callB call_len (by rfl) T.len PySem.boot_len (pa_cons (pv 6) pa_nil)) pe_int) pa_nil)))))
      (pss_one (ps_expr (pe_bm PySem.F.plainAttrs_list PySem.F.slot_list_insert PySem.F.type_list_insert mt_insert (pv 6) (pa_cons (pv 9) (pa_cons (pe_op op_add_str (pe_op op_add_str (pe_op op_add_str pe_str (pv 8)) pe_str) (pe_dget hu (pe_dget hu (pv 4) pe_str (fun _ _ => rfl)) (pv 8) (fun _ _ => rfl))) pa_nil)))))))))
      (pss_cons (ps_dput hu (pv 4) pe_str (pe_lc (N := ["_law_line"]) (sc := defScope sRoom) (own := ["_law_line"]) (fr := []) (js := []) ⟨rfl, rfl, rfl, rfl, by decide +kernel, by decide +kernel, by decide +kernel, rfl, by decide +kernel⟩ rfl (pi_list (pv 6)) (fun _ _ _ _ => pg_name (i := 0) (show List.Nodup (["_law_line"] : List Str) by decide +kernel) rfl (Or.inl rfl)) (fun _ _ _ _ => pif_one (pt_val (bmK K rfl (pe_bm PySem.F.plainAttrs_str PySem.F.slot_str_startswith PySem.F.type_str_startswith mt_starts (pv 0) (pa_cons pe_str pa_nil))))) (fun _ _ _ _ => (pe_ix (ix_listK K rfl) (bmK K rfl (pe_bm PySem.F.plainAttrs_str PySem.F.slot_str_split PySem.F.type_str_split mt_split (pv 0) (pa_cons pe_str pa_nil))) pe_int (fun _ _ => rfl)))) rfl)
      (pss_cons (ps_dput hu (pv 4) pe_str (pv 6) rfl)
      (pss_one (ps_ret (pv 4))))))))), ?_⟩
      intro l xs H2 sm hl hl2 hxl hxs hnd hxf
      have hml : (xs.map V.str).length = xs.length := List.length_map ..
      obtain ⟨pn, hpn⟩ : ∃ pn : Nat, (pn : Int) = p := ⟨p.toNat, Int.toNat_of_nonneg (by lia)⟩
      obtain ⟨mn, hmn⟩ : ∃ mn : Nat, (mn : Int) = m := ⟨m.toNat, Int.toNat_of_nonneg (by lia)⟩
      have hS2 := sm.seq hS
      -- the dict
      intro r hr2
      refine ⟨_, rfl, _, rfl, _, rfl, l, _, rfl, SqL.of (by rw [upd_ne (ne_of_none hl2 hr2)]; exact hl2), fun pl hpl => ?_⟩
      obtain ⟨a1, a2⟩ := upd_none hpl
      refine ⟨_, rfl, _, rfl, _, rfl, l, _, rfl, SqL.of (by rw [upd_ne (ne_of_none hl2 a2), upd_ne (ne_of_none hl2 hr2)]; exact hl2), fun th hth => ?_⟩
      obtain ⟨b1, b2⟩ := upd_none hth
      obtain ⟨b3, b4⟩ := upd_none b2
      intro d1 hd1
      obtain ⟨c1, c2⟩ := upd_none hd1
      obtain ⟨c3, c4⟩ := upd_none c2
      obtain ⟨c5, c6⟩ := upd_none c4
      intro d2 hd2
      obtain ⟨e1, e2⟩ := upd_none hd2
      obtain ⟨e3, e4⟩ := upd_none e2
      obtain ⟨e5, e6⟩ := upd_none e4
      obtain ⟨e7, e8⟩ := upd_none e6
      intro d3 hd3
      obtain ⟨g1, g2⟩ := upd_none hd3
      obtain ⟨g3, g4⟩ := upd_none g2
      obtain ⟨g5, g6⟩ := upd_none g4
      obtain ⟨g7, g8⟩ := upd_none g6
      obtain ⟨g9, g10⟩ := upd_none g8
      have cut1 : cutV (xs.map V.str) none (some p) = (xs.take pn).map V.str := by
        rw [← hpn]
        unfold cutV
        rw [HT.sIx_none, HT.sIx_nat, List.drop_zero, Nat.sub_zero, hml, List.map_take]
        congr 1
        lia
      have cut2 : cutV (xs.map V.str) (some p) none = (xs.drop pn).map V.str := by
        rw [← hpn]
        unfold cutV
        rw [HT.sIx_none, HT.sIx_nat, hml, List.map_drop, Nat.min_eq_left (by lia)]
        refine List.take_of_length_le ?_
        simp
      refine ⟨by rw [upd_ne g9.symm, upd_ne e7.symm, upd_ne c5.symm, upd_ne b3.symm, upd_ne a1.symm]; exact upd_same, room0 pl th d1 d2 d3, rfl, by show 5 ≤ 15; decide, ?_⟩
      rw [room0_merge]
      have frH : ∀ {b : Addr}, H2 b = none → H b = none := fun e => sm.free e
      -- the heap with the room in it
      have sm3 : ∀ b o, H2 b = some o → (upd (upd (upd (upd (upd (upd (upd H2 r (.dK [])) pl (.lst (cutV (xs.map V.str) none (some p)))) th (.lst (cutV (xs.map V.str) (some p) none))) d1 (.dK [])) d2 (.dK [])) d3 (.dK [])) r (.dK (room0 pl th d1 d2 d3))) b = some o := fun b o e => by
        rw [upd_ne (ne_of_none e hr2), upd_ne (ne_of_none e g10), upd_ne (ne_of_none e e8), upd_ne (ne_of_none e c6), upd_ne (ne_of_none e b4), upd_ne (ne_of_none e a2), upd_ne (ne_of_none e hr2)]
        exact e
      have M0 : ∀ D, (upd (upd (upd (upd (upd (upd (upd H2 r (.dK [])) pl (.lst (cutV (xs.map V.str) none (some p)))) th (.lst (cutV (xs.map V.str) (some p) none))) d1 (.dK [])) d2 (.dK [])) d3 (.dK [])) r (.dK (room0 pl th d1 d2 d3))) D = none →
          Ap H r pl th d1 d2 d3 l D ∧ Mk H (upd (upd (upd (upd (upd (upd (upd (upd H2 r (.dK [])) pl (.lst (cutV (xs.map V.str) none (some p)))) th (.lst (cutV (xs.map V.str) (some p) none))) d1 (.dK [])) d2 (.dK [])) d3 (.dK [])) r (.dK (room0 pl th d1 d2 d3))) D (.lst [])) r pl th d1 d2 d3 l D xs pn [] 0 := fun D hD => by
        obtain ⟨k1, k2⟩ := upd_none hD
        obtain ⟨k3, k4⟩ := upd_none k2
        obtain ⟨k5, k6⟩ := upd_none k4
        obtain ⟨k7, k8⟩ := upd_none k6
        obtain ⟨k9, k10⟩ := upd_none k8
        obtain ⟨k11, k12⟩ := upd_none k10
        obtain ⟨k13, k14⟩ := upd_none k12
        refine ⟨⟨frH hr2, frH c6, frH e8, frH g10, hl, frH k14, c5.symm, e7.symm, g9.symm, e1.symm, g3.symm, g1.symm, k11, k9, fun z => by rw [z] at k14; rw [k14] at hl2; cases hl2⟩, ?_⟩
        refine ⟨fun b o e => by rw [upd_ne (ne_of_none (sm b o e) k14)]; exact sm3 b o (sm b o e), by rw [upd_ne k1.symm]; exact upd_same, ?_, ?_, ?_, ?_, ⟨[], ?_, Nat.le_refl _, fun _ z => nomatch z⟩, by rw [upd_ne (ne_of_none hl2 k14)]; exact sm3 _ _ hl2, upd_same, (fun _ z => nomatch z), rfl, fun _ _ z => nomatch z⟩
        · rw [upd_ne k11.symm, upd_ne a1, upd_ne g7.symm, upd_ne e5.symm, upd_ne c3.symm, upd_ne b1.symm, upd_same, cut1]
        · rw [upd_ne k9.symm, upd_ne b3, upd_ne g5.symm, upd_ne e3.symm, upd_ne c1.symm, upd_same, cut2]
        · rw [upd_ne k7.symm, upd_ne c5, upd_ne g3.symm, upd_ne e1.symm, upd_same]
          rfl
        · rw [upd_ne k5.symm, upd_ne e7, upd_ne g1.symm, upd_same]
          rfl
        · rw [upd_ne k3.symm, upd_ne g9, upd_same]
      generalize (upd (upd (upd (upd (upd (upd (upd H2 r (.dK [])) pl (.lst (cutV (xs.map V.str) none (some p)))) th (.lst (cutV (xs.map V.str) (some p) none))) d1 (.dK [])) d2 (.dK [])) d3 (.dK [])) r (.dK (room0 pl th d1 d2 d3))) = H3 at M0 sm3 ⊢
      -- the lines of the places
      refine ⟨_, rfl, p, rfl, by lia, by lia, fun D hD => ?_⟩
      obtain ⟨ap, m0'⟩ := M0 D hD
      refine lcJ (n := p.toNat) (fun i ys H4 => ∃ rs : List Ro, ys = (rs.map Ro.txt).map V.str ∧ rs.map Ro.name = xs.take i ∧ (∀ ro ∈ rs, ro.isP = true) ∧ (rs = [] ∨ ∃ x t, rs = .pl x :: t) ∧ Mk H H4 r pl th d1 d2 d3 l D xs pn rs i) ⟨[], rfl, rfl, (fun _ z => nomatch z), .inl rfl, m0'⟩ (fun i _ _ hi _ => hi) (fun _ _ _ => Nat.le_refl _) ?_ ?_
      · rintro i ys H4 x H5 hi ⟨rs, rfl, hnm, hisP, hfl, M⟩ ⟨rfl, rfl⟩
        refine lc_yes ?_
        obtain ⟨x, hxm, hxi, hat⟩ := at_mapI (xs := xs) (j := 0 + (i : Int)) (by lia) (by lia)
        have hxi' : xs[i]? = some x := by
          rw [show (0 + (i : Int)).toNat = i by lia] at hxi
          exact hxi
        have hil : i < xs.length := (List.getElem?_eq_some_iff.mp hxi').1
        have htk : xs.take (i + 1) = xs.take i ++ [x] := by
          rw [List.take_succ_eq_append_getElem hil]
          congr 2
          exact (List.getElem?_eq_some_iff.mp hxi').2
        have hxn : x ∉ rs.map Ro.name := by
          rw [hnm]
          have nd2 : (xs.take (i + 1)).Nodup := List.Sublist.nodup (List.take_sublist _ _) hnd
          rw [htk] at nd2
          intro z
          exact ((List.nodup_append.mp nd2).2.2 x z x (List.mem_singleton.mpr rfl)) rfl
        obtain ⟨L3, q3, z3, w3⟩ := M.l3
        have b1 := lidsK_len rs
        have b2 := keysK_len rs
        have bl := M.len
        refine ⟨_, rfl, _, rfl, _, rfl, _, rfl, _, rfl, l, _, _, _, rfl, rfl, SqL.of M.nm, hat, ?_⟩
        refine ⟨a, ns, _, r, pl, th, d1, d2, d3, x, xs.drop pn, lidsK rs, keysK rs, rfl, M.sm.seq hS, hn, by lia, by lia, hxs x hxm, M.room, M.th, fun y hy => hxs y (List.mem_of_mem_drop hy), by rw [List.length_drop]; lia, M.l1, M.l2, by lia, by lia, ap.r1, ap.r2, ap.n12, lidsK_none hxn, keysK_none hxn, fun ro H6 hro hP hnv hk0 hkt u1 u2 kp => ?_⟩
        have nD1 : D ≠ d1 := kind_ne M.ln M.l1
        have nD2 : D ≠ d2 := kind_ne M.ln M.l2
        have nD3 : D ≠ d3 := kind_ne M.ln q3
        have nDr : D ≠ r := kind_ne M.ln M.room
        have th0 := (plc_names hisP).2
        have th1 : ths (rs ++ [ro]) = [] := by
          rw [ths_app, th0]
          cases ro with
          | th n s => cases hP
          | _ => rfl
        refine ⟨_, kp D _ M.ln nD1 nD2, by rw [List.length_map, List.length_map]; lia, rs ++ [ro], by simp, by rw [List.map_append, hnm, htk]; show _ ++ [ro.name] = _; rw [hro], fun y hy => ?_, ?_, ?_⟩
        · rcases List.mem_append.mp hy with z | z
          · exact hisP y z
          · rw [List.mem_singleton.mp z]; exact hP
        · refine .inr ?_
          rcases hfl with z | ⟨x0, t, z⟩
          · rw [z]
            have hi0 : i = 0 := by
              have := congrArg List.length hnm
              rw [z, List.length_map, List.length_take] at this
              simp at this
              lia
            exact ⟨x, [], by rw [hk0 (by lia)]; rfl⟩
          · exact ⟨x0, t ++ [ro], by rw [z]; rfl⟩
        refine ⟨fun b o e => ?_, ?_, ?_, ?_, ?_, ?_, ⟨L3, by rw [upd_ne nD3.symm]; exact kp _ _ q3 ap.n13.symm ap.n23.symm, by lia, by rw [th1]; exact fun _ z => nomatch z⟩, ?_, by rw [upd_same]; simp, fun z hz => ?_, by rw [List.length_append, bl]; rfl, fun y z hz => ?_⟩
        · rw [upd_ne (ne_of_none e ap.fD)]
          exact kp b o (M.sm b o e) (ne_of_none e ap.f1) (ne_of_none e ap.f2)
        · rw [upd_ne nDr.symm]
          exact kp _ _ M.room ap.r1 ap.r2
        · rw [upd_ne ap.Dp.symm]
          exact kp _ _ M.pl (kind_ne M.pl M.l1) (kind_ne M.pl M.l2)
        · rw [upd_ne ap.Dt.symm]
          exact kp _ _ M.th (kind_ne M.th M.l1) (kind_ne M.th M.l2)
        · rw [upd_ne nD1.symm, lidsK_app]
          exact u1
        · rw [upd_ne nD2.symm, keysK_app]
          exact u2
        · rw [upd_ne ap.Dl.symm]
          exact kp _ _ M.nm (kind_ne M.nm M.l1) (kind_ne M.nm M.l2)
        · rcases List.mem_append.mp hz with hz | hz
          · exact M.ok z hz
          · rw [List.mem_singleton.mp hz]; exact hnv
        · rcases List.mem_append.mp hz with hz | hz
          · exact M.ks y z hz
          · have e := List.mem_singleton.mp hz
            have ey : y = x := by rw [← hro, ← e]; rfl
            subst ey
            exact hkt z e.symm
      · rintro ys H4 ⟨rs, rfl, hnm, hisP, hfl, M⟩
        have hpt : p.toNat = pn := by lia
        rw [hpt] at hnm M
        -- the shapes
        refine ⟨_, rfl, a, ns, _, _, rfl, M.sm.seq hS, hn, by decide, by decide, by decide, by decide, fun l2 zs H5 s5 f5 e5 hz5 hzn hznd _ => ?_⟩
        obtain ⟨x0, hx0, _, hat0⟩ := at_mapI (xs := xs) (j := 0) (by decide) (by lia)
        refine ⟨_, rfl, l, _, _, _, rfl, rfl, SqL.of (s5 _ _ M.nm), hat0, by show 1 ≤ sizeLine; decide, fun l3 hl3 => ?_⟩
        refine ⟨l2, l3, _, _, rfl, rfl, by rw [upd_ne (ne_of_none e5 hl3)]; exact e5, upd_same, by rw [List.length_map]; show zs.length + 1 ≤ sizeLine; lia, fun sh hsh => ?_⟩
        obtain ⟨y1, y2⟩ := upd_none hsh
        have s6 : ∀ b o, H4 b = some o → (upd (upd H5 l3 (.lst [V.str x0])) sh (.lst (zs.map V.str ++ [V.str x0]))) b = some o := fun b o e => by
          rw [upd_ne (ne_of_none (s5 b o e) y2), upd_ne (ne_of_none (s5 b o e) hl3)]
          exact s5 b o e
        have M6 : Mk H (upd (upd H5 l3 (.lst [V.str x0])) sh (.lst (zs.map V.str ++ [V.str x0]))) r pl th d1 d2 d3 l D xs pn rs (pn + 0) := by
          obtain ⟨L3, q3, z3, w3⟩ := M.l3
          exact ⟨fun b o e => s6 b o (M.sm b o e), s6 _ _ M.room, s6 _ _ M.pl, s6 _ _ M.th, s6 _ _ M.l1, s6 _ _ M.l2, ⟨L3, s6 _ _ q3, by lia, w3⟩, s6 _ _ M.nm, s6 _ _ M.ln, M.ok, M.len, M.ks⟩
        have hsh6 : (upd (upd H5 l3 (.lst [V.str x0])) sh (.lst (zs.map V.str ++ [V.str x0]))) sh = some (.lst ((zs ++ [x0]).map V.str)) := by rw [upd_same]; simp
        have hss : ∀ z ∈ zs ++ [x0], Nv z := fun z hz => by
          rcases List.mem_append.mp hz with hz | hz
          · exact hzn z hz
          · rw [List.mem_singleton.mp hz]; exact hxs x0 hx0
        have hsl4 : (zs ++ [x0]).length = 4 := by rw [List.length_append]; show zs.length + 1 = 4; lia
        generalize (upd (upd H5 l3 (.lst [V.str x0])) sh (.lst (zs.map V.str ++ [V.str x0]))) = H6 at M6 hsh6 ⊢
        generalize zs ++ [x0] = ss at hsh6 hss hsl4
        have fsh : sh ≠ D := fun z => by
          have := s5 _ _ M.ln
          rw [← z, y2] at this
          cases this
        have fsd : sh ≠ d3 := fun z => by
          obtain ⟨L3, q3, _⟩ := M.l3
          have := s5 _ _ q3
          rw [← z, y2] at this
          cases this
        have plN := plc_names hisP
        have hfl' : ∃ n t, plc rs = (n, false, none) :: t := by
          rcases hfl with z | ⟨x, t, z⟩
          · have := M.len
            rw [z] at this
            simp at this
            lia
          · exact ⟨x, plc t, by rw [z]; rfl⟩
        -- the lines of the things
        refine ⟨_, rfl, m, rfl, by lia, by lia, for_range (n := m.toNat) (fun i σ H7 => ∃ (v5 v8 v9 : Option V) (rs' : List Ro),
          σ = [some (.ref a), some (.int p), some (.int m), some (.ref l), some (.ref r), v5, some (.ref D), some (.ref sh), v8, v9] ∧ plc rs' = plc rs ∧ ((ths rs').map (·.1)).Perm ((xs.drop pn).take i) ∧ Mk H H7 r pl th d1 d2 d3 l D xs pn rs' (pn + i) ∧ H7 sh = some (.lst (ss.map V.str)))
          ⟨none, none, none, rs, rfl, rfl, by rw [plN.2]; exact .nil, M6, hsh6⟩ ?_ ?_⟩
        · rintro i σ H7 hi ⟨v5, v8, v9, rs', rfl, hpl', hth', M, hsh7⟩
          obtain ⟨x, hxm, hxi, hat⟩ := at_mapI (xs := xs) (j := p + (0 + (i : Int))) (by lia) (by lia)
          have hxN := hxs x hxm
          have hxL := hxN.len
          have hxi' : (xs.drop pn)[i]? = some x := by
            rw [List.getElem?_drop]
            rw [show (p + (0 + (i : Int))).toNat = pn + i by lia] at hxi
            exact hxi
          have hil : i < (xs.drop pn).length := (List.getElem?_eq_some_iff.mp hxi').1
          have htk : (xs.drop pn).take (i + 1) = (xs.drop pn).take i ++ [x] := by
            rw [List.take_succ_eq_append_getElem hil]
            congr 2
            exact (List.getElem?_eq_some_iff.mp hxi').2
          have hxn : x ∉ (xs.drop pn).take i := by
            have nd2 : ((xs.drop pn).take (i + 1)).Nodup := List.Sublist.nodup ((List.take_sublist _ _).trans (List.drop_sublist _ _)) hnd
            rw [htk] at nd2
            intro z
            exact ((List.nodup_append.mp nd2).2.2 x z x (List.mem_singleton.mpr rfl)) rfl
          obtain ⟨L3, q3, z3, w3⟩ := M.l3
          have bl := M.len
          have hS7 := M.sm.seq hS
          refine ⟨_, rfl, _, rfl, _, rfl, _, _, rfl, rfl, l, _, _, _, rfl, rfl, SqL.of M.nm, hat, ?_⟩
          refine ⟨_, rfl, _, rfl, _, rfl, _, _, rfl, rfl, a, ns, _, _, rfl, hS7, hn, by lia, by lia, by decide, fun j j0 j1 => ?_⟩
          obtain ⟨y, hym, _, hay⟩ := at_mapI (xs := ss) (j := j) j0 (by lia)
          have hyN := hss y hym
          have hyL := hyN.len
          refine ⟨sh, _, _, _, rfl, rfl, SqL.of hsh7, hay, _, rfl, r, _, rfl, dget M.room (room0_shapes _ _ _ _ _), _, rfl, d3, _, rfl, DPut.k (k := (Sum.inr x : Key)) q3 (by lia), ?_⟩
          have kp : ∀ b o, H7 b = some o → b ≠ d3 → (upd H7 d3 (.dK (putK L3 (Sum.inr x) (V.str y)))) b = some o := fun b o e hb => by rw [upd_ne hb]; exact e
          have nD3 : D ≠ d3 := kind_ne M.ln q3
          have lnK := kp _ _ M.ln nD3
          have sK := seq_keep (K := K) hS7 kp q3
          have z3' := length_putK L3 (Sum.inr x : Key) (V.str y)
          have hlm : ((rs'.map Ro.txt).map V.str).length = rs'.length := by rw [List.length_map, List.length_map]
          refine ⟨_, rfl, _, rfl, _, _, rfl, rfl, _, rfl, _, _, rfl, .inl ⟨_, SqL.of lnK, rfl⟩, _, _, rfl, rfl, a, ns, _, _, rfl, sK, hn, by lia, by lia, by lia, fun at' a0 a1 => ?_⟩
          rw [hlm] at a1
          have t1 : ("thing " : Str).length = 6 := by decide +kernel
          have t2 : (" " : Str).length = 1 := by decide +kernel
          have hv : valV (putK L3 (Sum.inr x : Key) (V.str y)) (Sum.inr x : Key) = some (V.str y) := by rw [valV_put, if_pos rfl]
          refine ⟨_, rfl, .inl ⟨rfl, _, SqL.of lnK⟩, _, rfl, _, rfl, _, _, rfl, rfl, by rw [t1]; lia, _, _, rfl, rfl, by rw [len_app, t1, t2]; lia, _, rfl, r, _, rfl, dget (kp _ _ M.room ap.r3) (room0_shapes _ _ _ _ _), _, rfl, d3, _, rfl, dget upd_same hv,
            _, _, rfl, rfl, by rw [len_app, len_app, t1, t2]; lia, D, _, _, _, rfl, rfl, a0, by rw [hlm]; lia, lnK, by rw [hlm]; lia, ?_⟩
          have nDr : D ≠ r := kind_ne M.ln M.room
          have thp := ths_ins rs' at'.toNat x y
          refine ⟨_, _, _, rs'.take at'.toNat ++ (.th x y :: rs'.drop at'.toNat), rfl, by rw [plc_ins]; exact hpl', ?_, ?_, ?_⟩
          · rw [htk]
            refine (thp.map (·.1)).trans ?_
            rw [List.map_cons]
            exact (List.Perm.cons x hth').trans (List.perm_append_singleton x _).symm
          · refine ⟨fun b o e => ?_, ?_, ?_, ?_, ?_, ?_, ⟨_, by rw [upd_ne nD3.symm]; exact upd_same, by lia, fun z hz => ?_⟩, ?_, ?_, fun z hz => ?_, ?_, fun u v huv => ?_⟩
            · rw [upd_ne (ne_of_none e ap.fD)]
              exact kp b o (M.sm b o e) (ne_of_none e ap.f3)
            · rw [upd_ne nDr.symm]
              exact kp _ _ M.room ap.r3
            · rw [upd_ne ap.Dp.symm]
              exact kp _ _ M.pl (kind_ne M.pl q3)
            · rw [upd_ne ap.Dt.symm]
              exact kp _ _ M.th (kind_ne M.th q3)
            · rw [upd_ne (kind_ne M.ln M.l1).symm, lidsK_ins]
              exact kp _ _ M.l1 ap.n13
            · rw [upd_ne (kind_ne M.ln M.l2).symm, keysK_ins]
              exact kp _ _ M.l2 ap.n23
            · rcases List.mem_cons.mp (thp.mem_iff.mp hz) with e | e
              · rw [e]
                exact hv
              · have hne : z.1 ≠ x := fun ez => hxn (hth'.mem_iff.mp (List.mem_map.mpr ⟨z, e, ez⟩))
                rw [valV_put, if_neg (kne hne)]
                exact w3 z e
            · rw [upd_ne ap.Dl.symm]
              exact kp _ _ M.nm (kind_ne M.nm q3)
            · rw [upd_same]
              simp [List.map_take, List.map_drop]
              rfl
            · rcases List.mem_append.mp hz with hz | hz
              · exact M.ok z (List.mem_of_mem_take hz)
              · rcases List.mem_cons.mp hz with hz | hz
                · rw [hz]
                  exact ⟨hxN, hyN⟩
                · exact M.ok z (List.mem_of_mem_drop hz)
            · rw [List.length_append, List.length_cons, List.length_take, List.length_drop]
              lia
            · rcases List.mem_append.mp huv with hz | hz
              · exact M.ks u v (List.mem_of_mem_take hz)
              · rcases List.mem_cons.mp hz with hz | hz
                · cases hz
                · exact M.ks u v (List.mem_of_mem_drop hz)
          · rw [upd_ne fsh]
            exact kp _ _ hsh7 fsd
        · rintro σ H7 ⟨v5, v8, v9, rs', rfl, hpl', hth', M, hsh7⟩
          have hdl : (xs.drop pn).length ≤ m.toNat := by rw [List.length_drop]; lia
          rw [List.take_of_length_le hdl] at hth'
          have G : Good rs' := good_of hnd (by lia) (by lia) M.ok (by rw [hpl', plN.1]; exact hnm) hth' (by rw [hpl']; exact hfl') M.ks
          -- the things, read off the lines
          refine ⟨_, rfl, D, rfl, ⟨_, SqL.of M.ln⟩, fun D2 hD2 => ?_⟩
          have hll : ((rs'.map Ro.txt).map V.str).length = rs'.length := by rw [List.length_map, List.length_map]
          have bl := M.len
          refine lcJ (n := rs'.length) (fun i ys H8 => ys = ((ths (rs'.take i)).map (·.1)).map V.str ∧ Same H7 H8 ∧ H8 D2 = some (.lst ys)) ⟨rfl, Same.new hD2, upd_same⟩
            (fun i ys H8 hi hh0 => by obtain ⟨_, s8, _⟩ := hh0; exact ⟨_, .str rs'[i].txt, SqL.of (s8 _ _ M.ln), by simp [hi]⟩) (fun ys H8 hh0 => by obtain ⟨_, s8, _⟩ := hh0; exact ⟨_, SqL.of (s8 _ _ M.ln), by simp⟩) ?_ ?_
          · rintro i ys H8 x H9 hi ⟨rfl, s8, hD8⟩ ⟨rfl, hx⟩
            have hx1 := hx _ (SqL.of (s8 _ _ M.ln))
            have hx2 : x = .str rs'[i].txt := by
              rw [List.getElem?_map, List.getElem?_map, List.getElem?_eq_getElem hi] at hx1
              exact (Option.some.inj hx1).symm
            subst hx2
            have hnv := M.ok _ (List.getElem_mem hi)
            have hLl := txt_len hnv
            have htk : rs'.take (i + 1) = rs'.take i ++ [rs'[i]] := List.take_succ_eq_append_getElem hi
            have hle : (((ths (rs'.take i)).map (·.1)).map V.str).length < sizeLine := by
              have h1 := len_rows (rs'.take i)
              rw [List.length_take] at h1
              rw [List.length_map, List.length_map]
              lia
            generalize rs'[i] = ro at hnv hLl htk
            refine ⟨_, rfl, rfl, _, _, rfl, rfl, _, rfl, ?_⟩
            have hst := starts_txt ro
            refine ite2 (fun hs => ?_) (fun hs => ⟨?_, s8, hD8⟩)
            · rw [show Txt.startswith ro.txt (Str.ofString "thing ") = !ro.isP from hst] at hs
              refine ⟨_, rfl, rfl, _, _, rfl, rfl, by decide +kernel, by lia, fun p3 hp3 => ?_⟩
              have hsp := split_txt hnv
              obtain ⟨n, sh', rfl⟩ : ∃ n s, ro = .th n s := by
                cases ro with
                | th n s => exact ⟨n, s, rfl⟩
                | _ => exact absurd (show false = true from hs) Bool.false_ne_true
              have hay : atI ((Txt.split (Ro.th n sh').txt blank).map V.str) ((1 : Nat) : Int) = some (.str n) := atI_nat (by rw [hsp]; rfl)
              refine ⟨p3, _, _, _, rfl, rfl, SqL.of upd_same, hay, _, by rw [upd_ne (ne_of_none hD8 hp3)]; exact hD8, hle, ?_, (s8.trans (Same.new hp3)).put hD2, upd_same⟩
              rw [htk, ths_app, List.map_append, List.map_append]
              rfl
            · rw [show Txt.startswith ro.txt (Str.ofString "thing ") = !ro.isP from hst] at hs
              have : ths (rs'.take (i + 1)) = ths (rs'.take i) := by
                rw [htk, ths_app]
                cases ro with
                | th n s => exact absurd rfl hs
                | _ => exact List.append_nil _
              rw [this]
          · rintro ys H8 ⟨rfl, s8, hD8⟩
            rw [List.take_length] at hD8
            refine ⟨_, rfl, r, _, rfl, DPut.k (k := (Sum.inr "things" : Key)) (s8 _ _ M.room) (by show 5 < sizeLine; decide), ?_⟩
            have z9 := length_putK (room0 pl th d1 d2 d3) (Sum.inr "things" : Key) (V.ref D2)
            refine ⟨_, rfl, _, rfl, r, _, rfl, DPut.k (k := (Sum.inr "lines" : Key)) upd_same (by show _ < sizeLine; have : (room0 pl th d1 d2 d3).length = 5 := rfl; lia), ?_⟩
            obtain ⟨L3, q3, z3, w3⟩ := M.l3
            have nr2 : D2 ≠ r := fun z => by rw [z] at hD2; rw [M.room] at hD2; cases hD2
            have up : ∀ (u v : HO) b o, H7 b = some o → b ≠ r → upd (upd H8 r u) r v b = some o := fun u v b o e hb => by rw [upd_ne hb, upd_ne hb]; exact s8 b o e
            have hplr : (plc rs').map (·.1) = xs.take pn := by rw [hpl', plN.1]; exact hnm
            have hc1 := congrArg List.length hplr
            rw [List.length_map, List.length_take] at hc1
            have hc2 := hth'.length_eq
            rw [List.length_map, List.length_drop] at hc2
            refine ⟨_, rfl, q r rs' _ (fun b o e => up _ _ b o (M.sm b o e) (ne_of_none e ap.fr)) ⟨⟨_, L3, pl, D2, d1, d2, d3, D, upd_same, ?_, ?_, ?_, ?_, ?_, ?_, ?_, ?_, up _ _ _ _ M.l1 ap.r1.symm, up _ _ _ _ M.l2 ap.r2.symm, up _ _ _ _ q3 ap.r3.symm, up _ _ _ _ M.ln (kind_ne M.ln M.room), w3⟩, G⟩ (by lia) (by lia) (by lia) (hxf.mono fun x hx => by
              have h9 := (names_perm rs').mem_iff.mp hx
              rcases List.mem_append.mp h9 with z | z
              · rw [hplr] at z
                exact List.mem_of_mem_take z
              · exact List.mem_of_mem_drop (hth'.mem_iff.mp z))⟩
            · rw [valV_put, if_neg (kne (by decide +kernel)), valV_put, if_neg (kne (by decide +kernel))]
              exact room0_places _ _ _ _ _
            · rw [valV_put, if_neg (kne (by decide +kernel)), valV_put, if_pos rfl]
            · rw [valV_put, if_neg (kne (by decide +kernel)), valV_put, if_neg (kne (by decide +kernel))]
              exact room0_lids _ _ _ _ _
            · rw [valV_put, if_neg (kne (by decide +kernel)), valV_put, if_neg (kne (by decide +kernel))]
              exact room0_keys _ _ _ _ _
            · rw [valV_put, if_neg (kne (by decide +kernel)), valV_put, if_neg (kne (by decide +kernel))]
              exact room0_shapes _ _ _ _ _
            · rw [valV_put, if_pos rfl]
            · rw [hplr]
              exact up _ _ _ _ M.pl (kind_ne M.pl M.room)
            · rw [upd_ne nr2, upd_ne nr2]
              exact hD8
    obtain ⟨tt, ht, rt⟩ := tail
    refine ⟨_, pss_cons (ps_set (i := 3) scRoom.nd rfl (Or.inr rfl) (pe_call GN hr (by rfl) DN.m DN.F.kp DN.b .nil pass0 (pa_cons (pv 0) (pa_cons pe_int (pa_cons (pe_op op_add (pv 1) (pv 2)) pa_nil)))))
      (pss_cons (ps_if (pt_cmpR op_eq (pe_call GP hr1 (by rfl) DP.m DP.F.kp DP.b .nil pass0 (pa_cons (pv 0) (pa_cons pe_int (pa_cons pe_int pa_nil)))) pe_int (nomark _))
        (pss_one (ps_expr (pe_bm0 PySem.F.plainAttrs_list PySem.F.slot_list_reverse PySem.F.type_list_reverse mt_reverse (pv 3)))) pss_nil) ht), ?_⟩
    refine ⟨_, rfl, _, rfl, _, rfl, _, _, rfl, rfl, a, ns, _, _, rfl, hS, hn, by decide, by decide, by lia, by lia, fun l xs H2 sm hl hl2 hxl hxs hnd hxf => ?_⟩
    refine ⟨_, rfl, a, ns, _, _, rfl, sm.seq hS, hn, by decide, by decide, by decide, fun b b0 b1 => ⟨rfl, _, rfl, ?_⟩⟩
    refine ite2 (fun _ => ?_) (fun _ => ?_)
    · refine ⟨_, rfl, .inl ⟨rfl, _, SqL.of hl2⟩, l, _, rfl, rfl, hl2, ?_⟩
      exact rt l xs.reverse _ (sm.put hl) hl (by rw [upd_same, List.map_reverse]) (by rw [List.length_reverse]; lia) (fun x hx => hxs x (List.mem_reverse.mp hx)) ((List.reverse_perm xs).nodup_iff.mpr hnd) (hxf.mono fun x hx => List.mem_reverse.mp hx)
    · exact rt l xs H2 sm hl hl2 hxl hxs hnd hxf
end
end K12
namespace K12
open PySem L2 Tx Rk PyProof.Rows PySem.SeqAt
open PySem.PyData (strOk)
section
variable {P : Program} {w : World} {K : PySem.W.Frag} {mg : Str → Option Value} {base : Heap}
structure Wl where
  hand : Option Str
  heaps : List (List Str)
  lids : List Str
  deriving DecidableEq
noncomputable def dO : Option Str → PyData
  | none => .none
  | some x => .str x
noncomputable def dH (xs : List Str) : PyData := .tuple (xs.map PyData.str)
noncomputable def dW (W : Wl) : PyData := .tuple [dO W.hand, .tuple (W.heaps.map dH), .tuple (W.lids.map PyData.str)]
noncomputable def Sz (W : Wl) (n : Nat) : Prop := W.heaps.length = n ∧ W.lids.length = n
theorem parts {H : Hp} {v : V} {W : Wl} (h : RdV H v (dW W)) : ∃ (a : Addr) (v0 : V) (b c : Addr) (xs ys : List V), v = .ref a ∧ H a = some (.tup [v0, .ref b, .ref c]) ∧ RdV H v0 (dO W.hand) ∧
    H b = some (.tup xs) ∧ RdVs H xs (W.heaps.map dH) ∧ H c = some (.tup ys) ∧ RdVs H ys (W.lids.map PyData.str) := by
  unfold dW at h
  cases h with
  | tup e rs =>
    cases rs with
    | cons r0 rs =>
      cases rs with
      | cons r1 rs =>
        cases rs with
        | cons r2 rs =>
          cases rs
          cases r1 with
          | tup e1 s1 =>
            cases r2 with
            | tup e2 s2 => exact ⟨_, _, _, _, _, _, rfl, e, r0, e1, s1, e2, s2⟩
theorem whole {H : Hp} {a b c : Addr} {v0 : V} {xs ys : List V} {W : Wl} (e : H a = some (.tup [v0, .ref b, .ref c])) (r0 : RdV H v0 (dO W.hand)) (e1 : H b = some (.tup xs)) (s1 : RdVs H xs (W.heaps.map dH)) (e2 : H c = some (.tup ys)) (s2 : RdVs H ys (W.lids.map PyData.str)) :
    RdV H (.ref a) (dW W) := .tup e (.cons r0 (.cons (.tup e1 s1) (.cons (.tup e2 s2) .nil)))
theorem at0 {α : Type} {xs : List α} {i : Nat} {v : α} (h : xs[i]? = some v) : atI xs (0 + (i : Int)) = some v := by
  rw [Int.zero_add]
  exact atI_nat h
noncomputable def oV : Option Str → V
  | none => .non
  | some x => .str x
theorem rd_oV {H : Hp} : ∀ o : Option Str, RdV H (oV o) (dO o)
  | none => .non
  | some x => .str x
noncomputable abbrev pWorld : List Str := ["_law_script", "_law_k", "_law_room_here"]
structure Fw (rs : List Ro) (W : Wl) : Prop where
  perm : (W.hand.toList ++ W.heaps.flatten).Perm ((ths rs).map (·.1))
  lids : ∀ (i : Nat) p l, (plc rs)[i]? = some p → W.lids[i]? = some l → Lo p l
inductive spWorld (K : PySem.W.Frag) (vs : List V) (H : Hp) (Q : VK) (E0_ : XK) : Prop
  | mk (a : Addr) (ns : List Int) (k : Int) (r : Addr) (rs : List Ro) (c0 : vs = [.ref a, .int k, .ref r]) (c1 : SqL K H a (ns.map V.int)) (c2 : ns.length ≤ 63) (c3 : 0 ≤ k) (c4 : k < 100000) (c5 : RmS H r rs) (c6 : 1 ≤ (plc rs).length) (c7 : ∀ (v : V) (W : Wl) (H' : Hp), Same H H' → RdV H' v (dW W) → Sz W (plc rs).length → Fw rs W → Q v H') : spWorld K vs H Q E0_
structure Hs (H H2 : Hp) (D : Addr) (hs : List Addr) (xss : List (List Str)) : Prop where
  len : hs.length = xss.length
  lst : H2 D = some (.lst (hs.map V.ref))
  nd : hs.Nodup
  fr : ∀ h ∈ hs, H h = none ∧ h ≠ D
  at' : ∀ (i : Nat) h xs, hs[i]? = some h → xss[i]? = some xs → H2 h = some (.lst (xs.map V.str))
theorem Hs.same {H H2 H3 : Hp} {D : Addr} {hs : List Addr} {xss : List (List Str)} (S : Hs H H2 D hs xss) (s : Same H2 H3) : Hs H H3 D hs xss :=
  ⟨S.len, s _ _ S.lst, S.nd, S.fr, fun i h xs a b => s _ _ (S.at' i h xs a b)⟩
theorem Hs.has {H H2 : Hp} {D : Addr} {hs : List Addr} {xss : List (List Str)} (S : Hs H H2 D hs xss) {h : Addr} (hh : h ∈ hs) : ∃ o, H2 h = some o := by
  obtain ⟨i, hi⟩ := List.getElem?_of_mem hh
  have hlt := (List.getElem?_eq_some_iff.mp hi).1
  exact ⟨_, S.at' i h _ hi (List.getElem?_eq_getElem (by have := S.len; lia))⟩
theorem Hs.off {H H2 : Hp} {D l : Addr} {o : HO} {hs : List Addr} {xss : List (List Str)} (S : Hs H H2 D hs xss) (n1 : l ≠ D) (n2 : ∀ h ∈ hs, l ≠ h) : Hs H (upd H2 l o) D hs xss :=
  ⟨S.len, by rw [upd_ne n1.symm]; exact S.lst, S.nd, S.fr, fun i h xs a b => by rw [upd_ne (n2 h (List.mem_of_getElem? a)).symm]; exact S.at' i h xs a b⟩
theorem Hs.put {H H2 : Hp} {D : Addr} {hs : List Addr} {xss : List (List Str)} (S : Hs H H2 D hs xss) {j : Nat} {h : Addr} {new : List Str} (hj : hs[j]? = some h) : Hs H (upd H2 h (.lst (new.map V.str))) D hs (xss.set j new) := by
  have hne := (S.fr h (List.mem_of_getElem? hj)).2
  refine ⟨by rw [List.length_set]; exact S.len, by rw [upd_ne hne.symm]; exact S.lst, S.nd, S.fr, fun i g xs a b => ?_⟩
  have hjl := (List.getElem?_eq_some_iff.mp hj).1
  by_cases e : j = i
  · subst e
    rw [hj] at a
    cases a
    rw [List.getElem?_set_self (by have := S.len; lia)] at b
    cases b
    exact upd_same
  · rw [List.getElem?_set_ne e] at b
    have hgh : g ≠ h := fun z => by
      subst z
      have hil := (List.getElem?_eq_some_iff.mp a).1
      have e1 := (List.getElem?_eq_some_iff.mp a).2
      have e2 := (List.getElem?_eq_some_iff.mp hj).2
      exact e ((List.getElem_inj S.nd).mp (e2.trans e1.symm))
    rw [upd_ne hgh]
    exact S.at' i g xs a b
noncomputable abbrev nWorld : List Str := ["_law_script", "_law_k", "_law_room_here", "_law_heaps", "_law_hand", "_law_i", "_law_thing", "_law_where", "_law_heap", "_law_lids_here", "_law_some"]
theorem scWorld : FnScope nWorld pWorld (defScope sWorld) := ⟨rfl, rfl, rfl, by decide +kernel, rfl, by decide +kernel, by decide +kernel⟩
end
end K12
namespace K12
open PySem L2 Tx Rk PyProof.Rows PySem.SeqAt
open PySem.PyData (strOk)
section
variable {P : Program} {w : World} {K : PySem.W.Frag} {mg : Str → Option Value} {base : Heap}
theorem ok_world {f fP fL : Addr} {fd fdP fdL : FuncData} (F : Fun K "_law_world" "_law_world" sWorld f fd) (DP : Df K mg "_law_pick" sPick pPick fP fdP) (DL : Df K mg "_law_lids" sLids pLids fL fdL) (T : Bl mg) (GP : FnOk P w K mg base CX0 1 fP fdP pPick (spPick K)) (GL : FnOk P w K mg base CX0 1 fL fdL pLids spLids) :
    FnOk P w K mg base CX0 2 f fd pWorld (spWorld K) := by
  refine F.ok scWorld (fun vs H Q E h => ?_) (fun cdv A outer s H vs Q E hr h => ?_)
  · obtain ⟨a, ns, k, r, rs, rfl, _⟩ := h
    rfl
  · obtain ⟨a, ns, k, r, rs, rfl, hS, hn, k0, k1, R, p0', q⟩ := h
    have hu := hu_of hr
    have hsl : sizeLine = 16777216 := sizeLine_eq
    refine ⟨_, (pss_cons (ps_lc (i := 3) (N := ["_law_place"]) (sc := defScope sWorld) (own := ["_law_place"]) (fr := []) (js := []) scWorld.nd rfl rfl ⟨rfl, rfl, rfl, rfl, by decide +kernel, by decide +kernel, by decide +kernel, rfl, by decide +kernel⟩ rfl (pi_list (pe_dget hu (pv 2) pe_str (fun _ _ => rfl))) (fun _ _ _ _ => pg_name (i := 0) (show List.Nodup (["_law_place"] : List Str) by decide +kernel) rfl (Or.inl rfl)) (fun _ _ _ _ => pif_nil) (fun _ _ _ _ => pe_lst pa_nil))
      (pss_cons (ps_set (i := 4) scWorld.nd rfl (Or.inl rfl) pe_non)
      (pss_cons (ps_for PassesOwn.never rfl (pi_range1 (by rfl) T.range (pa_cons (pe_callB call_len (by rfl) T.len PySem.boot_len (pa_cons (pe_dget hu (pv 2) pe_str (fun _ _ => rfl)) pa_nil)) pa_nil)) (pg_name (i := 5) scWorld.nd rfl (Or.inl rfl)) (pss_cons (ps_set (i := 6) scWorld.nd rfl (Or.inl rfl) (pe_ix ix_list (pe_dget hu (pv 2) pe_str (fun _ _ => rfl)) (pv 5) (fun _ _ => rfl)))
      (pss_cons (ps_set (i := 7) scWorld.nd rfl (Or.inl rfl) (pe_call GP hr (by rfl) DP.m DP.F.kp DP.b .nil pass0 (pa_cons (pv 0) (pa_cons (pe_op op_add (pv 1) (pv 5)) (pa_cons (pe_op op_add (pe_callB call_len (by rfl) T.len PySem.boot_len (pa_cons (pv 3) pa_nil)) pe_int) pa_nil)))))
      (pss_one (ps_if (PW.pt (pw_and (pt_cmpR op_eq (pv 7) (pe_callB call_len (by rfl) T.len PySem.boot_len (pa_cons (pv 3) pa_nil)) (nomark _)) (pw_and1 (pt_cmpR op_isN (pv 4) pe_non (nomark _))))) (pss_one (ps_set (i := 4) scWorld.nd rfl (Or.inl rfl) (pv 6))) (pss_cons (ps_set (i := 8) scWorld.nd rfl (Or.inl rfl) (pe_ix ix_list (pv 3) (pe_op op_mod (pv 7) (pe_callB call_len (by rfl) T.len PySem.boot_len (pa_cons (pv 3) pa_nil))) (fun _ _ => rfl)))
      (pss_one (ps_expr (pe_bm PySem.F.plainAttrs_list PySem.F.slot_list_insert PySem.F.type_list_insert mt_insert (pv 8) (pa_cons (pe_call GP hr (by rfl) DP.m DP.F.kp DP.b .nil pass0 (pa_cons (pv 0) (pa_cons (pe_op op_add (pe_op op_add (pv 1) pe_int) (pv 5)) (pa_cons (pe_op op_add (pe_callB call_len (by rfl) T.len PySem.boot_len (pa_cons (pv 8) pa_nil)) pe_int) pa_nil)))) (pa_cons (pv 6) pa_nil)))))))))))
      (pss_cons (ps_set (i := 9) scWorld.nd rfl (Or.inl rfl) (pe_lst pa_nil))
      (pss_cons (ps_for PassesOwn.never rfl (pi_range1 (by rfl) T.range (pa_cons (pe_callB call_len (by rfl) T.len PySem.boot_len (pa_cons (pv 3) pa_nil)) pa_nil)) (pg_name (i := 5) scWorld.nd rfl (Or.inl rfl)) (pss_cons (ps_set (i := 10) scWorld.nd rfl (Or.inl rfl) (pe_call GL hr (by rfl) DL.m DL.F.kp DL.b .nil pass0 (pa_cons (pv 2) (pa_cons (pe_ix ix_list (pe_dget hu (pv 2) pe_str (fun _ _ => rfl)) (pv 5) (fun _ _ => rfl)) pa_nil))))
      (pss_one (ps_expr (pe_bm PySem.F.plainAttrs_list PySem.F.slot_list_append PySem.F.type_list_append mt_append (pv 9) (pa_cons (pe_ix ix_list (pv 10) (pe_call GP hr (by rfl) DP.m DP.F.kp DP.b .nil pass0 (pa_cons (pv 0) (pa_cons (pe_op op_add (pe_op op_add (pv 1) pe_int) (pv 5)) (pa_cons (pe_callB call_len (by rfl) T.len PySem.boot_len (pa_cons (pv 10) pa_nil)) pa_nil)))) (fun _ _ => rfl)) pa_nil))))))
      (pss_one (ps_ret (pe_tup (pa_cons (pv 4) (pa_cons (pe_callTy call_tuple_of (by rfl) T.tuple bt_tuple (pa_cons (pe_lc (N := ["_law_heap"]) (sc := defScope sWorld) (own := ["_law_heap"]) (fr := []) (js := []) ⟨rfl, rfl, rfl, rfl, by decide +kernel, by decide +kernel, by decide +kernel, rfl, by decide +kernel⟩ rfl (pi_list (pv 3)) (fun _ _ _ _ => pg_name (i := 0) (show List.Nodup (["_law_heap"] : List Str) by decide +kernel) rfl (Or.inl rfl)) (fun _ _ _ _ => pif_nil) (fun _ _ _ _ => (pe_callTy (call_tupK K rfl) (by rfl) T.tuple bt_tuple (pa_cons (pv 0) pa_nil)))) pa_nil)) (pa_cons (pe_callTy call_tuple_of (by rfl) T.tuple bt_tuple (pa_cons (pv 9) pa_nil)) pa_nil))))))))))), ?_⟩
    have g := R.good
    obtain ⟨kvs, L3, pl, th, d1, d2, d3, DD, h1, h2, h3, h4, h5, hb1, hb2, h6, h7, h8, h9, hb3, hb4, hb5⟩ := R.ex
    obtain ⟨ps, hps⟩ : ∃ ps, ps = (plc rs).map (·.1) := ⟨_, rfl⟩
    obtain ⟨ts, hts⟩ : ∃ ts, ts = (ths rs).map (·.1) := ⟨_, rfl⟩
    have hpl : ps.length = (plc rs).length := by rw [hps, List.length_map]
    have htl : ts.length = (ths rs).length := by rw [hts, List.length_map]
    have p0 : 1 ≤ ps.length := by lia
    have p1 : ps.length ≤ 6 := by have := g.fewP; lia
    have t1 : ts.length ≤ 6 := by have := g.fewT; lia
    rw [← hps] at h6
    rw [← hts] at h7
    have hpm : (ps.map V.str).length = ps.length := List.length_map ..
    have htm : (ts.map V.str).length = ts.length := List.length_map ..
    -- the empty heaps
    refine ⟨_, rfl, r, _, rfl, dget h1 h2, pl, rfl, ⟨_, SqL.of h6⟩, fun D hD => ?_⟩
    refine lcJ (n := ps.length) (fun i ys H2 => ∃ hs : List Addr, ys = hs.map V.ref ∧ Same H H2 ∧ hs.length = i ∧ Hs H H2 D hs (List.replicate i [])) ⟨[], rfl, Same.new hD, rfl, rfl, upd_same, .nil, (fun _ z => nomatch z), fun i h xs z => by simp at z⟩
      (fun i ys H2 hi hh0 => by obtain ⟨hs, _, sm, _⟩ := hh0; exact ⟨_, .str ps[i], SqL.of (sm _ _ h6), by simp [hi]⟩) (fun ys H2 hh0 => by obtain ⟨hs, _, sm, _⟩ := hh0; exact ⟨_, SqL.of (sm _ _ h6), by simp⟩) ?_ ?_
    · rintro i ys H2 x H3 hi ⟨hs, rfl, sm, hl, S⟩ ⟨rfl, _⟩
      refine lc_yes ?_
      refine ⟨Nat.zero_le _, fun p hp => ⟨_, by rw [upd_ne (ne_of_none S.lst hp)]; exact S.lst, by rw [List.length_map, hl]; lia, hs ++ [p], by simp, ?_, ?_, ?_⟩⟩
      · exact (sm.put (sm.free hp)).put hD
      · rw [List.length_append, hl]; rfl
      · have pD : p ≠ D := (ne_of_none S.lst hp).symm
        have hold : ∀ h ∈ hs, h ≠ p ∧ H3 h = some (.lst []) := fun h hh => by
          obtain ⟨j, hj⟩ := List.getElem?_of_mem hh
          have hlt := (List.getElem?_eq_some_iff.mp hj).1
          have e := S.at' j h [] hj (by rw [List.getElem?_replicate, if_pos (by lia)])
          exact ⟨ne_of_none e hp, e⟩
        refine ⟨by rw [List.length_append, hl, List.length_replicate]; rfl, by rw [upd_same]; simp, nodup_snoc S.nd (fun z => (hold p z).1 rfl), fun h hh => ?_, fun j h xs ha hb => ?_⟩
        · rcases List.mem_append.mp hh with hh | hh
          · exact S.fr h hh
          · rw [List.mem_singleton.mp hh]
            exact ⟨sm.free hp, pD⟩
        · have hx : xs = [] := List.eq_of_mem_replicate (List.mem_of_getElem? hb)
          subst hx
          rcases List.mem_append.mp (List.mem_of_getElem? ha) with hh | hh
          · rw [upd_ne (S.fr h hh).2, upd_ne (hold h hh).1]
            exact (hold h hh).2
          · rw [List.mem_singleton.mp hh, upd_ne pD]
            exact upd_same
    rintro ys H2 ⟨hs, rfl, sm, hl, S⟩
    -- the things, one by one
    have hrm : (hs.map V.ref).length = ps.length := by rw [List.length_map, hl]
    refine ⟨_, rfl, r, _, rfl, dget (sm _ _ h1) h3, _, _, rfl, .inl ⟨_, SqL.of (sm _ _ h7), rfl⟩, _, rfl, by lia, by rw [htm]; lia, for_range (n := (((ts.map V.str).length : Nat) : Int).toNat) (fun i σ H3 => ∃ (v5 v6 v7 v8 : Option V) (o : Option Str) (xss : List (List Str)),
      σ = [some (.ref a), some (.int k), some (.ref r), some (.ref D), some (oV o), v5, v6, v7, v8, none, none] ∧ Same H H3 ∧ Hs H H3 D hs xss ∧ (o.toList ++ xss.flatten).Perm (ts.take i)) ⟨none, none, none, none, none, _, rfl, sm, S, by simp⟩ ?_ ?_⟩
    · rintro i σ H3 hi ⟨v5, v6, v7, v8, o, xss, rfl, sm3, S3, pm⟩
      have hi' : i < ts.length := by rw [Int.toNat_natCast, htm] at hi; exact hi
      have hat : atI (ts.map V.str) (0 + (i : Int)) = some (.str ts[i]) := at0 (by simp [hi'])
      have htk : ts.take (i + 1) = ts.take i ++ [ts[i]] := List.take_succ_eq_append_getElem hi'
      generalize ts[i] = x at hat htk
      refine ⟨_, rfl, r, _, rfl, dget (sm3 _ _ h1) h3, _, rfl, _, _, _, _, rfl, rfl, SqL.of (sm3 _ _ h7), hat, ?_⟩
      refine ⟨_, rfl, _, rfl, _, rfl, _, _, rfl, rfl, _, rfl, _, _, rfl, .inl ⟨_, SqL.of S3.lst, rfl⟩, _, _, rfl, rfl, a, ns, _, _, rfl, sm3.seq hS, hn, by lia, by lia, by lia, fun wh w0 w1 => ?_⟩
      rw [hrm] at w1
      -- into a heap
      have hpos : (0 : Int) < ((hs.map V.ref).length : Int) := by lia
      obtain ⟨j, hj⟩ : ∃ j : Nat, (j : Int) = wh % ((hs.map V.ref).length : Int) := ⟨(wh % ((hs.map V.ref).length : Int)).toNat, Int.toNat_of_nonneg (Int.emod_nonneg _ (by lia))⟩
      have hjl : j < hs.length := by
        have := Int.emod_lt_of_pos wh hpos
        rw [List.length_map] at this hj
        lia
      have hjx : j < xss.length := by have := S3.len; lia
      have hah : atI (hs.map V.ref) (wh % ((hs.map V.ref).length : Int)) = some (.ref hs[j]) := by
        rw [← hj]
        exact atI_nat (by simp [hjl])
      have hhj : hs[j]? = some hs[j] := List.getElem?_eq_getElem hjl
      have hxj : xss[j]? = some xss[j] := List.getElem?_eq_getElem hjx
      have hxl : (xss[j]).length ≤ 6 := by
        have e1 := len_flat (List.getElem_mem hjx)
        have e2 := pm.length_eq
        rw [List.length_append, List.length_take] at e2
        lia
      generalize hs[j] = h at hah hhj
      generalize xss[j] = xs at hxj hxl
      have z3 := S3.at' j h xs hhj hxj
      have z1 := (S3.fr h (List.mem_of_getElem? hhj)).1
      have hxm' : (xs.map V.str).length = xs.length := List.length_map ..
      have ins : ∀ at' : Int, Same H (upd H3 h (.lst ((xs.map V.str).take at'.toNat ++ V.str x :: (xs.map V.str).drop at'.toNat))) ∧ Hs H (upd H3 h (.lst ((xs.map V.str).take at'.toNat ++ V.str x :: (xs.map V.str).drop at'.toNat))) D hs (xss.set j (xs.take at'.toNat ++ x :: xs.drop at'.toNat)) ∧
          (o.toList ++ (xss.set j (xs.take at'.toNat ++ x :: xs.drop at'.toNat)).flatten).Perm (ts.take (i + 1)) := fun at' => by
        have e : (xs.map V.str).take at'.toNat ++ V.str x :: (xs.map V.str).drop at'.toNat = (xs.take at'.toNat ++ x :: xs.drop at'.toNat).map V.str := by simp [List.map_take, List.map_drop]
        rw [e]
        refine ⟨sm3.put z1, S3.put hhj, ?_⟩
        have e1 := set_flat (a := xs.take at'.toNat) (b := xs.drop at'.toNat) (x := x) (xss := xss) (j := j) (by rw [List.take_append_drop]; exact hxj)
        rw [htk]
        refine (List.Perm.append_left _ e1).trans (List.perm_middle.trans ?_)
        exact (List.Perm.cons x pm).trans (List.perm_append_singleton x _).symm
      refine ⟨_, rfl, _, rfl, _, _, rfl, .inl ⟨_, SqL.of S3.lst, rfl⟩, rfl, _, rfl, ?_⟩
      refine ite2 (fun _ => ?_) (fun _ => ?_)
      · refine ⟨_, rfl, rfl, _, rfl, ?_⟩
        refine ite2 (fun ho => ?_) (fun _ => ?_)
        · have ho' : o = none := by
            cases o with
            | none => rfl
            | some y => exact absurd (of_decide_eq_true ho) (by intro z; cases z)
          subst ho'
          refine ⟨_, rfl, _, _, _, _, some x, xss, rfl, sm3, S3, ?_⟩
          rw [htk]
          exact (List.Perm.cons x pm).trans (List.perm_append_singleton x _).symm
        · refine ⟨_, rfl, _, rfl, _, rfl, _, _, rfl, .inl ⟨_, SqL.of S3.lst, rfl⟩, _, _, rfl, rfl, hpos, D, _, _, _, rfl, rfl, SqL.of S3.lst, hah, ?_⟩
          refine ⟨_, rfl, .inl ⟨rfl, _, SqL.of z3⟩, _, rfl, _, rfl, _, _, rfl, rfl, _, rfl, _, _, rfl, rfl, _, rfl, _, _, rfl, .inl ⟨_, SqL.of z3, rfl⟩, _, _, rfl, rfl, a, ns, _, _, rfl, sm3.seq hS, hn, by lia, by lia, by lia, fun at' a0 a1 => ?_⟩
          rw [hxm'] at a1
          obtain ⟨i1, i2, i3⟩ := ins at'
          exact ⟨_, rfl, h, _, _, _, rfl, rfl, a0, by rw [hxm']; lia, z3, by rw [hxm']; lia, _, _, _, _, o, _, rfl, i1, i2, i3⟩
      · refine iteF ?_
        refine ⟨_, rfl, _, rfl, _, rfl, _, _, rfl, .inl ⟨_, SqL.of S3.lst, rfl⟩, _, _, rfl, rfl, hpos, D, _, _, _, rfl, rfl, SqL.of S3.lst, hah, ?_⟩
        refine ⟨_, rfl, .inl ⟨rfl, _, SqL.of z3⟩, _, rfl, _, rfl, _, _, rfl, rfl, _, rfl, _, _, rfl, rfl, _, rfl, _, _, rfl, .inl ⟨_, SqL.of z3, rfl⟩, _, _, rfl, rfl, a, ns, _, _, rfl, sm3.seq hS, hn, by lia, by lia, by lia, fun at' a0 a1 => ?_⟩
        rw [hxm'] at a1
        obtain ⟨i1, i2, i3⟩ := ins at'
        exact ⟨_, rfl, h, _, _, _, rfl, rfl, a0, by rw [hxm']; lia, z3, by rw [hxm']; lia, _, _, _, _, o, _, rfl, i1, i2, i3⟩
    rintro σ H3 ⟨v5, v6, v7, v8, o, xss, rfl, sm3, S3, pm⟩
    rw [Int.toNat_natCast, htm, List.take_length] at pm
    -- the lids
    refine ⟨Nat.zero_le _, fun ll hll => ?_⟩
    have nD : ll ≠ D := (ne_of_none S3.lst hll).symm
    have nH : ∀ h ∈ hs, ll ≠ h := fun h hh => by
      obtain ⟨oo, z3⟩ := S3.has hh
      exact (ne_of_none z3 hll).symm
    have f0 : H ll = none := sm3.free hll
    have S4 := S3.same (Same.new (o := .lst []) hll)
    refine ⟨_, rfl, _, _, rfl, .inl ⟨_, SqL.of S4.lst, rfl⟩, _, rfl, by lia, by lia, for_range (n := (((hs.map V.ref).length : Nat) : Int).toNat) (fun i σ H4 => ∃ (v5 v10 : Option V) (ls : List Str),
      σ = [some (.ref a), some (.int k), some (.ref r), some (.ref D), some (oV o), v5, v6, v7, v8, some (.ref ll), v10] ∧ ls.length = i ∧ (∀ (j : Nat) p l, (plc rs)[j]? = some p → ls[j]? = some l → Lo p l) ∧ Same H H4 ∧ Hs H H4 D hs xss ∧ H4 ll = some (.lst (ls.map V.str)))
      ⟨_, none, [], rfl, rfl, (fun _ _ _ _ z => by simp at z), sm3.put f0, S4, upd_same⟩ ?_ ?_⟩
    · rintro i σ H4 hi ⟨v5, v10, ls, rfl, hls, hlo, sm4, S5, hl4⟩
      have hi' : i < ps.length := by rw [Int.toNat_natCast, hrm] at hi; exact hi
      have hip : i < (plc rs).length := by lia
      have hpi : ps[i]? = some ((plc rs)[i]).1 := by rw [hps, List.getElem?_map, List.getElem?_eq_getElem hip]; rfl
      have hat : atI (ps.map V.str) (0 + (i : Int)) = some (.str ((plc rs)[i]).1) := at0 (by rw [List.getElem?_map, hpi]; rfl)
      have hpm2 : (plc rs)[i] ∈ plc rs := List.getElem_mem hip
      have hpg : (plc rs)[i]? = some (plc rs)[i] := List.getElem?_eq_getElem hip
      generalize (plc rs)[i] = pp at hat hpm2 hpg
      refine ⟨_, rfl, _, rfl, r, _, rfl, dget (sm4 _ _ h1) h2, _, rfl, _, _, _, _, rfl, rfl, SqL.of (sm4 _ _ h6), hat, r, d1, d2, pp.1, kvs, _, _, rfl, sm4 _ _ h1, h4, h5, sm4 _ _ h8, sm4 _ _ h9, fun l ys H5 s5 f5 e5 y1 y2 => ?_⟩
      have hym : (ys.map V.str).length = ys.length := List.length_map ..
      have hl5 := s5 _ _ hl4
      refine ⟨_, rfl, .inl ⟨rfl, _, SqL.of hl5⟩, _, rfl, _, rfl, _, rfl, _, _, rfl, rfl, _, rfl, _, _, rfl, rfl, _, rfl, _, _, rfl, .inl ⟨_, SqL.of e5, rfl⟩, a, ns, _, _, rfl, (sm4.trans s5).seq hS, hn, by lia, by lia, by lia, fun j j0 j1 => ?_⟩
      rw [hym] at j1
      obtain ⟨y, hy, hay⟩ := at_map (xs := ys) j0 j1
      refine ⟨_, _, _, _, rfl, rfl, SqL.of e5, hay, ll, _, _, rfl, rfl, hl5, by rw [List.length_map]; lia, ?_⟩
      have S6 := S5.same s5
      refine ⟨_, _, ls ++ [y], rfl, by simp [hls], fun j' p' l' hp' hl' => ?_, (sm4.trans s5).put f0, S6.off nD nH, by rw [upd_same]; simp⟩
      by_cases hj' : j' < ls.length
      · rw [List.getElem?_append_left hj'] at hl'
        exact hlo j' p' l' hp' hl'
      · have hlt := (List.getElem?_eq_some_iff.mp hl').1
        rw [List.length_append, List.length_singleton] at hlt
        have e : j' = ls.length := by lia
        subst e
        rw [List.getElem?_concat_length] at hl'
        cases hl'
        rw [hls, hpg] at hp'
        cases hp'
        exact Al.lo g hpm2 (y2 y hy)
    rintro σ H4 ⟨v5', v10, ls, rfl, hls, hlo, sm4, S5, hl4⟩
    have hls' : ls.length = ps.length := by rw [hls, Int.toNat_natCast, hrm]
    have hxp : xss.length = ps.length := by have := S5.len; lia
    -- the world's tuple
    refine ⟨_, rfl, _, rfl, D, rfl, ⟨_, SqL.of S5.lst⟩, fun D2 hD2 => ?_⟩
    refine lcJ (n := hs.length) (fun i ys H5 => RdVs H5 ys ((xss.take i).map dH) ∧ ys.length = i ∧ Same H4 H5 ∧ H5 D2 = some (.lst ys)) ⟨.nil, rfl, Same.new hD2, upd_same⟩
      (fun i ys H5 hi hh0 => by obtain ⟨_, _, s5, _⟩ := hh0; exact ⟨_, .ref hs[i], SqL.of (s5 _ _ S5.lst), by simp [hi]⟩) (fun ys H5 hh0 => by obtain ⟨_, _, s5, _⟩ := hh0; exact ⟨_, SqL.of (s5 _ _ S5.lst), by simp⟩) ?_ ?_
    · rintro i ys H5o x H5 hi ⟨hrd, hx2, s5, e5⟩ ⟨rfl, hx⟩
      have hxi := hx _ (SqL.of (s5 _ _ S5.lst))
      have hx' : x = .ref hs[i] := by
        rw [List.getElem?_map, List.getElem?_eq_getElem hi] at hxi
        exact (Option.some.inj hxi).symm
      subst hx'
      have hix : i < xss.length := by have := S5.len; lia
      have z3 := S5.at' i hs[i] xss[i] (List.getElem?_eq_getElem hi) (List.getElem?_eq_getElem hix)
      have htk : xss.take (i + 1) = xss.take i ++ [xss[i]] := List.take_succ_eq_append_getElem hix
      generalize xss[i] = zs at z3 htk
      refine lc_yes ?_
      refine ⟨_, rfl, _, _, rfl, .inl ⟨SqL.of (s5 _ _ z3), fun l hl => ⟨_, by rw [upd_ne (ne_of_none e5 hl)]; exact e5, by lia, ?_, by simp [hx2], (s5.trans (Same.new hl)).put hD2, upd_same⟩⟩⟩
      have lD : l ≠ D2 := (ne_of_none e5 hl).symm
      have kp : ∀ b us, H5 b = some (.tup us) → (upd (upd H5 l (.tup (zs.map V.str))) D2 (.lst (ys ++ [V.ref l]))) b = some (.tup us) := fun b us e => by
        rw [upd_ne (ne_of e e5 (by intro z; cases z)), upd_ne (ne_of_none e hl)]
        exact e
      rw [htk, List.map_append]
      exact (hrd.same kp).append (.cons (.tup (by rw [upd_ne lD]; exact upd_same) (RdVs.strs zs)) .nil)
    rintro ys H5 ⟨hrd, hx2, s5, e5⟩
    rw [List.take_of_length_le (by have := S5.len; lia)] at hrd
    refine ⟨_, _, rfl, .inl ⟨SqL.of e5, fun tp htp => ?_⟩⟩
    have e6 := s5 _ _ hl4
    refine ⟨_, rfl, _, _, rfl, .inl ⟨SqL.of (by rw [upd_ne (ne_of_none e6 htp)]; exact e6), fun tl htl => ⟨by show 3 ≤ sizeLine; decide, fun t ht => ?_⟩⟩⟩
    have s6 : Same H5 (upd H5 tp (.tup ys)) := Same.new htp
    have s7 : Same (upd H5 tp (.tup ys)) (upd (upd H5 tp (.tup ys)) tl (.tup (ls.map V.str))) := Same.new htl
    have s8 : Same (upd (upd H5 tp (.tup ys)) tl (.tup (ls.map V.str))) (upd (upd (upd H5 tp (.tup ys)) tl (.tup (ls.map V.str))) t (.tup [oV o, .ref tp, .ref tl])) := Same.new ht
    refine q (.ref t) ⟨o, xss, ls⟩ _ (((sm4.trans s5).trans s6).trans (s7.trans s8)) (whole upd_same (rd_oV o) (s8 _ _ (s7 _ _ upd_same)) (s8.rds (s7.rds (s6.rds hrd))) (s8 _ _ upd_same) (RdVs.strs ls)) ⟨?_, ?_⟩ ⟨?_, hlo⟩
    · show xss.length = _
      lia
    · show ls.length = _
      lia
    · rw [hts] at pm
      exact pm
end
end K12
namespace K12
open PySem L2 Tx Rk PyProof.Rows PySem.SeqAt
open PySem.PyData (strOk)
section
variable {P : Program} {w : World} {K : PySem.W.Frag} {mg : Str → Option Value} {base : Heap}
noncomputable def formsD : List PyData := [.tuple [.str "place", .int 2], .tuple [.str "box", .int 2], .tuple [.str "box", .int 3], .tuple [.str "thing", .int 3]]
structure Md (K : PySem.W.Frag) (mg : Str → Option Value) (aN aF : Addr) : Prop where
  letters : ∃ t, mg "LETTERS" = some (.str abc t)
  most : ∃ t, mg "MOST_LETTERS" = some (.int 8 t)
  mp : ∃ t, mg "MOST_PLACES" = some (.int 6 t)
  mt : ∃ t, mg "MOST_THINGS" = some (.int 6 t)
  nn : mg "NO_NAMES" = some (.ref aN)
  nv : ∀ H : Hp, SqT K H aN (fixedS.map V.str)
  ff : mg "FORMS" = some (.ref aF)
  fv : RdK K (.ref aF) (.tuple formsD)
inductive spIsName (vs : List V) (H : Hp) (Q : VK) (E0_ : XK) : Prop
  | mk (x : Str) (c0 : vs = [.str x]) (c1 : Nv x) (c2 : ∀ H' : Hp, Same H H' → Q (.bl true) H') : spIsName  vs H Q E0_
theorem scIsName : FnScope ["text"] ["text"] (defScope sIsName) := ⟨rfl, rfl, rfl, by decide +kernel, rfl, by decide +kernel, by decide +kernel⟩
inductive spReadLine (vs : List V) (H : Hp) (Q : VK) (E0_ : XK) : Prop
  | mk (ro : Ro) (c0 : vs = [.str ro.txt]) (c1 : ro.nv) (c2 : ∀ (l : Addr) (H' : Hp), Same H H' → H l = none → H' l = some (.lst (ro.words.map V.str)) → Q (.ref l) H') : spReadLine  vs H Q E0_
theorem scReadLine : FnScope ["line", "words", "word"] ["line"] (defScope sReadLine) := ⟨rfl, rfl, rfl, by decide +kernel, rfl, by decide +kernel, by decide +kernel⟩
noncomputable def RowsAt (H : Hp) : List Ro → List Addr → Prop := Paired fun ro a => H a = some (.lst (ro.words.map V.str))
theorem RowsAt.same {H H' : Hp} (s : Same H H') : ∀ {rs : List Ro} {ls : List Addr}, RowsAt H rs ls → RowsAt H' rs ls
  | _, _, .nil => .nil
  | _, _, .cons a b => .cons (s _ _ a) (RowsAt.same s b)
theorem RowsAt.keep {H H' : Hp} : ∀ {rs : List Ro} {ls : List Addr}, RowsAt H rs ls → (∀ a ∈ ls, ∀ o, H a = some o → H' a = some o) → RowsAt H' rs ls
  | _, _, .nil, _ => .nil
  | _, _, .cons a b, k => .cons (k _ List.mem_cons_self _ a) (RowsAt.keep b fun x hx => k x (List.mem_cons_of_mem _ hx))
theorem RowsAt.snoc {H : Hp} {ro : Ro} {a : Addr} (h : H a = some (.lst (ro.words.map V.str))) : ∀ {rs : List Ro} {ls : List Addr}, RowsAt H rs ls → RowsAt H (rs ++ [ro]) (ls ++ [a])
  | _, _, .nil => .cons h .nil
  | _, _, .cons x b => .cons x (RowsAt.snoc h b)
theorem RowsAt.length {H : Hp} {rs : List Ro} {ls : List Addr} (h : RowsAt H rs ls) : rs.length = ls.length := Paired.length h
theorem RowsAt.get {H : Hp} : ∀ {rs : List Ro} {ls : List Addr} {i : Nat} {a : Addr}, RowsAt H rs ls → ls[i]? = some a → ∃ ro, rs[i]? = some ro ∧ H a = some (.lst (ro.words.map V.str))
  | _, _, _, _, .nil, e => by simp at e
  | _, _, 0, _, .cons x _, e => by
    simp at e
    subst e
    exact ⟨_, rfl, x⟩
  | _, _, i + 1, _, .cons _ b, e => by
    obtain ⟨ro, h1, h2⟩ := RowsAt.get (i := i) b (by simpa using e)
    exact ⟨ro, by simpa using h1, h2⟩
inductive spReadRows (vs : List V) (H : Hp) (Q : VK) (E0_ : XK) : Prop
  | mk (a : Addr) (rs : List Ro) (c0 : vs = [.ref a]) (c1 : H a = some (.lst ((rs.map Ro.txt).map V.str))) (c2 : Good rs) (c3 : rs.length ≤ 12) (c4 : ∀ (l : Addr) (ls : List Addr) (H' : Hp), Same H H' → H' l = some (.lst (ls.map V.ref)) → RowsAt H' rs ls → Q (.ref l) H') : spReadRows  vs H Q E0_
theorem scReadRows : FnScope ["lines", "rows", "names"] ["lines"] (defScope sReadRows) := ⟨rfl, rfl, rfl, by decide +kernel, rfl, by decide +kernel, by decide +kernel⟩
inductive spReadThings (vs : List V) (H : Hp) (Q : VK) (E0_ : XK) : Prop
  | mk (a : Addr) (rs : List Ro) (ls : List Addr) (c0 : vs = [.ref a]) (c1 : H a = some (.lst (ls.map V.ref))) (c2 : RowsAt H rs ls) (c3 : Good rs) (c4 : ∀ (d : Addr) (H' : Hp), Same H H' → H d = none → H' d = some (.dK (shK rs)) → Q (.ref d) H') : spReadThings  vs H Q E0_
theorem scReadThings : FnScope ["rows", "shapes", "words"] ["rows"] (defScope sReadThings) := ⟨rfl, rfl, rfl, by decide +kernel, rfl, by decide +kernel, by decide +kernel⟩
noncomputable def oV' : Option Str → V
  | none => .non
  | some x => .str x
noncomputable def PlOk (H : Hp) : List (Str × Bool × Option Str) → List (Key × V) → Prop := Paired fun p kv => kv.1 = Sum.inr p.1 ∧ ∃ t, kv.2 = .ref t ∧ H t = some (.tup [.bl p.2.1, oV' p.2.2])
theorem PlOk.same {H H' : Hp} (s : ∀ b xs, H b = some (.tup xs) → H' b = some (.tup xs)) : ∀ {ps : List (Str × Bool × Option Str)} {kvs : List (Key × V)}, PlOk H ps kvs → PlOk H' ps kvs
  | _, _, .nil => .nil
  | _, _, .cons ⟨e, t, e2, e3⟩ b => .cons ⟨e, t, e2, s _ _ e3⟩ (PlOk.same s b)
theorem PlOk.snoc {H : Hp} {p : Str × Bool × Option Str} {t : Addr} (h : H t = some (.tup [.bl p.2.1, oV' p.2.2])) : ∀ {ps : List (Str × Bool × Option Str)} {kvs : List (Key × V)}, PlOk H ps kvs → PlOk H (ps ++ [p]) (kvs ++ [(Sum.inr p.1, .ref t)])
  | _, _, .nil => .cons ⟨rfl, t, rfl, h⟩ .nil
  | _, _, .cons x b => .cons x (PlOk.snoc h b)
theorem PlOk.length {H : Hp} {ps : List (Str × Bool × Option Str)} {kvs : List (Key × V)} (h : PlOk H ps kvs) : ps.length = kvs.length := Paired.length h
theorem PlOk.keys {H : Hp} : ∀ {ps : List (Str × Bool × Option Str)} {kvs : List (Key × V)}, PlOk H ps kvs → kvs.map (fun kv => kV kv.1) = (ps.map (·.1)).map V.str
  | _, _, .nil => rfl
  | _, _, .cons ⟨e, _⟩ b => by
    rw [List.map_cons, List.map_cons, List.map_cons, PlOk.keys b, e]
    rfl
theorem PlOk.none {H : Hp} {x : Str} : ∀ {ps : List (Str × Bool × Option Str)} {kvs : List (Key × V)}, PlOk H ps kvs → x ∉ ps.map (·.1) → valV kvs (Sum.inr x : Key) = .none
  | _, _, .nil, _ => rfl
  | _, _, .cons ⟨e, _⟩ b, h => by
    rw [valV_neg (fun z => h (by rw [e] at z; rw [← Sum.inr.inj z]; exact List.mem_cons_self))]
    exact PlOk.none b fun z => h (List.mem_cons_of_mem _ z)
theorem PlOk.get {H : Hp} : ∀ {ps : List (Str × Bool × Option Str)} {kvs : List (Key × V)} {i : Nat} {k : Key} {v : V}, PlOk H ps kvs → kvs[i]? = some (k, v) → ∃ p t, ps[i]? = some p ∧ v = .ref t ∧ H t = some (.tup [.bl p.2.1, oV' p.2.2])
  | _, _, _, _, _, .nil, e => by simp at e
  | _, _, 0, _, _, .cons ⟨e1, t, e2, e3⟩ _, e => by
    simp at e
    rw [e] at e2
    exact ⟨_, t, rfl, e2, e3⟩
  | _, _, i + 1, _, _, .cons _ b, e => by
    obtain ⟨p, t, h1, h2, h3⟩ := PlOk.get (i := i) b (by simpa using e)
    exact ⟨p, t, by simpa using h1, h2, h3⟩
inductive spReadPlaces (vs : List V) (H : Hp) (Q : VK) (E0_ : XK) : Prop
  | mk (a : Addr) (rs : List Ro) (ls : List Addr) (c0 : vs = [.ref a]) (c1 : H a = some (.lst (ls.map V.ref))) (c2 : RowsAt H rs ls) (c3 : Good rs) (c4 : ∀ (d : Addr) (kvs : List (Key × V)) (H' : Hp), Same H H' → H d = none → H' d = some (.dK kvs) → PlOk H' (plc rs) kvs → Q (.ref d) H') : spReadPlaces  vs H Q E0_
theorem scReadPlaces : FnScope ["rows", "places", "words"] ["rows"] (defScope sReadPlaces) := ⟨rfl, rfl, rfl, by decide +kernel, rfl, by decide +kernel, by decide +kernel⟩
inductive spCheckKeys (vs : List V) (H : Hp) (Q : VK) (E0_ : XK) : Prop
  | mk (d1 d2 : Addr) (rs : List Ro) (kvs : List (Key × V)) (c0 : vs = [.ref d1, .ref d2]) (c1 : H d1 = some (.dK kvs)) (c2 : PlOk H (plc rs) kvs) (c3 : H d2 = some (.dK (shK rs))) (c4 : d1 ≠ d2) (c5 : Good rs) (c6 : ∀ (o : Obj) (H' : Hp), (∀ b u, H b = some u → b ≠ d1 → H' b = some u) → H' d1 = some (.frz o (.dK kvs)) → Q .non H') : spCheckKeys  vs H Q E0_
theorem scCheckKeys : FnScope ["places", "shapes", "lid", "key"] ["places", "shapes"] (defScope sCheckKeys) := ⟨rfl, rfl, rfl, by decide +kernel, rfl, by decide +kernel, by decide +kernel⟩
noncomputable def rFlds (d1 d2 : Addr) : List (Str × V) := putF "told_shapes" (.ref d2) (putF "told_places" (.ref d1) [])
theorem rf_ne : ¬ (("told_places" : Str) = "told_shapes") := by decide +kernel
theorem rf_places (d1 d2 : Addr) : (rFlds d1 d2).lookup ("told_places" : Str) = some (.ref d1) := by
  unfold rFlds
  rw [lookup_putF, if_neg rf_ne, lookup_putF, if_pos rfl]
theorem rf_no (d1 d2 : Addr) {m : Str} (h1 : ¬ m = "told_shapes") (h2 : ¬ m = "told_places") : (rFlds d1 d2).lookup m = none := by
  unfold rFlds
  rw [lookup_putF, if_neg h1, lookup_putF, if_neg h2]
  rfl
inductive RoomAtE (C : Addr) (H : Hp) (x : Addr) (rs : List Ro) : Prop
  | mk (dx d1 d2 : Addr) (o : Obj) (kvs : List (Key × V)) (c0 : H x = some (.ins C dx (rFlds d1 d2))) (c1 : H d1 = some (.frz o (.dK kvs))) (c2 : PlOk H (plc rs) kvs) (c3 : H d2 = some (.dK (shK rs))) : RoomAtE C H x rs
structure RoomAt (C : Addr) (H : Hp) (x : Addr) (rs : List Ro) : Prop where
  ex : RoomAtE C H x rs
theorem RoomAt.same {C : Addr} {H H' : Hp} {x : Addr} {rs : List Ro} (R : RoomAt C H x rs) (s : Same H H') : RoomAt C H' x rs := by
  obtain ⟨dx, d1, d2, o, kvs, h1, h2, h3, h4⟩ := R.ex
  exact ⟨dx, d1, d2, o, kvs, s _ _ h1, s _ _ h2, h3.same fun b xs e => s _ _ e, s _ _ h4⟩
structure Cl (K : PySem.W.Frag) (C : Addr) : Prop where
  cl : Cls K C
  nP : NoAttr K C "told_places"
  nS : NoAttr K C "told_shapes"
inductive spInit (C : Addr) (vs : List V) (H : Hp) (Q : VK) (E0_ : XK) : Prop
  | mk (x dx a : Addr) (rs : List Ro) (c0 : vs = [.ref x, .ref a]) (c1 : H x = some (.ins C dx [])) (c2 : H a = some (.lst ((rs.map Ro.txt).map V.str))) (c3 : Good rs) (c4 : rs.length ≤ 12) (c5 : ∀ H' : Hp, (∀ b u, H b = some u → b ≠ x → H' b = some u) → RoomAt C H' x rs → Q .non H') : spInit C vs H Q E0_
theorem scInit : FnScope ["self", "lines", "rows", "places", "shapes"] ["self", "lines"] (defScope sInit) := ⟨rfl, rfl, rfl, by decide +kernel, rfl, by decide +kernel, by decide +kernel⟩
inductive spPlaces (C : Addr) (vs : List V) (H : Hp) (Q : VK) (E0_ : XK) : Prop
  | mk (x : Addr) (rs : List Ro) (c0 : vs = [.ref x]) (c1 : RoomAt C H x rs) (c2 : ∀ (l : Addr) (H' : Hp), Same H H' → H l = none → H' l = some (.lst (((plc rs).map (·.1)).map V.str)) → Q (.ref l) H') : spPlaces C vs H Q E0_
theorem scPlaces : FnScope ["self"] ["self"] (defScope sPlaces) := ⟨rfl, rfl, rfl, by decide +kernel, rfl, by decide +kernel, by decide +kernel⟩
theorem for_vals {a : Addr} {o : Obj} {kvs : List (Key × V)} {g : TG} {tb : TS} {D : Ends} {σ : L2.St} {H : Hp} (Pv : Nat → L2.St → Hp → Prop) (h0 : Pv 0 σ H) (hl : ∀ i σ H, i ≤ kvs.length → Pv i σ H → H a = some (.frz o (.dK kvs)))
    (hs : ∀ i k x σ H, kvs[i]? = some (k, x) → Pv i σ H → g x σ H fun σ2 H2 => tb { D with nx := Pv (i + 1), ct := Pv (i + 1), bk := D.nx } σ2 H2) (hd : ∀ σ H, Pv kvs.length σ H → D.nx σ H) :
    ∃ W : Nat → Nat → L2.St → Hp → Prop, (∃ m, W 0 m σ H) ∧ ∀ i m σ H, W i m σ H →
      ((Itv a o kvs).stop i H ∧ D.nx σ H) ∨ ((Itv a o kvs).go i H ∧ ∃ N : L2.St → Hp → Prop, (∀ σ' H', N σ' H' → ∃ m', m' < m ∧ W (i + 1) m' σ' H') ∧ ∀ x H', (Itv a o kvs).yld i H x H' → g x σ H' fun σ2 H2 => tb { D with nx := N, ct := N, bk := D.nx } σ2 H2) := by
  refine ⟨fun i m σ H => m = kvs.length - i ∧ i ≤ kvs.length ∧ Pv i σ H, ⟨kvs.length, by simp, Nat.zero_le _, h0⟩, ?_⟩
  rintro i m σ H ⟨rfl, hi, p⟩
  have q := hl i σ H hi p
  by_cases hlt : i < kvs.length
  · refine .inr ⟨⟨hlt, q⟩, Pv (i + 1), fun σ' H' p' => ⟨kvs.length - (i + 1), by lia, rfl, hlt, p'⟩, fun x H' y => ?_⟩
    obtain ⟨e, k, y⟩ := y
    subst e
    exact hs i k x σ _ y p
  · have e : i = kvs.length := by lia
    subst e
    exact .inl ⟨⟨Nat.le_refl _, q⟩, hd σ H p⟩
end
end K12
namespace K12
open PySem L2 Tx Rk PyProof.Rows PySem.SeqAt
open PySem.PyData (strOk)
section
variable {P : Program} {w : World} {K : PySem.W.Frag} {mg : Str → Option Value} {base : Heap}
theorem ok_isname {f aN aF : Addr} {fd : FuncData} (F : Fun K "is_name" "is_name" sIsName f fd) (T : Bl mg) (M : Md K mg aN aF) : FnOk P w K mg base CX0 1 f fd ["text"] spIsName := by
  obtain ⟨t1, m1⟩ := M.letters
  obtain ⟨t2, m2⟩ := M.most
  refine F.ok scIsName (fun vs H Q E h => ?_) (fun cdv A outer s H vs Q E hr h => ?_)
  · obtain ⟨x, rfl, _⟩ := h
    rfl
  · obtain ⟨x, rfl, hx, q⟩ := h
    have hsl : sizeLine = 16777216 := sizeLine_eq
    have hl := hx.len
    have hp := hx.pos
    refine ⟨_, pss_cons (ps_if (PW.pt (pw_or (pt_cmpR op_eq (pv 0) pe_str (nomark _)) (pw_or (pt_cmpR op_gt (pe_callB call_len (by rfl) T.len PySem.boot_len (pa_cons (pv 0) pa_nil)) (pe_glob (v := .int 8) (by rfl) m2 ⟨_, rfl⟩) (nomark _))
        (pw_or1 (pt_cmpR op_in_seq (pv 0) (pe_glob (v := .ref aN) (by rfl) M.nn rfl) (by rfl)))))) (pss_one (ps_ret pe_bl)) pss_nil)
      (pss_one (ps_ret (pe_callB (call_all rfl) (by rfl) T.all bt_all (pa_cons (pe_lc (N := ["sign"]) (sc := defScope sIsName) (own := ["sign"]) (fr := []) (js := []) ⟨rfl, rfl, rfl, rfl, by decide +kernel, by decide +kernel, by decide +kernel, rfl, by decide +kernel⟩ rfl (pi_str (pv 0))
        (fun _ _ _ _ => pg_name (i := 0) (show List.Nodup (["sign"] : List Str) by decide +kernel) rfl (Or.inl rfl)) (fun _ _ _ _ => pif_nil) (fun _ _ _ _ => pe_cmpR op_in_str (pv 0) (pe_glob (v := .str abc) (by rfl) m1 ⟨_, rfl⟩) (by rfl))) pa_nil)))), ?_⟩
    refine ⟨_, rfl, rfl, _, rfl, ?_⟩
    refine ite2 (fun he => ?_) (fun _ => ?_)
    · exfalso
      have e := V.str.inj (of_decide_eq_true he)
      rw [e] at hp
      exact absurd hp (by decide +kernel)
    refine ⟨_, rfl, _, _, rfl, ⟨by lia, rfl⟩, _, _, rfl, rfl, _, rfl, ?_⟩
    refine ite2 (fun he => ?_) (fun _ => ?_)
    · exfalso
      have := of_decide_eq_true he
      lia
    refine ⟨_, rfl, aN, _, rfl, .inr (M.nv H), rfl, flat_strs _, _, rfl, ?_⟩
    refine ite2 (fun he => ?_) (fun _ => ?_)
    · exfalso
      have he' : inV (.str x) (fixedS.map V.str) = true := he
      rw [inV_strs] at he'
      exact hx.fix (of_decide_eq_true he')
    refine ⟨_, rfl, x, rfl, hx.ascii, fun D hD => ?_⟩
    refine lcJ (n := x.cps.size) (fun i ys H2 => ys = List.replicate i (V.bl true) ∧ Same H H2 ∧ H2 D = some (.lst ys)) ⟨rfl, Same.new hD, upd_same⟩ (fun i _ _ hi _ => hi) (fun _ _ _ => Nat.le_refl _) ?_ ?_
    · rintro i ys H2 v H3 hi ⟨rfl, sm, hD2⟩ ⟨rfl, c, hc, rfl⟩
      refine lc_yes ?_
      have hcm : c ∈ cs x := by
        have := List.mem_of_getElem? (l := x.cps.toList) (i := i) (a := c) (by simpa using hc)
        exact this
      have hcl := hx.low c hcm
      have hxz : x.cps.size ≤ 8 := hl
      refine ⟨_, rfl, _, _, rfl, rfl, _, hD2, by rw [List.length_replicate]; lia, ?_, sm.put hD, upd_same⟩
      rw [in_abc hcl.1 hcl.2, List.replicate_succ']
    · rintro ys H2 ⟨rfl, sm, hD2⟩
      refine ⟨D, List.replicate x.cps.size true, rfl, SqL.of (by rw [hD2, List.map_replicate]), ?_⟩
      have e : (List.replicate x.cps.size true).all (fun b => b) = true := by
        rw [List.all_eq_true]
        intro b hb
        exact (List.mem_replicate.mp hb).2
      rw [e]
      exact q H2 sm
end
end K12
namespace K12
open PySem L2 Tx Rk PyProof.Rows PySem.SeqAt
open PySem.PyData (strOk)
section
variable {P : Program} {w : World} {K : PySem.W.Frag} {mg : Str → Option Value} {base : Heap}
theorem ok_readline {f fI aN aF : Addr} {fd fdI : FuncData} (F : Fun K "read_line" "read_line" sReadLine f fd) (DI : Df K mg "is_name" sIsName ["text"] fI fdI) (T : Bl mg) (M : Md K mg aN aF) (GI : FnOk P w K mg base CX0 1 fI fdI ["text"] spIsName) : FnOk P w K mg base CX0 2 f fd ["line"] spReadLine := by
  refine F.ok scReadLine (fun vs H Q E h => ?_) (fun cdv A outer s H vs Q E hr h => ?_)
  · obtain ⟨ro, rfl, _⟩ := h
    rfl
  · obtain ⟨ro, rfl, hv, q⟩ := h
    have hun : (A.deeper (envOfC "read_line" (defScope sReadLine) s.heap.objs.size f cdv)).units + 65 < cLine := by have := hr.un; lia
    have hsl : sizeLine = 16777216 := sizeLine_eq
    have hll := txt_len hv
    refine ⟨_, pss_cons (ps_set (i := 1) scReadLine.nd rfl (Or.inl rfl) (pe_bm PySem.F.plainAttrs_str PySem.F.slot_str_split PySem.F.type_str_split mt_split (pv 0) (pa_cons pe_str pa_nil)))
      (pss_cons (ps_if (pt_cmpR (op_notinD hun) (pe_tup (pa_cons (pe_ix ix_list (pv 1) pe_int (fun _ _ => rfl)) (pa_cons (pe_callB call_len (by rfl) T.len PySem.boot_len (pa_cons (pv 1) pa_nil)) pa_nil))) (pe_glob (v := .ref aF) (by rfl) M.ff rfl) (by rfl)) pss_never pss_nil)
      (pss_cons (ps_for PassesOwn.never rfl (pi_list (pe_slice sl_list (pv 1) (po_some pe_int) po_none)) (pg_name (i := 2) scReadLine.nd rfl (Or.inl rfl))
        (pss_one (ps_if (pt_not (pt_val (pe_call GI hr (by rfl) DI.m DI.F.kp DI.b .nil pass0 (pa_cons (pv 2) pa_nil)))) pss_never pss_nil)))
      (pss_one (ps_ret (pv 1))))), ?_⟩
    refine ⟨_, rfl, rfl, _, _, rfl, rfl, by decide +kernel, by lia, fun l hl => ?_⟩
    rw [show Txt.split ro.txt (Str.ofString " ") = ro.words from split_txt hv]
    have s1 : Same H (upd H l (.lst (ro.words.map V.str))) := Same.new hl
    have e1 : (upd H l (.lst (ro.words.map V.str))) l = some (.lst (ro.words.map V.str)) := upd_same
    generalize upd H l (.lst (ro.words.map V.str)) = H1 at s1 e1 ⊢
    obtain ⟨w0, rest, ew⟩ : ∃ w0 rest, ro.words = w0 :: rest := by cases ro <;> exact ⟨_, _, rfl⟩
    have hat : atI (ro.words.map V.str) ((0 : Nat) : Int) = some (.str w0) := atI_nat (by rw [ew]; rfl)
    refine ⟨_, rfl, l, _, _, _, rfl, rfl, SqL.of e1, hat, _, rfl, _, _, rfl, .inl ⟨_, SqL.of e1, rfl⟩, by show 2 ≤ sizeLine; decide, fun p hp => ?_⟩
    have s2 : Same H1 (upd H1 p (.tup [.str w0, .int ((ro.words.map V.str).length : Nat)])) := Same.new hp
    have hwl : (ro.words.map V.str).length = ro.words.length := List.length_map ..
    refine ⟨.tuple [.str w0, .int (ro.words.length : Nat)], formsD, .tup (by rw [upd_same, hwl]) (.cons (.str w0) (.cons (.int _) .nil)), M.fv, ?_, by decide +kernel, _, rfl, ?_⟩
    · cases ro with
      | pl n => cases ew; exact (by decide +kernel : shaped (PyData.tuple [PyData.str "place", PyData.int ((2 : Nat) : Int)]) = true)
      | bx n => cases ew; exact (by decide +kernel : shaped (PyData.tuple [PyData.str "box", PyData.int ((2 : Nat) : Int)]) = true)
      | lk n k => cases ew; exact (by decide +kernel : shaped (PyData.tuple [PyData.str "box", PyData.int ((3 : Nat) : Int)]) = true)
      | th n k => cases ew; exact (by decide +kernel : shaped (PyData.tuple [PyData.str "thing", PyData.int ((3 : Nat) : Int)]) = true)
    have hany : (formsD.any fun e => PyData.eqv e (.tuple [.str w0, .int (ro.words.length : Nat)])) = true := by
      cases ro with
      | pl n => cases ew; exact (by decide +kernel : (formsD.any fun e => PyData.eqv e (.tuple [.str "place", .int ((2 : Nat) : Int)])) = true)
      | bx n => cases ew; exact (by decide +kernel : (formsD.any fun e => PyData.eqv e (.tuple [.str "box", .int ((2 : Nat) : Int)])) = true)
      | lk n k => cases ew; exact (by decide +kernel : (formsD.any fun e => PyData.eqv e (.tuple [.str "box", .int ((3 : Nat) : Int)])) = true)
      | th n k => cases ew; exact (by decide +kernel : (formsD.any fun e => PyData.eqv e (.tuple [.str "thing", .int ((3 : Nat) : Int)])) = true)
    rw [hany]
    refine iteF ?_
    -- each word behind the first
    have s12 := s1.trans s2
    generalize (upd H1 p (.tup [.str w0, .int ((ro.words.map V.str).length : Nat)])) = H2 at s2 s12 ⊢
    have e2 := s2 _ _ e1
    refine ⟨_, rfl, _, rfl, l, _, rfl, SqL.of e2, fun z hz => ?_⟩
    have s3 : Same H2 (upd H2 z (.lst (cutV (ro.words.map V.str) (some 1) none))) := Same.new hz
    have hcut : cutV (ro.words.map V.str) (some ((1 : Nat) : Int)) none = (ro.words.drop 1).map V.str := by
      unfold cutV
      rw [HT.sIx_none, HT.sIx_nat, hwl, ew, List.length_cons, Nat.min_eq_left (by lia), List.map_drop]
      refine List.take_of_length_le ?_
      simp
    have e3 : (upd H2 z (.lst (cutV (ro.words.map V.str) (some 1) none))) z = some (.lst ((ro.words.drop 1).map V.str)) := by rw [upd_same]; exact congrArg (fun x => some (HO.lst x)) hcut
    generalize upd H2 z (.lst (cutV (ro.words.map V.str) (some 1) none)) = H3 at s3 e3 ⊢
    have hnm : ∀ x ∈ ro.words.drop 1, Nv x := fun x hx => by
      cases ro with
      | pl n => rw [List.mem_singleton.mp hx]; exact hv
      | bx n => rw [List.mem_singleton.mp hx]; exact hv
      | lk n k =>
        rcases List.mem_cons.mp hx with e | e
        · rw [e]; exact hv.1
        · rw [List.mem_singleton.mp e]; exact hv.2
      | th n k =>
        rcases List.mem_cons.mp hx with e | e
        · rw [e]; exact hv.1
        · rw [List.mem_singleton.mp e]; exact hv.2
    refine ⟨z, rfl, ⟨_, SqL.of e3⟩, for_list (K := K) (a := z) (xs := (ro.words.drop 1).map V.str) (fun i σ H4 => ∃ v2 : Option V, σ = [some (.str ro.txt), some (.ref l), v2] ∧ Same H3 H4) ⟨none, rfl, Same.refl _⟩ (fun i σ H4 _ hh0 => by obtain ⟨_, _, s4⟩ := hh0; exact SqL.of (s4 _ _ e3)) ?_ ?_⟩
    · rintro i x σ H4 hx ⟨v2, rfl, s4⟩
      rw [List.getElem?_map] at hx
      cases e : (ro.words.drop 1)[i]? with
      | none => rw [e] at hx; cases hx
      | some y =>
        rw [e] at hx
        cases hx
        refine ⟨_, rfl, y, rfl, hnm y (List.mem_of_getElem? e), fun H5 s5 => ⟨_, rfl, ?_⟩⟩
        refine iteF ?_
        exact ⟨_, rfl, s4.trans s5⟩
    · rintro σ H4 ⟨v2, rfl, s4⟩
      have s34 := s3.trans s4
      exact ⟨_, rfl, q l H4 (s12.trans s34) hl (s34 _ _ e2)⟩
end
end K12
namespace K12
open PySem L2 Tx Rk PyProof.Rows PySem.SeqAt
open PySem.PyData (strOk)
section
variable {P : Program} {w : World} {K : PySem.W.Frag} {mg : Str → Option Value} {base : Heap}
theorem ok_readrows {f fR : Addr} {fd fdR : FuncData} (F : Fun K "read_rows" "read_rows" sReadRows f fd) (DR : Df K mg "read_line" sReadLine ["line"] fR fdR) (T : Bl mg) (GR : FnOk P w K mg base CX0 2 fR fdR ["line"] spReadLine) : FnOk P w K mg base CX0 3 f fd ["lines"] spReadRows := by
  refine F.ok scReadRows (fun vs H Q E h => ?_) (fun cdv A outer s H vs Q E hr h => ?_)
  · obtain ⟨a, rs, rfl, _⟩ := h
    rfl
  · obtain ⟨a, rs, rfl, ha, g, hrl, q⟩ := h
    have hsl : sizeLine = 16777216 := sizeLine_eq
    refine ⟨_, pss_cons (ps_lc (i := 1) (N := ["line"]) (sc := defScope sReadRows) (own := ["line"]) (fr := []) (js := []) scReadRows.nd rfl rfl ⟨rfl, rfl, rfl, rfl, by decide +kernel, by decide +kernel, by decide +kernel, rfl, by decide +kernel⟩ rfl (pi_list (pv 0))
        (fun _ _ _ _ => pg_name (i := 0) (show List.Nodup (["line"] : List Str) by decide +kernel) rfl (Or.inl rfl)) (fun _ _ _ _ => pif_nil) (fun _ _ _ _ => pe_call GR hr (by rfl) DR.m DR.F.kp DR.b .nil pass0 (pa_cons (pv 0) pa_nil)))
      (pss_cons (ps_lc (i := 2) (N := ["words"]) (sc := defScope sReadRows) (own := ["words"]) (fr := []) (js := []) scReadRows.nd rfl rfl ⟨rfl, rfl, rfl, rfl, by decide +kernel, by decide +kernel, by decide +kernel, rfl, by decide +kernel⟩ rfl (pi_list (pv 1))
        (fun _ _ _ _ => pg_name (i := 0) (show List.Nodup (["words"] : List Str) by decide +kernel) rfl (Or.inl rfl)) (fun _ _ _ _ => pif_nil) (fun _ _ _ _ => pe_ix (ix_listK K rfl) (pv 0) pe_int (fun _ _ => rfl)))
      (pss_cons (ps_if (pt_cmpR op_lt (pe_callB call_lenS (by rfl) T.len PySem.boot_len (pa_cons (pe_callTy (call_setK rfl) (by rfl) T.set bt_set (pa_cons (pv 2) pa_nil)) pa_nil)) (pe_callB call_len (by rfl) T.len PySem.boot_len (pa_cons (pv 2) pa_nil)) (nomark _)) pss_never pss_nil)
      (pss_one (ps_ret (pv 1))))), ?_⟩
    refine ⟨_, rfl, a, rfl, ⟨_, SqL.of ha⟩, fun D hD => ?_⟩
    refine lcJ (n := rs.length) (fun i ys H2 => ∃ ls : List Addr, ys = ls.map V.ref ∧ RowsAt H2 (rs.take i) ls ∧ (∀ l ∈ ls, l ≠ D) ∧ Same H H2 ∧ H2 D = some (.lst ys)) ⟨[], rfl, .nil, (fun _ z => nomatch z), Same.new hD, upd_same⟩
      (fun i ys H2 hi hh0 => by obtain ⟨_, _, _, _, s2, _⟩ := hh0; exact ⟨_, .str rs[i].txt, SqL.of (s2 _ _ ha), by simp [hi]⟩) (fun ys H2 hh0 => by obtain ⟨_, _, _, _, s2, _⟩ := hh0; exact ⟨_, SqL.of (s2 _ _ ha), by simp⟩) ?_ ?_
    · rintro i ys H2 x H3 hi ⟨ls, rfl, ra, nD, s2, e2⟩ ⟨rfl, hx⟩
      refine lc_yes ?_
      have hx1 := hx _ (SqL.of (s2 _ _ ha))
      have hx2 : x = .str rs[i].txt := by
        rw [List.getElem?_map, List.getElem?_map, List.getElem?_eq_getElem hi] at hx1
        exact (Option.some.inj hx1).symm
      subst hx2
      refine ⟨_, rfl, rs[i], rfl, g.nv _ (List.getElem_mem hi), fun l H4 s4 fl el => ?_⟩
      have lD : l ≠ D := (ne_of_none e2 fl).symm
      have hlen := ra.length
      rw [List.length_take] at hlen
      refine ⟨_, s4 _ _ e2, by rw [List.length_map]; lia, ls ++ [l], by simp, ?_, fun z hz => ?_, (s2.trans s4).put hD, upd_same⟩
      · rw [List.take_succ_eq_append_getElem hi]
        refine RowsAt.snoc (by rw [upd_ne lD]; exact el) (ra.keep fun b hb o e => ?_)
        rw [upd_ne (nD b hb)]
        exact s4 _ _ e
      · rcases List.mem_append.mp hz with hz | hz
        · exact nD z hz
        · rw [List.mem_singleton.mp hz]; exact lD
    rintro ys H2 ⟨ls, rfl, ra, nD, s2, e2⟩
    rw [List.take_length] at ra
    have hlen := ra.length
    -- the names
    refine ⟨_, rfl, D, rfl, ⟨_, SqL.of e2⟩, fun D2 hD2 => ?_⟩
    refine lcJ (n := rs.length) (fun i ys H3 => ys = ((rs.take i).map Ro.name).map V.str ∧ Same H2 H3 ∧ H3 D2 = some (.lst ys)) ⟨rfl, Same.new hD2, upd_same⟩
      (fun i ys H3 hi hh0 => by obtain ⟨_, s3, _⟩ := hh0; exact ⟨_, .ref (ls[i]'(by lia)), SqL.of (s3 _ _ e2), by simp [show i < ls.length by lia]⟩) (fun ys H3 hh0 => by obtain ⟨_, s3, _⟩ := hh0; exact ⟨_, SqL.of (s3 _ _ e2), by simp; lia⟩) ?_ ?_
    · rintro i ys H3 x H4 hi ⟨rfl, s3, e3⟩ ⟨rfl, hx⟩
      refine lc_yes ?_
      have hx1 := hx _ (SqL.of (s3 _ _ e2))
      have hil : i < ls.length := by lia
      rw [List.getElem?_map, List.getElem?_eq_getElem hil] at hx1
      have hx2 : x = .ref ls[i] := (Option.some.inj hx1).symm
      subst hx2
      obtain ⟨ro, h1, h2⟩ := ra.get (List.getElem?_eq_getElem hil)
      have hat : atI (ro.words.map V.str) ((1 : Nat) : Int) = some (.str ro.name) := atI_nat (by cases ro <;> rfl)
      refine ⟨_, rfl, ls[i], _, _, _, rfl, rfl, SqL.of (s3 _ _ h2), hat, _, e3, by rw [List.length_map, List.length_map, List.length_take]; lia, ?_, s3.put hD2, upd_same⟩
      have hro : rs[i] = ro := (List.getElem?_eq_some_iff.mp h1).2
      rw [List.take_succ_eq_append_getElem hi, List.map_append, List.map_append, hro]
      rfl
    rintro ys H3 ⟨rfl, s3, e3⟩
    rw [List.take_length] at e3
    have ek : (rs.map Ro.name).map V.str = ((rs.map Ro.name).map (Sum.inr : Str → Key)).map kV := by
      rw [List.map_map, List.map_map, List.map_map]
      rfl
    have hkl : ((rs.map Ro.name).map (Sum.inr : Str → Key)).length = rs.length := by rw [List.length_map, List.length_map]
    refine ⟨_, rfl, D2, (rs.map Ro.name).map Sum.inr, rfl, SqL.of (by rw [← ek]; exact e3), by lia, fun st hst => ?_⟩
    have hdd : (SK.dd (kAt ((rs.map Ro.name).map (Sum.inr : Str → Key))) ((rs.map Ro.name).map (Sum.inr : Str → Key)).length).length = rs.length := by
      rw [SK.dd_full (n := rs.length) (fun i j hi hj e => ?_) _ (by lia), hkl]
      have ei : kAt ((rs.map Ro.name).map (Sum.inr : Str → Key)) i = Sum.inr ((rs.map Ro.name)[i]'(by rw [List.length_map]; exact hi)) := by simp [kAt, List.getD, hi]
      have ej : kAt ((rs.map Ro.name).map (Sum.inr : Str → Key)) j = Sum.inr ((rs.map Ro.name)[j]'(by rw [List.length_map]; exact hj)) := by simp [kAt, List.getD, hj]
      rw [ei, ej] at e
      exact (List.getElem_inj g.nd).mp (Sum.inr.inj e)
    have s4 : Same H3 (upd H3 st (setO P w st (SK.dd (kAt ((rs.map Ro.name).map (Sum.inr : Str → Key))) ((rs.map Ro.name).map (Sum.inr : Str → Key)).length).length)) := Same.new hst
    refine ⟨st, _, rfl, upd_same, _, rfl, _, _, rfl, .inl ⟨_, SqL.of (s4 _ _ e3), rfl⟩, _, _, rfl, rfl, _, rfl, ?_⟩
    rw [hdd] at s4 ⊢
    refine ite2 (fun hlt => ?_) (fun _ => ?_)
    · exfalso
      have := of_decide_eq_true hlt
      rw [List.length_map, List.length_map] at this
      lia
    · have s24 := s3.trans s4
      exact ⟨_, rfl, q D ls _ (s2.trans s24) (s24 _ _ e2) (ra.same s24)⟩
end
end K12
namespace K12
open PySem L2 Tx Rk PyProof.Rows PySem.SeqAt
open PySem.PyData (strOk)
section
variable {P : Program} {w : World} {K : PySem.W.Frag} {mg : Str → Option Value} {base : Heap}
theorem ok_things {f aN aF : Addr} {fd : FuncData} (F : Fun K "read_things" "read_things" sReadThings f fd) (T : Bl mg) (M : Md K mg aN aF) : FnOk P w K mg base CX0 1 f fd ["rows"] spReadThings := by
  obtain ⟨t1, m1⟩ := M.mt
  refine F.ok scReadThings (fun vs H Q E h => ?_) (fun cdv A outer s H vs Q E hr h => ?_)
  · obtain ⟨a, rs, ls, rfl, _⟩ := h
    rfl
  · obtain ⟨a, rs, ls, rfl, ha, ra, g, q⟩ := h
    have hu := hu_of hr
    have hsl : sizeLine = 16777216 := sizeLine_eq
    have hft := g.fewT
    have hlen := ra.length
    refine ⟨_, pss_cons (ps_set (i := 1) scReadThings.nd rfl (Or.inl rfl) pe_dnewK)
      (pss_cons (ps_for PassesOwn.never rfl (pi_list (pv 0)) (pg_name (i := 2) scReadThings.nd rfl (Or.inl rfl))
        (pss_one (ps_if (pt_cmpR op_eq (pe_ix ix_list (pv 2) pe_int (fun _ _ => rfl)) pe_str (nomark _)) (pss_one (ps_dput hu (pv 1) (pe_ix ix_list (pv 2) pe_int (fun _ _ => rfl)) (pe_ix ix_list (pv 2) pe_int (fun _ _ => rfl)) rfl)) pss_nil)))
      (pss_cons (ps_if (pt_cmpR op_gt (pe_callB call_lenD (by rfl) T.len PySem.boot_len (pa_cons (pv 1) pa_nil)) (pe_glob (v := .int 6) (by rfl) m1 ⟨_, rfl⟩) (nomark _)) pss_never pss_nil)
      (pss_one (ps_ret (pv 1))))), ?_⟩
    intro d hd
    have s0 : Same H (upd H d (.dK [])) := Same.new hd
    refine ⟨_, rfl, a, rfl, ⟨_, SqL.of (s0 _ _ ha)⟩, for_list (K := K) (a := a) (xs := ls.map V.ref) (fun i σ H2 => ∃ v2 : Option V, σ = [some (.ref a), some (.ref d), v2] ∧ Same H H2 ∧ H2 d = some (.dK (shK (rs.take i)))) ⟨none, rfl, s0, upd_same⟩
      (fun i σ H2 _ hh0 => by obtain ⟨_, _, s2, _⟩ := hh0; exact SqL.of (s2 _ _ ha)) ?_ ?_⟩
    · rintro i x σ H2 hx ⟨v2, rfl, s2, e2⟩
      rw [List.getElem?_map] at hx
      cases el : ls[i]? with
      | none => rw [el] at hx; cases hx
      | some l =>
        rw [el] at hx
        cases hx
        obtain ⟨ro, h1, h2⟩ := ra.get el
        have hi : i < rs.length := (List.getElem?_eq_some_iff.mp h1).1
        have hro : rs[i] = ro := (List.getElem?_eq_some_iff.mp h1).2
        have htk : rs.take (i + 1) = rs.take i ++ [ro] := by rw [List.take_succ_eq_append_getElem hi, hro]
        have hw := s2 _ _ h2
        obtain ⟨w0, w1, rest, ew⟩ : ∃ w0 w1 rest, ro.words = w0 :: w1 :: rest := by cases ro <;> exact ⟨_, _, _, rfl⟩
        have at0 : atI (ro.words.map V.str) ((0 : Nat) : Int) = some (.str w0) := atI_nat (by rw [ew]; rfl)
        refine ⟨_, rfl, l, _, _, _, rfl, rfl, SqL.of hw, at0, rfl, _, rfl, ?_⟩
        refine ite2 (fun he => ?_) (fun he => ?_)
        · have e0 := V.str.inj (of_decide_eq_true he)
          obtain ⟨n, sp, rfl⟩ : ∃ n s, ro = .th n s := by
            cases ro with
            | th n s => exact ⟨n, s, rfl⟩
            | pl n => cases ew; exact absurd e0 (by decide +kernel)
            | bx n => cases ew; exact absurd e0 (by decide +kernel)
            | lk n k => cases ew; exact absurd e0 (by decide +kernel)
          have at1 : atI ((Ro.th n sp).words.map V.str) ((1 : Nat) : Int) = some (.str n) := atI_nat rfl
          have at2 : atI ((Ro.th n sp).words.map V.str) ((2 : Nat) : Int) = some (.str sp) := atI_nat rfl
          have hsh : (shK (rs.take i)).length ≤ 6 := by
            have : (ths rs).length = (ths (rs.take i)).length + (ths (rs.drop i)).length := by rw [← List.length_append, ← ths_app, List.take_append_drop]
            unfold shK
            rw [List.length_map]
            lia
          refine ⟨_, rfl, l, _, _, _, rfl, rfl, SqL.of hw, at2, _, rfl, _, rfl, l, _, _, _, rfl, rfl, SqL.of hw, at1, d, _, rfl, DPut.k (k := (Sum.inr n : Key)) e2 (by lia), ?_⟩
          have hnone : valV (shK (rs.take i)) (Sum.inr n : Key) = none := by
            have hnd : ((rs.take (i + 1)).map Ro.name).Nodup := by
              rw [List.map_take]
              exact List.Sublist.nodup (List.take_sublist _ _) g.nd
            rw [htk, List.map_append] at hnd
            cases hv : valV (shK (rs.take i)) (Sum.inr n : Key) with
            | none => rfl
            | some v =>
              exfalso
              have hm := valV_in hv
              unfold shK at hm
              rw [List.map_map] at hm
              obtain ⟨z, hz, ez⟩ := List.mem_map.mp hm
              have ez' : z.1 = n := Sum.inr.inj ez
              have hmn : n ∈ (rs.take i).map Ro.name := mem_ths_name (List.mem_map.mpr ⟨z, hz, ez'⟩)
              exact (List.nodup_append.mp hnd).2.2 n hmn n (List.mem_singleton.mpr rfl) rfl
          rw [putK_new _ hnone]
          refine ⟨_, rfl, s2.put hd, ?_⟩
          rw [upd_same, htk]
          unfold shK
          rw [ths_app, List.map_append]
          rfl
        · refine ⟨_, rfl, s2, ?_⟩
          have e3 : ths (rs.take (i + 1)) = ths (rs.take i) := by
            rw [htk, ths_app]
            cases ro with
            | th n s => cases ew; exact absurd (decide_eq_true rfl) he
            | _ => exact List.append_nil _
          unfold shK
          rw [e3]
          exact e2
    · rintro σ H2 ⟨v2, rfl, s2, e2⟩
      rw [show (ls.map V.ref).length = rs.length by rw [List.length_map, hlen], List.take_length] at e2
      have hsh : (shK rs).length ≤ 6 := by unfold shK; rw [List.length_map]; lia
      refine ⟨_, rfl, d, _, rfl, e2, _, _, rfl, rfl, _, rfl, ?_⟩
      refine ite2 (fun hlt => ?_) (fun _ => ⟨_, rfl, q d H2 s2 hd e2⟩)
      exfalso
      have := of_decide_eq_true hlt
      lia
end
end K12
namespace K12
open PySem L2 Tx Rk PyProof.Rows PySem.SeqAt
open PySem.PyData (strOk)
section
variable {P : Program} {w : World} {K : PySem.W.Frag} {mg : Str → Option Value} {base : Heap}
theorem ok_places {f aN aF : Addr} {fd : FuncData} (F : Fun K "read_places" "read_places" sReadPlaces f fd) (T : Bl mg) (M : Md K mg aN aF) : FnOk P w K mg base CX0 1 f fd ["rows"] spReadPlaces := by
  obtain ⟨t1, m1⟩ := M.mp
  refine F.ok scReadPlaces (fun vs H Q E h => ?_) (fun cdv A outer s H vs Q E hr h => ?_)
  · obtain ⟨a, rs, ls, rfl, _⟩ := h
    rfl
  · obtain ⟨a, rs, ls, rfl, ha, ra, g, q⟩ := h
    have hu := hu_of hr
    have hsl : sizeLine = 16777216 := sizeLine_eq
    have hfp := g.fewP
    have hlen := ra.length
    refine ⟨_, pss_cons (ps_set (i := 1) scReadPlaces.nd rfl (Or.inl rfl) pe_dnewK)
      (pss_cons (ps_for PassesOwn.never rfl (pi_list (pv 0)) (pg_name (i := 2) scReadPlaces.nd rfl (Or.inl rfl))
        (pss_cons (ps_if (pt_cmpR op_eq (pe_ix ix_list (pv 2) pe_int (fun _ _ => rfl)) pe_str (nomark _)) (pss_one (ps_dput hu (pv 1) (pe_ix ix_list (pv 2) pe_int (fun _ _ => rfl)) (pe_tup (pa_cons pe_bl (pa_cons pe_non pa_nil))) rfl)) pss_nil)
        (pss_one (ps_if (pt_cmpR op_eq (pe_ix ix_list (pv 2) pe_int (fun _ _ => rfl)) pe_str (nomark _))
          (pss_cons (ps_if (pt_cmpR op_eq (pe_callB call_lenD (by rfl) T.len PySem.boot_len (pa_cons (pv 1) pa_nil)) pe_int (nomark _)) pss_never pss_nil)
          (pss_one (ps_dput hu (pv 1) (pe_ix ix_list (pv 2) pe_int (fun _ _ => rfl)) (pe_tup (pa_cons pe_bl (pa_cons (pe_ifExp (pt_cmpR op_eq (pe_callB call_len (by rfl) T.len PySem.boot_len (pa_cons (pv 2) pa_nil)) pe_int (nomark _)) (pe_ix ix_list (pv 2) pe_int (fun _ _ => rfl)) pe_non) pa_nil))) rfl))) pss_nil))))
      (pss_cons (ps_if (PW.pt (pw_or (pt_cmpR op_eq (pe_callB call_lenD (by rfl) T.len PySem.boot_len (pa_cons (pv 1) pa_nil)) pe_int (nomark _)) (pw_or1 (pt_cmpR op_gt (pe_callB call_lenD (by rfl) T.len PySem.boot_len (pa_cons (pv 1) pa_nil)) (pe_glob (v := .int 6) (by rfl) m1 ⟨_, rfl⟩) (nomark _))))) pss_never pss_nil)
      (pss_one (ps_ret (pv 1))))), ?_⟩
    intro d hd
    have s0 : Same H (upd H d (.dK [])) := Same.new hd
    refine ⟨_, rfl, a, rfl, ⟨_, SqL.of (s0 _ _ ha)⟩, for_list (K := K) (a := a) (xs := ls.map V.ref) (fun i σ H2 => ∃ (v2 : Option V) (kvs : List (Key × V)), σ = [some (.ref a), some (.ref d), v2] ∧ Same H H2 ∧ H2 d = some (.dK kvs) ∧ PlOk H2 (plc (rs.take i)) kvs) ⟨none, [], rfl, s0, upd_same, .nil⟩
      (fun i σ H2 _ hh0 => by obtain ⟨_, _, _, s2, _⟩ := hh0; exact SqL.of (s2 _ _ ha)) ?_ ?_⟩
    · rintro i x σ H2 hx ⟨v2, kvs, rfl, s2, e2, pk2⟩
      rw [List.getElem?_map] at hx
      cases el : ls[i]? with
      | none => rw [el] at hx; cases hx
      | some l =>
        rw [el] at hx
        cases hx
        obtain ⟨ro, h1, h2⟩ := ra.get el
        have hi : i < rs.length := (List.getElem?_eq_some_iff.mp h1).1
        have hro : rs[i] = ro := (List.getElem?_eq_some_iff.mp h1).2
        have htk : rs.take (i + 1) = rs.take i ++ [ro] := by rw [List.take_succ_eq_append_getElem hi, hro]
        have hsp : rs = rs.take i ++ ro :: rs.drop (i + 1) := by
          rw [← hro, List.getElem_cons_drop, List.take_append_drop]
        have hw := s2 _ _ h2
        obtain ⟨w0, rest, ew⟩ : ∃ w0 rest, ro.words = w0 :: ro.name :: rest := by cases ro <;> exact ⟨_, _, rfl⟩
        have at0 : atI (ro.words.map V.str) ((0 : Nat) : Int) = some (.str w0) := atI_nat (by rw [ew]; rfl)
        have at1 : atI (ro.words.map V.str) ((1 : Nat) : Int) = some (.str ro.name) := atI_nat (by rw [ew]; rfl)
        have hkl := pk2.length
        have hfew : (plc (rs.take i)).length ≤ 6 := by
          have : (plc rs).length = (plc (rs.take i)).length + (plc (rs.drop i)).length := by rw [← List.length_append, ← plc_app, List.take_append_drop]
          lia
        have hnone : valV kvs (Sum.inr ro.name : Key) = none := by
          refine pk2.none fun z => ?_
          have hnd : ((rs.take (i + 1)).map Ro.name).Nodup := by
            rw [List.map_take]
            exact List.Sublist.nodup (List.take_sublist _ _) g.nd
          rw [htk, List.map_append] at hnd
          exact (List.nodup_append.mp hnd).2.2 _ (mem_plc_name z) ro.name (List.mem_singleton.mpr rfl) rfl
        -- what a stored pair makes
        have put : ∀ (p : Str × Bool × Option Str) (tp : Addr) (H3 : Hp), plc [ro] = [p] → p.1 = ro.name → H2 tp = none → H3 = upd H2 tp (.tup [.bl p.2.1, oV' p.2.2]) → Same H (upd H3 d (.dK (kvs ++ [(Sum.inr ro.name, .ref tp)]))) ∧
            PlOk (upd H3 d (.dK (kvs ++ [(Sum.inr ro.name, .ref tp)]))) (plc (rs.take (i + 1))) (kvs ++ [(Sum.inr ro.name, .ref tp)]) := fun p tp H3 ep en ht e3 => by
          subst e3
          have dt : d ≠ tp := ne_of_none e2 ht
          have s3 : Same H2 (upd H2 tp (.tup [.bl p.2.1, oV' p.2.2])) := Same.new ht
          refine ⟨(s2.trans s3).put hd, ?_⟩
          rw [htk, plc_app, ep, ← en]
          refine PlOk.snoc (by rw [upd_ne dt.symm]; exact upd_same) (pk2.same fun b xs e => ?_)
          rw [upd_ne (ne_of e e2 (by intro z; cases z))]
          exact s3 _ _ e
        refine ⟨_, rfl, l, _, _, _, rfl, rfl, SqL.of hw, at0, rfl, _, rfl, ?_⟩
        refine ite2 (fun he => ?_) (fun he => ?_)
        · -- a place without a lid
          have e0 := V.str.inj (of_decide_eq_true he)
          obtain ⟨n, rfl⟩ : ∃ n, ro = .pl n := by
            cases ro with
            | pl n => exact ⟨n, rfl⟩
            | th n s => cases ew; exact absurd e0 (by decide +kernel)
            | bx n => cases ew; exact absurd e0 (by decide +kernel)
            | lk n k => cases ew; exact absurd e0 (by decide +kernel)
          refine ⟨by show 2 ≤ sizeLine; decide, fun tp htp => ?_⟩
          have s3 : Same H2 (upd H2 tp (.tup [.bl false, .non])) := Same.new htp
          obtain ⟨p1, p2⟩ := put (n, false, none) tp _ rfl rfl htp rfl
          refine ⟨_, rfl, _, rfl, l, _, _, _, rfl, rfl, SqL.of (s3 _ _ hw), at1, d, _, rfl, DPut.k (k := (Sum.inr (Ro.pl n).name : Key)) (s3 _ _ e2) (by lia), ?_⟩
          rw [putK_new _ hnone]
          have hl4 := p1
          have ld : l ≠ d := ne_of hw e2 (by intro z; cases z)
          have hw4 : (upd (upd H2 tp (.tup [.bl false, .non])) d (.dK (kvs ++ [(Sum.inr (Ro.pl n).name, .ref tp)]))) l = some (.lst ((Ro.pl n).words.map V.str)) := by rw [upd_ne ld]; exact s3 _ _ hw
          refine ⟨_, rfl, l, _, _, _, rfl, rfl, SqL.of hw4, at0, rfl, _, rfl, ?_⟩
          refine ite2 (fun hb => ?_) (fun _ => ⟨_, _, rfl, p1, upd_same, p2⟩)
          exfalso
          cases ew
          exact absurd (V.str.inj (of_decide_eq_true hb)) (by decide +kernel)
        · refine ⟨_, rfl, l, _, _, _, rfl, rfl, SqL.of hw, at0, rfl, _, rfl, ?_⟩
          refine ite2 (fun hb => ?_) (fun hb => ?_)
          · -- a box
            have e0 := V.str.inj (of_decide_eq_true hb)
            have hbx : ro.boxed = true := by
              cases ro with
              | pl n => cases ew; exact absurd e0 (by decide +kernel)
              | th n s => cases ew; exact absurd e0 (by decide +kernel)
              | bx n => rfl
              | lk n k => rfl
            have hne := g.floor hsp hbx
            refine ⟨_, rfl, d, _, rfl, e2, rfl, _, rfl, ?_⟩
            refine ite2 (fun hz => ?_) (fun _ => ?_)
            · exfalso
              have := V.int.inj (of_decide_eq_true hz)
              exact hne (List.length_eq_zero_iff.mp (by lia))
            have hwl : (ro.words.map V.str).length = ro.words.length := List.length_map ..
            refine ⟨_, rfl, _, _, rfl, .inl ⟨_, SqL.of hw, rfl⟩, rfl, _, rfl, ?_⟩
            refine ite2 (fun h3 => ?_) (fun h3 => ?_)
            · obtain ⟨n, k, rfl⟩ : ∃ n k, ro = .lk n k := by
                cases ro with
                | lk n k => exact ⟨n, k, rfl⟩
                | bx n => exact absurd (show ((2 : Nat) : Int) = 3 from V.int.inj (of_decide_eq_true h3)) (by decide)
                | pl n => cases hbx
                | th n s => cases hbx
              have at2 : atI ((Ro.lk n k).words.map V.str) ((2 : Nat) : Int) = some (.str k) := atI_nat rfl
              refine ⟨_, rfl, l, _, _, _, rfl, rfl, SqL.of hw, at2, by show 2 ≤ sizeLine; decide, fun tp htp => ?_⟩
              have s3 : Same H2 (upd H2 tp (.tup [.bl true, .str k])) := Same.new htp
              obtain ⟨p1, p2⟩ := put (n, true, some k) tp _ rfl rfl htp rfl
              refine ⟨_, rfl, _, rfl, l, _, _, _, rfl, rfl, SqL.of (s3 _ _ hw), at1, d, _, rfl, DPut.k (k := (Sum.inr (Ro.lk n k).name : Key)) (s3 _ _ e2) (by lia), ?_⟩
              rw [putK_new _ hnone]
              exact ⟨_, _, rfl, p1, upd_same, p2⟩
            · obtain ⟨n, rfl⟩ : ∃ n, ro = .bx n := by
                cases ro with
                | bx n => exact ⟨n, rfl⟩
                | lk n k => exact absurd (by rfl) h3
                | pl n => cases hbx
                | th n s => cases hbx
              refine ⟨by show 2 ≤ sizeLine; decide, fun tp htp => ?_⟩
              have s3 : Same H2 (upd H2 tp (.tup [.bl true, .non])) := Same.new htp
              obtain ⟨p1, p2⟩ := put (n, true, none) tp _ rfl rfl htp rfl
              refine ⟨_, rfl, _, rfl, l, _, _, _, rfl, rfl, SqL.of (s3 _ _ hw), at1, d, _, rfl, DPut.k (k := (Sum.inr (Ro.bx n).name : Key)) (s3 _ _ e2) (by lia), ?_⟩
              rw [putK_new _ hnone]
              exact ⟨_, _, rfl, p1, upd_same, p2⟩
          · -- a thing
            refine ⟨_, kvs, rfl, s2, e2, ?_⟩
            have : plc (rs.take (i + 1)) = plc (rs.take i) := by
              rw [htk, plc_app]
              cases ro with
              | th n s => exact List.append_nil _
              | pl n => cases ew; exact absurd (decide_eq_true rfl) he
              | bx n => cases ew; exact absurd (decide_eq_true rfl) hb
              | lk n k => cases ew; exact absurd (decide_eq_true rfl) hb
            rw [this]
            exact pk2
    · rintro σ H2 ⟨v2, kvs, rfl, s2, e2, pk2⟩
      rw [show (ls.map V.ref).length = rs.length by rw [List.length_map, hlen], List.take_length] at pk2
      have hkl := pk2.length
      obtain ⟨n, t, hfl⟩ := g.first
      have hpos : 0 < (plc rs).length := by rw [hfl]; exact Nat.zero_lt_succ _
      refine ⟨_, rfl, d, _, rfl, e2, rfl, _, rfl, ?_⟩
      refine ite2 (fun hz => ?_) (fun _ => ?_)
      · exfalso
        have := V.int.inj (of_decide_eq_true hz)
        lia
      refine ⟨_, rfl, d, _, rfl, e2, _, _, rfl, rfl, _, rfl, ?_⟩
      refine ite2 (fun hlt => ?_) (fun _ => ⟨_, rfl, q d kvs H2 s2 hd e2 pk2⟩)
      exfalso
      have := of_decide_eq_true hlt
      lia
end
end K12
namespace K12
open PySem L2 Tx Rk PyProof.Rows PySem.SeqAt
open PySem.PyData (strOk)
section
variable {P : Program} {w : World} {K : PySem.W.Frag} {mg : Str → Option Value} {base : Heap}
theorem ok_check {f : Addr} {fd : FuncData} (F : Fun K "check_keys" "check_keys" sCheckKeys f fd) : FnOk P w K mg base CX0 1 f fd ["places", "shapes"] spCheckKeys := by
  refine F.ok scCheckKeys (fun vs H Q E h => ?_) (fun cdv A outer s H vs Q E hr h => ?_)
  · obtain ⟨d1, d2, rs, kvs, rfl, _⟩ := h
    rfl
  · obtain ⟨d1, d2, rs, kvs, rfl, h1, pk1, h2, ne, g, q⟩ := h
    have hu := hu_of hr
    refine ⟨_, pss_one (ps_for PassesOwn.never rfl (pi_vals (pe_bm0 PySem.F.plainAttrs_dict PySem.F.slot_dict_values PySem.F.type_dict_values mt_values (pv 0))) (pg_name (i := 2) scCheckKeys.nd rfl (Or.inl rfl))
      (pss_cons (ps_set (i := 3) scCheckKeys.nd rfl (Or.inl rfl) (pe_ix ix_tup (pv 2) pe_int (fun _ _ => rfl)))
      (pss_one (ps_if (PW.pt (pw_and (pt_cmpR op_notN (pv 3) pe_non (nomark _)) (pw_and1 (pt_cmp (pc_dnotin hu (pv 3) (pv 1)))))) pss_never pss_nil)))), ?_⟩
    refine ⟨_, rfl, .inr (.inr (.inl ⟨rfl, .inl ⟨_, h1⟩⟩)), d1, kvs, rfl, rfl, h1, fun v hv => ?_⟩
    have v1 : d1 ≠ v := ne_of_none h1 hv
    refine ⟨v, d1, kvs, rfl, upd_same, by rw [upd_ne v1]; exact h1, fun o => ?_⟩
    have kp : ∀ b u, H b = some u → b ≠ d1 → (upd (upd H v (viewO v d1)) d1 (.frz o (.dK kvs))) b = some u := fun b u e hb => by
      rw [upd_ne hb, upd_ne (ne_of_none e hv)]
      exact e
    have e1 : (upd (upd H v (viewO v d1)) d1 (.frz o (.dK kvs))) d1 = some (.frz o (.dK kvs)) := upd_same
    generalize (upd (upd H v (viewO v d1)) d1 (.frz o (.dK kvs))) = H2 at kp e1 ⊢
    have h22 := kp _ _ h2 ne.symm
    have pk2 : PlOk H2 (plc rs) kvs := pk1.same fun b xs e => kp _ _ e (ne_of e h1 (by intro z; cases z))
    refine for_vals (a := d1) (o := o) (kvs := kvs) (fun _ σ H3 => ∃ v2 v3 : Option V, σ = [some (.ref d1), some (.ref d2), v2, v3] ∧ H3 = H2) ⟨none, none, rfl, rfl⟩ (fun i σ H3 _ hh0 => by obtain ⟨_, _, _, e⟩ := hh0; rw [e]; exact e1) ?_ ?_
    · rintro i k x σ H3 hx ⟨v2, v3, rfl, rfl⟩
      obtain ⟨p, t, hp, rfl, ht⟩ := pk2.get hx
      have hpm : p ∈ plc rs := List.mem_of_getElem? hp
      have at1 : atI [V.bl p.2.1, oV' p.2.2] ((1 : Nat) : Int) = some (oV' p.2.2) := atI_nat rfl
      refine ⟨_, rfl, t, _, _, _, rfl, rfl, SqT.of ht, at1, ?_⟩
      cases hk : p.2.2 with
      | none =>
        refine ⟨_, rfl, rfl, _, rfl, ?_⟩
        refine iteF ?_
        exact iteF ⟨_, _, rfl, rfl⟩
      | some key =>
        refine ⟨_, rfl, rfl, _, rfl, ?_⟩
        refine iteT ?_
        refine ⟨_, rfl, _, rfl, d2, _, rfl, DGet.k (k := (Sum.inr key : Key)) h22, _, rfl, ?_⟩
        have hmem := g.keys p hpm key hk
        obtain ⟨y, hy, ey⟩ := List.mem_map.mp hmem
        have hs : (valV (shK rs) (Sum.inr key : Key)).isSome = true := by
          rw [← valV_any, List.any_eq_true]
          exact ⟨(Sum.inr y.1, .str y.2), List.mem_map.mpr ⟨y, hy, rfl⟩, decide_eq_true (by rw [ey])⟩
        rw [hs]
        exact iteF ⟨_, _, rfl, rfl⟩
    · rintro σ H3 ⟨v2, v3, rfl, rfl⟩
      exact q o _ kp e1
end
end K12
namespace K12
open PySem L2 Tx Rk PyProof.Rows PySem.SeqAt
open PySem.PyData (strOk)
section
variable {P : Program} {w : World} {K : PySem.W.Frag} {mg : Str → Option Value} {base : Heap}
theorem ok_init {f C fR fP fT fK : Addr} {fd dR dP dT dK : FuncData} (F : Fun K "__init__" "Room.__init__" sInit f fd) (L : Cl K C) (DR : Df K mg "read_rows" sReadRows ["lines"] fR dR) (DP : Df K mg "read_places" sReadPlaces ["rows"] fP dP) (DT : Df K mg "read_things" sReadThings ["rows"] fT dT) (DK : Df K mg "check_keys" sCheckKeys ["places", "shapes"] fK dK)
    (GR : FnOk P w K mg base CX0 3 fR dR ["lines"] spReadRows) (GP : FnOk P w K mg base CX0 1 fP dP ["rows"] spReadPlaces) (GT : FnOk P w K mg base CX0 1 fT dT ["rows"] spReadThings) (GK : FnOk P w K mg base CX0 1 fK dK ["places", "shapes"] spCheckKeys) : FnOk P w K mg base CX0 4 f fd ["self", "lines"] (spInit C) := by
  refine F.ok scInit (fun vs H Q E h => ?_) (fun cdv A outer s H vs Q E hr h => ?_)
  · obtain ⟨x, dx, a, rs, rfl, _⟩ := h
    rfl
  · obtain ⟨x, dx, a, rs, rfl, hx, ha, g, hrl, q⟩ := h
    have hr1 : Room 1 _ := hr.mono (by decide)
    refine ⟨_, pss_cons (ps_set (i := 2) scInit.nd rfl (Or.inl rfl) (pe_call GR hr (by rfl) DR.m DR.F.kp DR.b .nil pass0 (pa_cons (pv 1) pa_nil)))
      (pss_cons (ps_set (i := 3) scInit.nd rfl (Or.inl rfl) (pe_call GP hr1 (by rfl) DP.m DP.F.kp DP.b .nil pass0 (pa_cons (pv 2) pa_nil)))
      (pss_cons (ps_set (i := 4) scInit.nd rfl (Or.inl rfl) (pe_call GT hr1 (by rfl) DT.m DT.F.kp DT.b .nil pass0 (pa_cons (pv 2) pa_nil)))
      (pss_cons (ps_expr (pe_call GK hr1 (by rfl) DK.m DK.F.kp DK.b .nil pass0 (pa_cons (pv 3) (pa_cons (pv 4) pa_nil))))
      (pss_cons (ps_fld (pv 0) (pv 3) rfl) (pss_one (ps_fld (pv 0) (pv 4) rfl)))))), ?_⟩
    refine ⟨_, rfl, a, rs, rfl, ha, g, hrl, fun l ls H1 s1 el ra => ?_⟩
    refine ⟨_, rfl, l, rs, ls, rfl, el, ra, g, fun d1 kvs H2 s2 f1 e1 pk1 => ?_⟩
    refine ⟨_, rfl, l, rs, ls, rfl, s2 _ _ el, ra.same s2, g, fun d2 H3 s3 f2 e2 => ?_⟩
    have n12 : d1 ≠ d2 := ne_of_none e1 f2
    refine ⟨_, rfl, _, rfl, d1, d2, rs, kvs, rfl, s3 _ _ e1, pk1.same (fun b xs e => s3 _ _ e), e2, n12, g, fun o H4 kp e4 => ?_⟩
    have s13 := (s1.trans s2).trans s3
    have hx3 := s13 _ _ hx
    have x1 : x ≠ d1 := fun z => by
      have := s1 _ _ hx
      rw [z, f1] at this
      cases this
    have x2 : x ≠ d2 := fun z => by
      have := (s1.trans s2) _ _ hx
      rw [z, f2] at this
      cases this
    have hx4 := kp _ _ hx3 x1
    refine ⟨_, rfl, _, rfl, x, C, dx, [], rfl, hx4, L.cl, L.nP, (by show 0 < 1000; decide), ?_⟩
    refine ⟨_, rfl, _, rfl, x, C, dx, _, rfl, upd_same, L.cl, L.nS, (by show 1 < 1000; decide), ?_⟩
    rw [upd_upd]
    have all : ∀ b u, H4 b = some u → b ≠ x → (upd H4 x (.ins C dx (rFlds d1 d2))) b = some u := fun b u e hb => by rw [upd_ne hb]; exact e
    refine q _ (fun b u e hb => all b u (kp b u (s13 _ _ e) ?_) hb) ⟨dx, d1, d2, o, kvs, upd_same, all _ _ e4 x1.symm, ?_, all _ _ (kp _ _ e2 n12.symm) x2.symm⟩
    · intro z
      have := s1 _ _ e
      rw [z, f1] at this
      cases this
    · refine pk1.same fun b xs e => all _ _ (kp _ _ (s3 _ _ e) (ne_of e e1 (by intro z; cases z))) ?_
      exact ne_of (s3 _ _ e) hx3 (by intro z; cases z)
end
end K12
namespace K12
open PySem L2 Tx Rk PyProof.Rows PySem.SeqAt
open PySem.PyData (strOk)
section
variable {P : Program} {w : World} {K : PySem.W.Frag} {mg : Str → Option Value} {base : Heap}
theorem ok_pl {f C : Addr} {fd : FuncData} (F : Fun K "places" "Room.places" sPlaces f fd) (L : Cl K C) (T : Bl mg) : FnOk P w K mg base CX0 1 f fd ["self"] (spPlaces C) := by
  refine F.ok scPlaces (fun vs H Q E h => ?_) (fun cdv A outer s H vs Q E hr h => ?_)
  · obtain ⟨x, rs, rfl, _⟩ := h
    rfl
  · obtain ⟨x, rs, rfl, R, q⟩ := h
    obtain ⟨dx, d1, d2, o, kvs, h1, h2, h3, h4⟩ := R.ex
    refine ⟨_, pss_one (ps_ret (pe_callTy (call_listD rfl) (by rfl) T.list bt_list (pa_cons (pe_fld (pv 0) rfl) pa_nil))), ?_⟩
    refine ⟨_, rfl, x, C, dx, _, _, rfl, h1, L.cl, L.nP, rf_places d1 d2, d1, kvs, rfl, .inr ⟨o, h2⟩, fun l hl => ?_⟩
    exact q l _ (Same.new hl) hl (by rw [upd_same, h3.keys])
end
end K12
namespace K12
open PySem L2 Tx Rk PyProof.Rows PySem.SeqAt
open PySem.PyData (strOk)
section
variable {P : Program} {w : World} {K : PySem.W.Frag} {mg : Str → Option Value} {base : Heap}
theorem rf_shapes (d1 d2 : Addr) : (rFlds d1 d2).lookup ("told_shapes" : Str) = some (.ref d2) := by
  unfold rFlds
  rw [lookup_putF, if_pos rfl]
theorem sh_find {x : Str × Str} : ∀ {l : List (Str × Str)}, (l.map (·.1)).Nodup → x ∈ l → valV (l.map fun y => ((Sum.inr y.1 : Key), V.str y.2)) (Sum.inr x.1 : Key) = some (.str x.2)
  | y :: l, nd, h => by
    have nd' := List.nodup_cons.mp (show ((_ :: _ : List Str)).Nodup from nd)
    rcases List.mem_cons.mp h with z | z
    · subst z
      exact valV_pos rfl
    · rw [List.map_cons, valV_neg (fun q => nd'.1 (List.mem_map.mpr ⟨x, z, (Sum.inr.inj q).symm⟩))]
      exact sh_find nd'.2 z
theorem hand_at {H : Hp} {v : V} {o : Option Str} (h : RdV H v (dO o)) : v = oV o := by
  cases o with
  | none => cases h; rfl
  | some x => cases h; rfl
end
end K12
namespace K12
open PySem L2 Tx Rk PyProof.Rows PySem.SeqAt
open PySem.PyData (strOk)
section
variable {P : Program} {w : World} {K : PySem.W.Frag} {mg : Str → Option Value} {base : Heap}
inductive spShape0 (C : Addr) (vs : List V) (H : Hp) (Q : VK) (E0_ : XK) : Prop
  | mk (x : Addr) (rs : List Ro) (p : Str × Str) (c0 : vs = [.ref x, .str p.1]) (c1 : RoomAt C H x rs) (c2 : Good rs) (c3 : p ∈ ths rs) (c4 : Q (.str p.2) H) : spShape0 C vs H Q E0_
theorem scShapeOf : FnScope ["self", "thing"] ["self", "thing"] (defScope sShapeOf) := ⟨rfl, rfl, rfl, by decide +kernel, rfl, by decide +kernel, by decide +kernel⟩
end
end K12
namespace K12
open PySem L2 Tx Rk PyProof.Rows PySem.SeqAt
open PySem.PyData (strOk)
section
variable {P : Program} {w : World} {K : PySem.W.Frag} {mg : Str → Option Value} {base : Heap}
noncomputable def wordsS : List Str := ["feel", "try", "heft"]
structure Mw (K : PySem.W.Frag) (mg : Str → Option Value) (aW : Addr) : Prop where
  wm : mg "WORDS" = some (.ref aW)
  wv : ∀ H : Hp, SqT K H aW (wordsS.map V.str)
noncomputable def lkB (rs : List Ro) (a b : Str) : Bool := if b = "hand" then decide (a = "feel") else decide (a ∈ wordsS) && decide (b ∈ (plc rs).map (·.1))
inductive spIsLook (C : Addr) (vs : List V) (H : Hp) (Q : VK) (E0_ : XK) : Prop
  | mk (x : Addr) (rs : List Ro) (a b : Str) (c0 : vs = [.ref x, .str a, .str b]) (c1 : RoomAt C H x rs) (c2 : ∀ H' : Hp, Same H H' → Q (.bl (lkB rs a b)) H') : spIsLook C vs H Q E0_
noncomputable abbrev pIsLook : List Str := ["room", "word", "name"]
noncomputable abbrev nIsLook : List Str := ["room", "word", "name"]
theorem scIsLook : FnScope nIsLook pIsLook (defScope sIsLook) := ⟨rfl, rfl, rfl, by decide +kernel, rfl, by decide +kernel, by decide +kernel⟩
noncomputable def Shp (rs : List Ro) (o : Option Str) (s : Str) : Prop := (o = none ∧ s = "-") ∨ ∃ x ∈ ths rs, o = some x.1 ∧ s = x.2
noncomputable def shF (rs : List Ro) : Option Str → Str
  | none => "-"
  | some t => (((ths rs).find? fun x => x.1 == t).map (·.2)).getD "-"
theorem shF_ok {rs : List Ro} {o : Option Str} (h : ∀ t, o = some t → t ∈ (ths rs).map (·.1)) : Shp rs o (shF rs o) := by
  cases o with
  | none => exact Or.inl ⟨rfl, rfl⟩
  | some t =>
    obtain ⟨y, hy, e⟩ := List.mem_map.mp (h t rfl)
    refine .inr ?_
    unfold shF
    cases hf : (ths rs).find? (fun x => x.1 == t) with
    | none => exact absurd (List.find?_eq_none.mp hf y hy) (by rw [e]; simp)
    | some x =>
      have h1 : (x.1 == t) = true := List.find?_some (p := fun x : Str × Str => x.1 == t) hf
      have h2 := List.mem_of_find?_eq_some hf
      refine ⟨x, h2, by rw [eq_of_beq h1], ?_⟩
      show (Option.map (fun x => x.2) ((ths rs).find? fun x => x.1 == t)).getD _ = _
      rw [hf]
      rfl
inductive spShapeTold (C : Addr) (vs : List V) (H : Hp) (Q : VK) (E0_ : XK) : Prop
  | mk (x : Addr) (rs : List Ro) (o : Option Str) (z : Str) (c0 : vs = [.ref x, oV o]) (c1 : RoomAt C H x rs) (c2 : Good rs) (c3 : Shp rs o z) (c4 : Q (.str z) H) : spShapeTold C vs H Q E0_
noncomputable abbrev pShapeTold : List Str := ["room", "thing"]
noncomputable abbrev nShapeTold : List Str := ["room", "thing"]
theorem scShapeTold : FnScope nShapeTold pShapeTold (defScope sShapeTold) := ⟨rfl, rfl, rfl, by decide +kernel, rfl, by decide +kernel, by decide +kernel⟩
end
end K12
namespace K12
open PySem L2 Tx Rk PyProof.Rows PySem.SeqAt
open PySem.PyData (strOk)
section
variable {P : Program} {w : World} {K : PySem.W.Frag} {mg : Str → Option Value} {base : Heap}
structure Er (K : PySem.W.Frag) (mg : Str → Option Value) (G NN : Addr) : Prop where
  mG : mg "GropeError" = some (.ref G)
  mN : mg "NoLook" = some (.ref NN)
  oG : PySem.W.excIn K G bmV "ValueError.__new__" = true
  oN : PySem.W.excIn K NN bmV "ValueError.__new__" = true
  sub : mroIn K NN G = true
theorem bt_ve : bootBuiltins "ValueError" = some (.type "ValueError") := by decide +kernel
theorem ty_ve : typeOf (.type "ValueError") = pure (.type "type") := by kernel_rfl
noncomputable def Rp (x : Str) : Prop := (reprText x).length ≤ 100000
structure Wd (line : Str) (ws : List Str) : Prop where
  e : line = Txt.join blank ws
  ne : ws ≠ []
  nb : ∀ w ∈ ws, 32 ∉ cs w
theorem Wd.split {line : Str} {ws : List Str} (h : Wd line ws) : Txt.split line blank = ws := by
  rw [h.e]
  exact split_join h.ne h.nb
noncomputable def NoLk (rs : List Ro) (ws : List Str) : Prop := ws.length ≠ 2 ∨ ∃ a b, ws = [a, b] ∧ lkB rs a b = false
inductive spReadLook (C NN : Addr) (vs : List V) (H : Hp) (Q : VK) (E : XK) : Prop
  | mk (x : Addr) (rs : List Ro) (line : Str) (ws : List Str) (c0 : vs = [.ref x, .str line]) (c1 : RoomAt C H x rs) (c2 : Wd line ws) (c3 : line.length ≤ 1000) (c4 : ((∃ a b, ws = [a, b] ∧ lkB rs a b = true ∧ ∀ (l : Addr) (H' : Hp), Same H H' → H' l = some (.lst [.str a, .str b]) → Q (.ref l) H') ∨ (NoLk rs ws ∧ Rp line ∧ ∀ (a : Addr) (H' : Hp), Same H H' → H' a = none → E (.ref a) (some NN) H'))) : spReadLook C NN vs H Q E
noncomputable abbrev pReadLook : List Str := ["room", "line"]
noncomputable abbrev nReadLook : List Str := ["room", "line", "words"]
theorem scReadLook : FnScope nReadLook pReadLook (defScope sReadLook) := ⟨rfl, rfl, rfl, by decide +kernel, rfl, by decide +kernel, by decide +kernel⟩
inductive spLooked (C NN : Addr) (vs : List V) (H : Hp) (Q : VK) (E : XK) : Prop
  | mk (x : Addr) (rs : List Ro) (v : V) (W : Wl) (line : Str) (ws : List Str) (c0 : vs = [.ref x, .str line, v]) (c1 : RoomAt C H x rs) (c2 : Good rs) (c3 : RdV H v (dW W)) (c4 : Wd line ws) (c5 : line.length ≤ 1000) (c6 : ((ws = (["feel", "hand"] : List Str) ∧ (∀ t, W.hand = some t → t ∈ (ths rs).map (·.1)) ∧ ∀ H' : Hp, Same H H' → Q (.str (shF rs W.hand)) H') ∨ (NoLk rs ws ∧ Rp line ∧ ∀ (a : Addr) (H' : Hp), Same H H' → H' a = none → E (.ref a) (some NN) H'))) : spLooked C NN vs H Q E
noncomputable abbrev pLooked : List Str := ["room", "line", "world"]
noncomputable abbrev nLooked : List Str := ["room", "line", "world", "words"]
theorem scLooked : FnScope nLooked pLooked (defScope sLooked) := ⟨rfl, rfl, rfl, by decide +kernel, rfl, by decide +kernel, by decide +kernel⟩
structure Bad (rs : List Ro) (line : Str) : Prop where
  ex : ∃ ws, Wd line ws ∧ NoLk rs ws
  len : line.length ≤ 300
  rp : Rp line
inductive spRefused (C : Addr) (vs : List V) (H : Hp) (Q : VK) (E0_ : XK) : Prop
  | mk (x : Addr) (rs : List Ro) (v : V) (W : Wl) (line : Str) (c0 : vs = [.ref x, .str line, v]) (c1 : RoomAt C H x rs) (c2 : Good rs) (c3 : RdV H v (dW W)) (c4 : Bad rs line) (c5 : ∀ H' : Hp, Same H H' → Q (.bl true) H') : spRefused C vs H Q E0_
noncomputable abbrev pRefused : List Str := ["_law_room_here", "_law_line", "_law_world_here"]
noncomputable abbrev nRefused : List Str := ["_law_room_here", "_law_line", "_law_world_here", "_law_told", "e"]
theorem scRefused : FnScope nRefused pRefused (defScope sLRefused) := ⟨rfl, rfl, rfl, by decide +kernel, rfl, by decide +kernel, by decide +kernel⟩
inductive spFresh (vs : List V) (H : Hp) (Q : VK) (E0_ : XK) : Prop
  | mk (r : Addr) (rs : List Ro) (c0 : vs = [.ref r]) (c1 : RmS H r rs) (c2 : Xf (rs.map Ro.name)) (c3 : rs.length ≤ 12) (c4 : ∀ (l : Addr) (fs : List Str) (H' : Hp), Same H H' → H' l = some (.lst (fs.map V.str)) → 1 ≤ fs.length → fs.length ≤ 8 → (∀ f ∈ fs, f ∉ rs.map Ro.name ∧ Nv f) → Q (.ref l) H') : spFresh  vs H Q E0_
noncomputable abbrev pLFresh : List Str := ["_law_room_here"]
noncomputable abbrev nLFresh : List Str := ["_law_room_here", "_law_used"]
theorem scLFresh : FnScope nLFresh pLFresh (defScope sLFresh) := ⟨rfl, rfl, rfl, by decide +kernel, rfl, by decide +kernel, by decide +kernel⟩
theorem xr_nv {k : Nat} (h1 : 1 ≤ k) (h2 : k ≤ 8) : Nv (xr k) := nv_rep (c := 120) (n := k) rfl (by decide) (by decide) h1 h2
theorem xr_mul {k : Nat} (h : 1 ≤ k) : Txt.mul ("x" : Str) (k : Int) = xr k := by
  apply cs_inj
  rw [show ("x" : Str) = ⟨#[120]⟩ from by decide +kernel, cs_mul (by lia)]
  rw [Int.toNat_natCast]
  rfl
noncomputable def bad1 (w s p : Str) : List Str := ["", w, w ++ " " ++ s, w ++ " " ++ p ++ " " ++ p, "try hand", "heft hand", "feel hand hand"]
noncomputable def bad2 (w p : Str) : List Str := ["look " ++ p, "take " ++ p, "shake " ++ p, Txt.upper w ++ " " ++ p, " " ++ (w ++ " " ++ p)]
noncomputable def bad3 (w p : Str) : List Str := [w ++ "  " ++ p]
noncomputable def bad4 (w p : Str) : List Str := [w ++ " " ++ p ++ " ", w ++ p, p, "hand", "feel Hand", "feel hand ", w ++ " " ++ p ++ "; " ++ (w ++ " " ++ p)]
noncomputable def badL (w s p : Str) : List Str := bad1 w s p ++ bad2 w p ++ bad3 w p ++ bad4 w p
inductive spBad (K : PySem.W.Frag) (vs : List V) (H : Hp) (Q : VK) (E0_ : XK) : Prop
  | mk (a r : Addr) (ns : List Int) (rs : List Ro) (c0 : vs = [.ref a, .ref r]) (c1 : SqL K H a (ns.map V.int)) (c2 : ns.length ≤ 63) (c3 : RmS H r rs) (c4 : Xf (rs.map Ro.name)) (c5 : rs.length ≤ 12) (c6 : 1 ≤ (plc rs).length) (c7 : ∀ (line : Str) (H' : Hp), Same H H' → Bad rs line → Q (.str line) H') : spBad K vs H Q E0_
noncomputable abbrev pLBad : List Str := ["_law_script", "_law_drawn"]
noncomputable abbrev nLBad : List Str := ["_law_script", "_law_drawn", "_law_word", "_law_place", "_law_strange", "_law_good", "_law_some"]
theorem scLBad : FnScope nLBad pLBad (defScope sLBad) := ⟨rfl, rfl, rfl, by decide +kernel, rfl, by decide +kernel, by decide +kernel⟩
inductive spLaw (K : PySem.W.Frag) (vs : List V) (H : Hp) (Q : VK) (E0_ : XK) : Prop
  | mk (a : Addr) (ns : List Int) (c0 : vs = [.ref a]) (c1 : SqL K H a (ns.map V.int)) (c2 : ns.length ≤ 63) (c3 : ∀ H', Q (.bl true) H') : spLaw K vs H Q E0_
noncomputable abbrev pLaw : List Str := ["_law_script"]
noncomputable abbrev nLaw : List Str := ["_law_script", "_law_places", "_law_things", "_law_drawn", "_law_room_here", "_law_k"]
theorem scLaw : FnScope nLaw pLaw (defScope sLaw) := ⟨rfl, rfl, rfl, by decide +kernel, rfl, by decide +kernel, by decide +kernel⟩
theorem words_in {wd : Str} (h : wd ∈ wordsS) : wd = "feel" ∨ wd = "try" ∨ wd = "heft" := by
  simpa only [wordsS, List.mem_cons, List.not_mem_nil, or_false] using h
theorem up_ok {wd : Str} (h : wd ∈ wordsS) : 32 ∉ cs (Txt.upper wd) ∧ (Txt.upper wd).length ≤ 16 ∧ Txt.upper wd ∉ wordsS := by
  rcases words_in h with e | e | e <;> (subst e; exact ⟨by decide +kernel, by decide +kernel, by decide +kernel⟩)
theorem wd_ok {wd : Str} (h : wd ∈ wordsS) : 32 ∉ cs wd ∧ wd.length ≤ 16 := by
  rcases words_in h with e | e | e <;> (subst e; exact ⟨by decide +kernel, by decide +kernel⟩)
noncomputable abbrev Sm (x : Str) : Prop := ∀ c ∈ cs x, c < 1000
theorem Sm.app {x y : Str} (h1 : Sm x) (h2 : Sm y) : Sm (x ++ y) := fun c hc => by
  rw [cs_app] at hc
  rcases List.mem_append.mp hc with z | z
  · exact h1 c z
  · exact h2 c z
theorem Sm.rp {x : Str} (h : Sm x) (l : x.length ≤ 300) : Rp x := by
  have h1 := StrLaws.reprText_len x fun c hc => by
    have := h c hc
    lia
  unfold Rp
  lia
theorem nv_sm {x : Str} (h : Nv x) : Sm x := fun c hc => by have := h.low c hc; lia
theorem wd_sm {wd : Str} (h : wd ∈ wordsS) : Sm wd ∧ Sm (Txt.upper wd) := by
  rcases words_in h with e | e | e <;> (subst e; exact ⟨by decide +kernel, by decide +kernel⟩)
end
end K12
namespace K12
open PySem L2 Tx Rk PyProof.Rows PySem.SeqAt
open PySem.PyData (strOk)
section
variable {P : Program} {w : World} {K : PySem.W.Frag} {mg : Str → Option Value} {base : Heap}
theorem nolk_pl {rs : List Ro} {a b : Str} (hb : ¬ b = "hand") (h : a ∉ wordsS ∨ b ∉ (plc rs).map (·.1)) : lkB rs a b = false := by
  unfold lkB
  rw [if_neg hb]
  rcases h with h | h
  · rw [decide_eq_false h]; rfl
  · rw [decide_eq_false h, Bool.and_false]
theorem bad_all {rs : List Ro} {w s p : Str} (hw : w ∈ wordsS) (hp : p ∈ (plc rs).map (·.1)) (np : Nv p) (hs : s ∉ (plc rs).map (·.1)) (ns : Nv s) (low : ∀ x ∈ (plc rs).map (·.1), Nv x) {line : Str} (hl : line ∈ badL w s p) : Bad rs line := by
  have w1 := wd_ok hw
  have u1 := up_ok hw
  have sw := wd_sm hw
  have sp := nv_sm np
  have ss := nv_sm ns
  have lp := np.len
  have ls := ns.len
  have pb := np.noblank
  have sb := ns.noblank
  have ph : ¬ p = "hand" := fun e => np.fix (by rw [e]; decide +kernel)
  have sh : ¬ s = "hand" := fun e => ns.fix (by rw [e]; decide +kernel)
  have b1 : (Str.ofString " ").length = 1 := by decide +kernel
  have b2 : (Str.ofString "  ").length = 2 := by decide +kernel
  have b3 : (Str.ofString "; ").length = 2 := by decide +kernel
  have b4 : (Str.ofString "look ").length = 5 := by decide +kernel
  have b5 : (Str.ofString "take ").length = 5 := by decide +kernel
  have b6 : (Str.ofString "shake ").length = 6 := by decide +kernel
  have m1 : Sm (Str.ofString " ") := by decide +kernel
  have m2 : Sm (Str.ofString "  ") := by decide +kernel
  have m3 : Sm (Str.ofString "; ") := by decide +kernel
  have m4 : Sm (Str.ofString "look ") := by decide +kernel
  have m5 : Sm (Str.ofString "take ") := by decide +kernel
  have m6 : Sm (Str.ofString "shake ") := by decide +kernel
  have e0 : 32 ∉ cs (Str.ofString "") := by decide +kernel
  -- one line
  have one : ∀ {x : Str} (ws : List Str), x = Txt.join blank ws → ws ≠ [] → (∀ y ∈ ws, 32 ∉ cs y) → NoLk rs ws → x.length ≤ 300 → Sm x → Bad rs x := fun ws e ne nb nl le sm => ⟨⟨ws, ⟨e, ne, nb⟩, nl⟩, le, sm.rp le⟩
  have nb1 : ∀ {a : Str}, 32 ∉ cs a → ∀ y ∈ [a], 32 ∉ cs y := fun h y hy => by rw [List.mem_singleton.mp hy]; exact h
  have nb2 : ∀ {a b : Str}, 32 ∉ cs a → 32 ∉ cs b → ∀ y ∈ [a, b], 32 ∉ cs y := fun h1 h2 y hy => by
    rcases List.mem_cons.mp hy with e | e
    · rw [e]; exact h1
    · exact nb1 h2 y e
  have nb3 : ∀ {a b c : Str}, 32 ∉ cs a → 32 ∉ cs b → 32 ∉ cs c → ∀ y ∈ [a, b, c], 32 ∉ cs y := fun h1 h2 h3 y hy => by
    rcases List.mem_cons.mp hy with e | e
    · rw [e]; exact h1
    · exact nb2 h2 h3 y e
  have ne1 : ∀ {a : Str}, NoLk rs [a] := .inl (fun z => absurd (show (1 : Nat) = 2 from z) (by decide))
  have ne3 : ∀ {a b c : Str}, NoLk rs [a, b, c] := .inl (fun z => absurd (show (3 : Nat) = 2 from z) (by decide))
  have assoc : ∀ a b c : Str, a ++ (b ++ c) = a ++ b ++ c := fun a b c => cs_inj (by rw [cs_app, cs_app, cs_app, cs_app, List.append_assoc])
  have nil_app : ∀ a : Str, Str.ofString "" ++ a = a := fun a => cs_inj (by rw [cs_app]; rfl)
  have app_nil : ∀ a : Str, a ++ Str.ofString "" = a := fun a => cs_inj (by rw [cs_app]; exact List.append_nil _)
  rcases List.mem_append.mp hl with hl | hl
  · rcases List.mem_append.mp hl with hl | hl
    · rcases List.mem_append.mp hl with hl | hl
      · simp only [bad1, List.mem_cons, List.not_mem_nil, or_false] at hl
        rcases hl with e | e | e | e | e | e | e <;> rw [e]
        · exact one [""] rfl (List.cons_ne_nil _ _) (nb1 e0) ne1 (by decide +kernel) (by decide +kernel)
        · exact one [w] rfl (List.cons_ne_nil _ _) (nb1 w1.1) ne1 (by lia) sw.1
        · exact one [w, s] rfl (List.cons_ne_nil _ _) (nb2 w1.1 sb) (.inr ⟨_, _, rfl, nolk_pl sh (.inr hs)⟩) (by simp only [len_app]; lia) ((sw.1.app m1).app ss)
        · exact one [w, p, p] rfl (List.cons_ne_nil _ _) (nb3 w1.1 pb pb) ne3 (by simp only [len_app]; lia) ((((sw.1.app m1).app sp).app m1).app sp)
        · exact one ["try", "hand"] (by decide +kernel) (List.cons_ne_nil _ _) (nb2 (by decide +kernel) (by decide +kernel)) (.inr ⟨_, _, rfl, by unfold lkB; rw [if_pos rfl]; decide +kernel⟩) (by decide +kernel) (by decide +kernel)
        · exact one ["heft", "hand"] (by decide +kernel) (List.cons_ne_nil _ _) (nb2 (by decide +kernel) (by decide +kernel)) (.inr ⟨_, _, rfl, by unfold lkB; rw [if_pos rfl]; decide +kernel⟩) (by decide +kernel) (by decide +kernel)
        · exact one ["feel", "hand", "hand"] (by decide +kernel) (List.cons_ne_nil _ _) (nb3 (by decide +kernel) (by decide +kernel) (by decide +kernel)) ne3 (by decide +kernel) (by decide +kernel)
      · simp only [bad2, List.mem_cons, List.not_mem_nil, or_false] at hl
        rcases hl with e | e | e | e | e <;> rw [e]
        · exact one ["look", p] (by rw [show (Str.ofString "look ") = "look" ++ blank from by decide +kernel]; rfl) (List.cons_ne_nil _ _) (nb2 (by decide +kernel) pb) (.inr ⟨_, _, rfl, nolk_pl ph (.inl (by decide +kernel))⟩) (by simp only [len_app]; lia) (m4.app sp)
        · exact one ["take", p] (by rw [show (Str.ofString "take ") = "take" ++ blank from by decide +kernel]; rfl) (List.cons_ne_nil _ _) (nb2 (by decide +kernel) pb) (.inr ⟨_, _, rfl, nolk_pl ph (.inl (by decide +kernel))⟩) (by simp only [len_app]; lia) (m5.app sp)
        · exact one ["shake", p] (by rw [show (Str.ofString "shake ") = "shake" ++ blank from by decide +kernel]; rfl) (List.cons_ne_nil _ _) (nb2 (by decide +kernel) pb) (.inr ⟨_, _, rfl, nolk_pl ph (.inl (by decide +kernel))⟩) (by simp only [len_app]; lia) (m6.app sp)
        · exact one [Txt.upper w, p] rfl (List.cons_ne_nil _ _) (nb2 u1.1 pb) (.inr ⟨_, _, rfl, nolk_pl ph (.inl u1.2.2)⟩) (by simp only [len_app]; lia) ((sw.2.app m1).app sp)
        · exact one ["", w, p] (by
            show _ = (((Str.ofString "" ++ blank) ++ w) ++ blank) ++ p
            rw [nil_app, assoc, assoc]
            rfl) (List.cons_ne_nil _ _) (nb3 e0 w1.1 pb) ne3 (by simp only [len_app]; lia) (m1.app ((sw.1.app m1).app sp))
    · simp only [bad3, List.mem_cons, List.not_mem_nil, or_false] at hl
      subst hl
      exact one [w, "", p] (by
        show _ = (((w ++ blank) ++ Str.ofString "") ++ blank) ++ p
        rw [app_nil, show (Str.ofString "  ") = blank ++ blank from by decide +kernel, assoc]) (List.cons_ne_nil _ _) (nb3 w1.1 e0 pb) ne3 (by simp only [len_app]; lia) ((sw.1.app m2).app sp)
  · simp only [bad4, List.mem_cons, List.not_mem_nil, or_false] at hl
    rcases hl with e | e | e | e | e | e | e <;> rw [e]
    · exact one [w, p, ""] (by
        show _ = (((w ++ blank) ++ p) ++ blank) ++ Str.ofString ""
        rw [app_nil]
        rfl) (List.cons_ne_nil _ _) (nb3 w1.1 pb e0) ne3 (by simp only [len_app]; lia) (((sw.1.app m1).app sp).app m1)
    · exact one [w ++ p] rfl (List.cons_ne_nil _ _) (nb1 (by rw [cs_app]; exact fun z => (List.mem_append.mp z).elim w1.1 pb)) ne1 (by simp only [len_app]; lia) (sw.1.app sp)
    · exact one [p] rfl (List.cons_ne_nil _ _) (nb1 pb) ne1 (by lia) sp
    · exact one ["hand"] rfl (List.cons_ne_nil _ _) (nb1 (by decide +kernel)) ne1 (by decide +kernel) (by decide +kernel)
    · refine one ["feel", "Hand"] (by decide +kernel) (List.cons_ne_nil _ _) (nb2 (by decide +kernel) (by decide +kernel)) (.inr ⟨_, _, rfl, nolk_pl (by decide +kernel) (.inr fun z => ?_)⟩) (by decide +kernel) (by decide +kernel)
      have := (low _ z).low 72 (by decide +kernel)
      lia
    · exact one ["feel", "hand", ""] (by decide +kernel) (List.cons_ne_nil _ _) (nb3 (by decide +kernel) (by decide +kernel) e0) ne3 (by decide +kernel) (by decide +kernel)
    · refine one [w, p ++ ";", w, p] (by
        show _ = (((((w ++ blank) ++ (p ++ ";")) ++ blank) ++ w) ++ blank) ++ p
        rw [show (Str.ofString "; ") = ";" ++ blank from by decide +kernel]
        simp only [assoc]
        rfl) (List.cons_ne_nil _ _) (fun y hy => ?_) (.inl (fun z => absurd (show (4 : Nat) = 2 from z) (by decide))) (by simp only [len_app]; lia) ((((sw.1.app m1).app sp).app m3).app ((sw.1.app m1).app sp))
      rcases List.mem_cons.mp hy with e | e
      · rw [e]; exact w1.1
      · exact nb3 (by rw [cs_app]; exact fun z => (List.mem_append.mp z).elim pb (by decide +kernel)) w1.1 pb y e
end
end K12
namespace K12
open PySem L2 Tx Rk PyProof.Rows PySem.SeqAt
open PySem.PyData (strOk)
section
variable {P : Program} {w : World} {K : PySem.W.Frag} {mg : Str → Option Value} {base : Heap}
theorem ok_shapeof {f C : Addr} {fd : FuncData} (F : Fun K "shape_of" "Room.shape_of" sShapeOf f fd) (L : Cl K C) : FnOk P w K mg base CX0 1 f fd ["self", "thing"] (spShape0 C) := by
  refine F.ok scShapeOf (fun vs H Q E h => ?_) (fun cdv A outer s H vs Q E hr h => ?_)
  · obtain ⟨x, rs, p, rfl, _⟩ := h
    rfl
  · obtain ⟨x, rs, p, rfl, R, g, hp, q⟩ := h
    have hu := hu_of hr
    obtain ⟨dx, d1, d2, o, kvs, h1, h2, h3, h4⟩ := R.ex
    have dg : DGet H d2 (.str p.1) (some (.str p.2)) := .inl ⟨shK rs, (Sum.inr p.1 : Key), .inl h4, rfl, (sh_find g.ndT hp).symm⟩
    refine ⟨_, pss_cons (ps_if (pt_cmp (pc_dnotin hu (pv 1) (pe_fld (pv 0) rfl))) pss_never pss_nil) (pss_one (ps_ret (pe_dget hu (pe_fld (pv 0) rfl) (pv 1) (fun _ _ => rfl)))), ?_⟩
    refine ⟨_, rfl, _, rfl, x, C, dx, _, _, rfl, h1, L.cl, L.nS, rf_shapes d1 d2, d2, _, rfl, dg, _, rfl, ?_⟩
    refine iteF ?_
    exact ⟨_, rfl, x, C, dx, _, _, rfl, h1, L.cl, L.nS, rf_shapes d1 d2, _, rfl, d2, _, rfl, dg, q⟩
end
end K12
namespace K12
open PySem L2 Tx Rk PyProof.Rows PySem.SeqAt
open PySem.PyData (strOk)
section
variable {P : Program} {w : World} {K : PySem.W.Frag} {mg : Str → Option Value} {base : Heap}
theorem ok_islook {f C aW f_places : Addr} {fd d_places : FuncData} (F : Fun K "is_look" "is_look" sIsLook f fd) (L : Cl K C) (MW : Mw K mg aW) (b_places : Binds K d_places ["self"] []) (m_places : Meth K C "places" f_places) (G_places : FnOk P w K mg base CX0 1 f_places d_places ["self"] (spPlaces C)) : FnOk P w K mg base CX0 2 f fd pIsLook (spIsLook C) := by
  refine F.ok scIsLook (fun vs H Q E h => ?_) (fun cdv A outer s H vs Q E hr1 h => ?_)
  · obtain ⟨x, rs, a, b, rfl, _⟩ := h
    rfl
  · obtain ⟨x, rs, a, b, rfl, R, q⟩ := h
    obtain ⟨dx, d1, d2, o, kvs, h1, h2, h3, h4⟩ := R.ex
    refine ⟨_, (pss_cons (ps_if (pt_cmpR op_eq (pv 2) pe_str (nomark _)) (pss_one (ps_ret (pe_cmpR op_eq (pv 1) pe_str (nomark _)))) pss_nil)
      (pss_one (ps_ret (pe_and (pe_cmpR op_in_seq (pv 1) (pe_glob (v := .ref aW) (by rfl) MW.wm rfl) (by rfl)) (pe_one (pe_cmpR op_in_seq (pv 2) (pe_meth0 (pv 0) L.cl m_places G_places hr1 b_places .nil pass0) (by rfl))))))), ?_⟩
    refine ⟨_, rfl, rfl, _, rfl, ?_⟩
    by_cases hb : b = "hand"
    · refine iteS hb ?_
      refine ⟨_, rfl, rfl, ?_⟩
      have q' := q H (Same.refl _)
      unfold lkB at q'
      rw [if_pos hb] at q'
      rw [dec_s]
      exact q'
    · refine iteN hb ?_
      unfold lkB at q
      rw [if_neg hb] at q
      refine ⟨_, rfl, aW, _, rfl, .inr (MW.wv H), rfl, flat_strs _, _, rfl, ?_⟩
      show if inV (V.str a) (wordsS.map V.str) = true then _ else _
      rw [inV_strs]
      by_cases ha : a ∈ wordsS
      · rw [decide_eq_true ha] at q ⊢
        refine iteT ?_
        refine ⟨_, rfl, _, rfl, x, dx, _, rfl, h1, rf_no d1 d2 (by decide +kernel) (by decide +kernel), x, rs, rfl, R, fun l H1 s1 fl el => ?_⟩
        refine ⟨l, _, rfl, .inl (SqL.of el), rfl, flat_strs _, ?_⟩
        show Q (.bl (inV (V.str b) (((plc rs).map (·.1)).map V.str))) H1
        rw [inV_strs]
        exact q H1 s1
      · rw [decide_eq_false ha] at q ⊢
        exact iteF (q H (Same.refl _))
end
end K12
namespace K12
open PySem L2 Tx Rk PyProof.Rows PySem.SeqAt
open PySem.PyData (strOk)
section
variable {P : Program} {w : World} {K : PySem.W.Frag} {mg : Str → Option Value} {base : Heap}
theorem ok_shapetold {f C f_s : Addr} {fd d_s : FuncData} (F : Fun K "shape_told" "shape_told" sShapeTold f fd) (L : Cl K C) (b_shape_of : Binds K d_s ["self", "thing"] []) (m_shape_of : Meth K C "shape_of" f_s) (G_shape_of : FnOk P w K mg base CX0 1 f_s d_s ["self", "thing"] (spShape0 C)) : FnOk P w K mg base CX0 2 f fd pShapeTold (spShapeTold C) := by
  refine F.ok scShapeTold (fun vs H Q E h => ?_) (fun cdv A outer s H vs Q E hr1 h => ?_)
  · obtain ⟨x, rs, o, z, rfl, _⟩ := h
    rfl
  · obtain ⟨x, rs, o, z, rfl, R, g, sh, q⟩ := h
    obtain ⟨dx, d1, d2, ob, kvs, h1, h2, h3, h4⟩ := R.ex
    refine ⟨_, (pss_one (ps_ret (pe_ifExp (pt_cmpR op_isN (pv 1) pe_non (nomark _)) pe_str (pe_meth (pv 0) L.cl m_shape_of G_shape_of hr1 b_shape_of .nil pass0 (pa_cons (pv 1) pa_nil))))), ?_⟩
    refine ⟨_, rfl, rfl, _, rfl, ?_⟩
    rcases sh with ⟨rfl, rfl⟩ | ⟨y, hy, rfl, rfl⟩
    · exact iteT q
    · refine iteF ?_
      exact ⟨_, rfl, x, dx, _, rfl, h1, rf_no d1 d2 (by decide +kernel) (by decide +kernel), _, rfl, x, rs, y, rfl, R, g, hy, q⟩
end
end K12
namespace K12
open PySem L2 Tx Rk PyProof.Rows PySem.SeqAt
open PySem.PyData (strOk)
section
variable {P : Program} {w : World} {K : PySem.W.Frag} {mg : Str → Option Value} {base : Heap}
theorem ok_readlook {f C G NN f_is : Addr} {fd d_is : FuncData} (F : Fun K "read_look" "read_look" sReadLook f fd) (T : Bl mg) (R' : Er K mg G NN) (D_is_look : Df K mg "is_look" sIsLook pIsLook f_is d_is) (G_is_look : FnOk P w K mg base CX0 2 f_is d_is pIsLook (spIsLook C)) : FnOk P w K mg base (CXe P w) 3 f fd pReadLook (spReadLook C NN) := by
  refine F.okE scReadLook (fun vs H Q E h => ?_) (fun cdv A outer s H vs Q E hr2 h => ?_)
  · obtain ⟨x, rs, line, ws, rfl, _⟩ := h
    rfl
  · obtain ⟨x, rs, line, ws, rfl, R, hw, ln, q⟩ := h
    have hsl : sizeLine = 16777216 := sizeLine_eq
    refine ⟨_, (pss_cons (ps_set (i := 2) scReadLook.nd rfl (Or.inl rfl) (pe_bm PySem.F.plainAttrs_str PySem.F.slot_str_split PySem.F.type_str_split mt_split (pv 1) (pa_cons pe_str pa_nil)))
      (pss_cons (ps_if (PW.pt (pw_or (pt_cmpR op_ne (pe_callB call_len (by rfl) T.len PySem.boot_len (pa_cons (pv 2) pa_nil)) pe_int (nomark _)) (pw_or1 (pt_not (pt_val (pe_call G_is_look hr2 (by rfl) D_is_look.m D_is_look.F.kp D_is_look.b .nil pass0 (pa_cons (pv 0) (pa_cons (pe_ix ix_list (pv 2) pe_int (fun _ _ => rfl)) (pa_cons (pe_ix ix_list (pv 2) pe_int (fun _ _ => rfl)) pa_nil))))))))) (pss_one (ps_raise R'.oN (by rfl) R'.mN (pa_cons (pe_fstrR (pv 1) (by decide +kernel)) pa_nil))) pss_nil)
      (pss_one (ps_ret (pv 2))))), ?_⟩
    refine ⟨_, rfl, rfl, _, _, rfl, rfl, by rfl, by lia, fun l hl => ?_⟩
    refine lst_new ws _ (by show (Txt.split _ blank).map V.str = _; rw [hw.split]) hl fun H1 s1 el => ?_
    refine ⟨_, rfl, _, _, rfl, .inl ⟨_, SqL.of el, rfl⟩, rfl, _, rfl, ?_⟩
    by_cases h2 : ws.length = 2
    · obtain ⟨a, b, rfl⟩ : ∃ a b, ws = [a, b] := by
        match ws, h2 with
        | [a, b], _ => exact ⟨a, b, rfl⟩
      have a0 : atI [V.str a, V.str b] ((0 : Nat) : Int) = some (.str a) := atI_nat rfl
      have a1 : atI [V.str a, V.str b] ((1 : Nat) : Int) = some (.str b) := atI_nat rfl
      refine iteNS rfl ?_
      refine ⟨_, rfl, _, rfl, l, _, _, _, rfl, rfl, SqL.of el, a0, _, rfl, l, _, _, _, rfl, rfl, SqL.of el, a1, x, rs, a, b, rfl, R.same s1, fun H2 s2 => ⟨_, rfl, ?_⟩⟩
      rcases q with ⟨a', b', e, lk, q⟩ | ⟨nl, rp, q⟩
      · cases e
        rw [lk]
        refine iteF ?_
        exact ⟨_, rfl, q l H2 (s1.trans s2) (s2 _ _ el)⟩
      · have lk : lkB rs a b = false := by
          rcases nl with z | ⟨a', b', e, z⟩
          · exact absurd rfl z
          · cases e
            exact z
        rw [lk]
        refine iteT ?_
        exact ⟨_, rfl, line, rfl, rp, by show 1 ≤ 1000; decide, fun a' ha' => q a' H2 (s1.trans s2) ha'⟩
    · have hne : ¬ (V.int ((ws.map V.str).length : Int)) = V.int 2 := fun e => h2 (by
        have := V.int.inj e
        rw [List.length_map] at this
        lia)
      rw [decide_eq_false hne]
      refine iteT ?_
      refine iteT ?_
      rcases q with ⟨a', b', e, _⟩ | ⟨nl, rp, q⟩
      · exact absurd (by rw [e]; rfl) h2
      · exact ⟨_, rfl, line, rfl, rp, by show 1 ≤ 1000; decide, fun a' ha' => q a' H1 s1 ha'⟩
end
end K12
namespace K12
open PySem L2 Tx Rk PyProof.Rows PySem.SeqAt
open PySem.PyData (strOk)
section
variable {P : Program} {w : World} {K : PySem.W.Frag} {mg : Str → Option Value} {base : Heap}
theorem ok_looked {f C NN f1 f2 : Addr} {fd d1 d2 : FuncData} (F : Fun K "looked" "looked" sLooked f fd) (D_read_look : Df K mg "read_look" sReadLook pReadLook f1 d1) (D_shape_told : Df K mg "shape_told" sShapeTold pShapeTold f2 d2)
    (G_read_look : FnOk P w K mg base (CXe P w) 3 f1 d1 pReadLook (spReadLook C NN)) (G_shape_told : FnOk P w K mg base CX0 2 f2 d2 pShapeTold (spShapeTold C)) : FnOk P w K mg base (CXe P w) 4 f fd pLooked (spLooked C NN) := by
  refine F.okE scLooked (fun vs H Q E h => ?_) (fun cdv A outer s H vs Q E hr3 h => ?_)
  · obtain ⟨x, rs, v, W, line, ws, rfl, _⟩ := h
    rfl
  · obtain ⟨x, rs, v, W, line, ws, rfl, R, g, rv, hw, ln, q⟩ := h
    have hr2 : Room 2 _ := hr3.mono (by decide)
    obtain ⟨c, v0, hb, cl, xs, ys, rfl, ea, r0, eb, rb, ec, rc⟩ := parts rv
    have hv0 := hand_at r0
    subst hv0
    refine ⟨_, (pss_cons (ps_set (i := 3) scLooked.nd rfl (Or.inl rfl) (pe_call G_read_look hr3 (by rfl) D_read_look.m D_read_look.F.kp D_read_look.b .nil passE (pa_cons (pv 0) (pa_cons (pv 1) pa_nil))))
      (pss_cons (ps_if (pt_cmpR op_eq (pe_ix ix_list (pv 3) pe_int (fun _ _ => rfl)) pe_str (nomark _)) (pss_one (ps_ret (pe_call G_shape_told hr2 (by rfl) D_shape_told.m D_shape_told.F.kp D_shape_told.b .nil pass0 (pa_cons (pv 0) (pa_cons (pe_ix ix_tup (pv 2) pe_int (fun _ _ => rfl)) pa_nil))))) pss_nil)
      (pss_cons (ps_if (pt_cmpR op_notN (pe_ix ix_tup (pv 2) pe_int (fun _ _ => rfl)) pe_non (nomark _)) (pss_one (ps_ret pe_non)) pss_nil)
      (pss_cons (ps_if (pt_cmpR op_eq (pe_ix ix_list (pv 3) pe_int (fun _ _ => rfl)) pe_str (nomark _)) (pss_one ps_never) pss_nil)
      (pss_cons (ps_if (pt_cmpR op_eq (pe_ix ix_list (pv 3) pe_int (fun _ _ => rfl)) pe_str (nomark _)) (pss_one ps_never) pss_nil)
      (pss_one ps_never)))))), ?_⟩
    rcases q with ⟨rfl, ha, q⟩ | ⟨nl, rp, q⟩
    · refine ⟨_, rfl, _, rfl, x, rs, line, _, rfl, R, hw, ln, .inl ⟨"feel", "hand", rfl, by unfold lkB; rw [if_pos rfl]; decide +kernel, fun lw H1 s1 el => ?_⟩⟩
      have a1 : atI [V.str "feel", V.str "hand"] ((1 : Nat) : Int) = some (.str "hand") := atI_nat rfl
      have w0 : atI [oV W.hand, V.ref hb, V.ref cl] ((0 : Nat) : Int) = some (oV W.hand) := atI_nat rfl
      refine ⟨_, rfl, lw, _, _, _, rfl, rfl, SqL.of el, a1, rfl, _, rfl, ?_⟩
      refine iteS rfl ?_
      exact ⟨_, rfl, _, rfl, c, _, _, _, rfl, rfl, SqT.of (s1 _ _ ea), w0, x, rs, W.hand, shF rs W.hand, rfl, R.same s1, g, shF_ok ha, q H1 s1⟩
    · exact ⟨_, rfl, _, rfl, x, rs, line, _, rfl, R, hw, ln, .inr ⟨nl, rp, q⟩⟩
end
end K12
namespace K12
open PySem L2 Tx Rk PyProof.Rows PySem.SeqAt
open PySem.PyData (strOk)
section
variable {P : Program} {w : World} {K : PySem.W.Frag} {mg : Str → Option Value} {base : Heap}
theorem ok_refused {f C G NN f1 : Addr} {fd d1 : FuncData} (F : Fun K "_law_refused" "_law_refused" sLRefused f fd) (R' : Er K mg G NN) (T : Bl mg) (D_looked : Df K mg "looked" sLooked pLooked f1 d1) (G_looked : FnOk P w K mg base (CXe P w) 4 f1 d1 pLooked (spLooked C NN)) : FnOk P w K mg base CX0 5 f fd pRefused (spRefused C) := by
  refine F.ok scRefused (fun vs H Q E h => ?_) (fun cdv A outer s H vs Q E hr h => ?_)
  · obtain ⟨x, rs, v, W, line, rfl, _⟩ := h
    rfl
  · obtain ⟨x, rs, v, W, line, rfl, R, g, rv, bd, q⟩ := h
    have hun := hr.units
    have hbl := bd.len
    refine ⟨_, pss_cons (ps_set (i := 3) scRefused.nd rfl (Or.inl rfl) (pe_tup pa_nil))
      (pss_cons (ps_try (G := G) (nG := "ValueError.__new__") (j := 4) rfl rfl rfl R'.oG (by rfl) R'.mG scRefused.nd rfl rfl
        (fun pn xe E' hx => pss_one (ps_expr (pe_call G_looked hr (by rfl) D_looked.m D_looked.F.kp D_looked.b .nil hx (pa_cons (pv 0) (pa_cons (pv 1) (pa_cons (pv 2) pa_nil))))))
        (fun a => pss_one (ps_set (i := 3) scRefused.nd rfl (Or.inl rfl) (pe_tup (pa_cons (pe_callB call_isiE (by rfl) T.isi bt_isi (pa_cons (pv 4) (pa_cons (pe_glob (v := .ref NN) (by rfl) R'.mN rfl) pa_nil)))
          (pa_cons (pe_callB (call_isiV (C := NN) R'.oN ty_ve) (by rfl) T.isi bt_isi (pa_cons (pv 4) (pa_cons (pe_bltn (v := .ty "ValueError") (by rfl) T.ve bt_ve rfl) pa_nil))) pa_nil))))))
      (pss_one (ps_ret (pe_cmpR (op_eqTB hun) (pv 3) (pe_tup (pa_cons pe_bl (pa_cons pe_bl pa_nil))) (nomark _))))), ?_⟩
    refine ⟨Nat.zero_le _, fun t0 ht0 => ?_⟩
    have s0 : Same H (upd H t0 (.tup [])) := Same.new ht0
    generalize (upd H t0 (.tup [])) = H1 at s0 ⊢
    obtain ⟨ws, hw, nl⟩ := bd.ex
    refine ⟨_, rfl, _, rfl, _, rfl, x, rs, v, W, line, ws, rfl, R.same s0, g, s0.rd rv, hw, by lia, .inr ⟨nl, bd.rp, fun a H2 s2 ha => ⟨a, NN, _, rfl, rfl, R'.oN, R'.sub, fun _ => ?_⟩⟩⟩
    refine ⟨_, rfl, a, NN, rfl, upd_same, _, rfl, a, rfl, upd_same, by show 2 ≤ sizeLine; decide, fun t ht => ?_⟩
    refine ⟨_, rfl, by show 2 ≤ sizeLine; decide, fun t2 ht2 => ⟨t, t2, [true, true], [true, true], rfl, rfl, (Same.new ht2) _ _ upd_same, upd_same, by decide +kernel, by decide +kernel, ?_⟩⟩
    exact q _ ((((s0.trans s2).trans (Same.new ha)).trans (Same.new ht)).trans (Same.new ht2))
end
end K12
namespace K12
open PySem L2 Tx Rk PyProof.Rows PySem.SeqAt
open PySem.PyData (strOk)
section
variable {P : Program} {w : World} {K : PySem.W.Frag} {mg : Str → Option Value} {base : Heap}
theorem ok_fresh {f : Addr} {fd : FuncData} (F : Fun K "_law_fresh" "_law_fresh" sLFresh f fd) (T : Bl mg) : FnOk P w K mg base CX0 1 f fd pLFresh spFresh := by
  refine F.ok scLFresh (fun vs H Q E h => ?_) (fun cdv A outer s H vs Q E hr h => ?_)
  · obtain ⟨r, rs, rfl, _⟩ := h
    rfl
  · obtain ⟨r, rs, rfl, R, xf, rl, q⟩ := h
    have hu := hu_of hr
    have hsl : sizeLine = 16777216 := sizeLine_eq
    obtain ⟨kvs, L3, pp, pt, d1, d2, d3, D, k1, k2, k3, k4, k5, k6, k7, g1, g2, g3, g4, g5, g6, g7⟩ := R.ex
    refine ⟨_, (pss_cons (ps_set (i := 1) scLFresh.nd rfl (Or.inr rfl) (pe_op op_cat (pe_dget hu (pv 0) pe_str (fun _ _ => rfl)) (pe_dget hu (pv 0) pe_str (fun _ _ => rfl))))
      (pss_one (ps_ret (pe_lc (N := ["_law_k", "_law_used"]) (sc := defScope sLFresh) (own := ["_law_k"]) (fr := ["_law_used"]) (js := [1]) ⟨rfl, rfl, rfl, rfl, by decide +kernel, by decide +kernel, by decide +kernel, rfl, by decide +kernel⟩ rfl (pi_range2 (by rfl) T.range (pa_cons pe_int (pa_cons pe_int pa_nil))) (fun _ _ _ _ => pg_name (i := 0) (show List.Nodup (["_law_k", "_law_used"] : List Str) by decide +kernel) rfl (Or.inl rfl)) (fun _ _ _ _ => pif_one (pt_cmpR (op_notIn_seqK K rfl) (pe_op op_mulS pe_str (pv 0)) (pv 1) (by rfl))) (fun _ _ _ _ => (pe_op op_mulS pe_str (pv 0))))))), ?_⟩
    have hlen := len_rows rs
    refine ⟨_, rfl, r, _, rfl, dget k1 k2, _, rfl, r, _, rfl, dget k1 k3, pp, pt, _, _, rfl, rfl, g1, g2, by simp only [List.length_map]; lia, fun lu hlu => ?_⟩
    have eu : (upd H lu (.lst (((plc rs).map (·.1)).map V.str ++ ((ths rs).map (·.1)).map V.str))) lu = some (.lst (((plc rs).map (·.1) ++ (ths rs).map (·.1)).map V.str)) := by rw [upd_same, List.map_append]
    have s1 : Same H (upd H lu (.lst (((plc rs).map (·.1)).map V.str ++ ((ths rs).map (·.1)).map V.str))) := Same.new hlu
    generalize (upd H lu (.lst (((plc rs).map (·.1)).map V.str ++ ((ths rs).map (·.1)).map V.str))) = H1 at eu s1 ⊢
    have hmem : ∀ x, x ∈ (plc rs).map (·.1) ++ (ths rs).map (·.1) ↔ x ∈ rs.map Ro.name := fun x => (names_perm rs).mem_iff.symm
    generalize (plc rs).map (·.1) ++ (ths rs).map (·.1) = us at eu hmem
    refine ⟨_, _, rfl, ⟨by decide, by decide, by decide, by decide⟩, fun D2 hD2 => ?_⟩
    refine lcJ (n := ((9 : Int) - 1).toNat) (fun i ys H2 => ys = (((List.range i).map fun j => xr (j + 1)).filter fun z => !decide (z ∈ us)).map V.str ∧ Same H1 H2 ∧ H2 D2 = some (.lst ys)) ⟨rfl, Same.new hD2, upd_same⟩
      (fun i _ _ hi _ => hi) (fun _ _ _ => Nat.le_refl _) ?_ ?_
    · rintro i ys H2 x H3 hi ⟨rfl, sm, e2⟩ ⟨rfl, rfl⟩
      have hi8 : i < 8 := hi
      have hx : Txt.mul (Str.ofString "x") (1 + (i : Int)) = xr (i + 1) := by
        have := xr_mul (k := i + 1) (by lia)
        rw [← this]
        congr 1
        lia
      have hfl : ((((List.range i).map fun j => xr (j + 1)).filter fun z => !decide (z ∈ us)).map V.str).length ≤ 8 := by
        rw [List.length_map]
        refine Nat.le_trans (List.length_filter_le _ _) ?_
        rw [List.length_map, List.length_range]
        lia
      have hst : ((List.range (i + 1)).map fun j => xr (j + 1)).filter (fun z => !decide (z ∈ us)) = ((List.range i).map fun j => xr (j + 1)).filter (fun z => !decide (z ∈ us)) ++ [xr (i + 1)].filter (fun z => !decide (z ∈ us)) := by
        rw [List.range_succ, List.map_append, List.filter_append]
        rfl
      refine ⟨_, rfl, _, _, rfl, rfl, by lia, by lia, (by show 1 ≤ 1000; decide), ?_⟩
      rw [hx]
      refine ⟨_, rfl, lu, _, rfl, .inl (SqL.of (sm _ _ eu)), rfl, flat_strs _, _, rfl, ?_⟩
      show if (!inV (V.str (xr (i + 1))) (us.map V.str)) = true then _ else _
      rw [inV_strs]
      by_cases hm : xr (i + 1) ∈ us
      · rw [decide_eq_true hm]
        refine iteF ?_
        refine ⟨?_, sm, ?_⟩
        · rw [hst, List.filter_cons_of_neg (by simp [hm]), List.filter_nil, List.append_nil]
        · exact e2
      · rw [decide_eq_false hm]
        refine iteT ?_
        refine ⟨_, rfl, _, _, rfl, rfl, by lia, by lia, (by show 1 ≤ 1000; decide), ?_⟩
        rw [hx]
        refine ⟨_, e2, by lia, ?_, sm.put hD2, upd_same⟩
        rw [hst, List.filter_cons_of_pos (by simp [hm]), List.filter_nil, List.map_append]
        rfl
    · rintro ys H2 ⟨rfl, sm, e2⟩
      refine q D2 _ H2 (s1.trans sm) e2 ?_ ?_ fun z hz => ?_
      · obtain ⟨n, hn⟩ := xf
        obtain ⟨k, h1, h2, h3⟩ : ∃ k, 1 ≤ k ∧ k ≤ 2 ∧ k ≠ n := by
          by_cases e : n = 1
          · exact ⟨2, by decide, by decide, by lia⟩
          · exact ⟨1, by decide, by decide, fun z => e z.symm⟩
        refine List.length_pos_of_mem (a := xr k) (List.mem_filter.mpr ⟨List.mem_map.mpr ⟨k - 1, List.mem_range.mpr (by show k - 1 < 8; lia), by congr 1; lia⟩, ?_⟩)
        rw [decide_eq_false fun z => h3 (hn k h1 ((hmem _).mp z))]
        rfl
      · refine Nat.le_trans (List.length_filter_le _ _) ?_
        rw [List.length_map, List.length_range]
        decide
      · obtain ⟨h1, h2⟩ := List.mem_filter.mp hz
        obtain ⟨j, hj, rfl⟩ := List.mem_map.mp h1
        have hj8 : j < 8 := List.mem_range.mp hj
        refine ⟨fun z => ?_, xr_nv (by lia) (by lia)⟩
        rw [decide_eq_true ((hmem _).mpr z)] at h2
        cases h2
end
end K12
namespace K12
open PySem L2 Tx Rk PyProof.Rows PySem.SeqAt
open PySem.PyData (strOk)
section
variable {P : Program} {w : World} {K : PySem.W.Frag} {mg : Str → Option Value} {base : Heap}
theorem ok_bad {f fP fF : Addr} {fd dP dF : FuncData} (F : Fun K "_law_bad" "_law_bad" sLBad f fd) (T : Bl mg) (D_l_pick : Df K mg "_law_pick" sPick pPick fP dP) (D_l_fresh : Df K mg "_law_fresh" sLFresh pLFresh fF dF) (G_l_pick : FnOk P w K mg base CX0 1 fP dP pPick (spPick K)) (G_l_fresh : FnOk P w K mg base CX0 1 fF dF pLFresh spFresh) : FnOk P w K mg base CX0 2 f fd pLBad (spBad K) := by
  refine F.ok scLBad (fun vs H Q E h => ?_) (fun cdv A outer s H vs Q E hr1 h => ?_)
  · obtain ⟨a, r, ns, rs, rfl, _⟩ := h
    rfl
  · obtain ⟨a, r, ns, rs, rfl, hS, hn, R, xf, rl, pn, q⟩ := h
    have hu := hu_of hr1
    have hsl : sizeLine = 16777216 := sizeLine_eq
    have g := R.good
    have hlen := len_rows rs
    obtain ⟨kvs, L3, pp, pt, d1, d2, d3, D, k1, k2, k3, k4, k5, k6, k7, g1, g2, g3, g4, g5, g6, g7⟩ := R.ex
    refine ⟨_, (pss_cons (ps_set (i := 2) scLBad.nd rfl (Or.inl rfl) (pe_ix ix_list (pe_lst (pa_cons pe_str (pa_cons pe_str (pa_cons pe_str pa_nil)))) (pe_call G_l_pick hr1 (by rfl) D_l_pick.m D_l_pick.F.kp D_l_pick.b .nil pass0 (pa_cons (pv 0) (pa_cons pe_int (pa_cons pe_int pa_nil)))) (fun _ _ => rfl)))
      (pss_cons (ps_set (i := 3) scLBad.nd rfl (Or.inl rfl) (pe_ix ix_list (pe_dget hu (pv 1) pe_str (fun _ _ => rfl)) (pe_call G_l_pick hr1 (by rfl) D_l_pick.m D_l_pick.F.kp D_l_pick.b .nil pass0 (pa_cons (pv 0) (pa_cons pe_int (pa_cons (pe_callB call_len (by rfl) T.len PySem.boot_len (pa_cons (pe_dget hu (pv 1) pe_str (fun _ _ => rfl)) pa_nil)) pa_nil)))) (fun _ _ => rfl)))
      (pss_cons (ps_set (i := 4) scLBad.nd rfl (Or.inl rfl) (pe_ix ix_list (pe_op op_cat (pe_dget hu (pv 1) pe_str (fun _ _ => rfl)) (pe_call G_l_fresh hr1 (by rfl) D_l_fresh.m D_l_fresh.F.kp D_l_fresh.b .nil pass0 (pa_cons (pv 1) pa_nil))) (pe_call G_l_pick hr1 (by rfl) D_l_pick.m D_l_pick.F.kp D_l_pick.b .nil pass0 (pa_cons (pv 0) (pa_cons pe_int (pa_cons (pe_op op_add (pe_callB call_len (by rfl) T.len PySem.boot_len (pa_cons (pe_dget hu (pv 1) pe_str (fun _ _ => rfl)) pa_nil)) pe_int) pa_nil)))) (fun _ _ => rfl)))
      (pss_cons (ps_set (i := 5) scLBad.nd rfl (Or.inl rfl) (pe_op op_add_str (pe_op op_add_str (pv 2) pe_str) (pv 3)))
      (pss_cons (ps_set (i := 6) scLBad.nd rfl (Or.inl rfl) (pe_lst (pa_cons pe_str (pa_cons (pv 2) (pa_cons (pe_op op_add_str (pe_op op_add_str (pv 2) pe_str) (pv 4)) (pa_cons (pe_op op_add_str (pe_op op_add_str (pv 5) pe_str) (pv 3)) (pa_cons pe_str (pa_cons pe_str (pa_cons pe_str pa_nil)))))))))
      (pss_cons (ps_set (i := 6) scLBad.nd rfl (Or.inl rfl) (pe_op op_cat (pv 6) (pe_lst (pa_cons (pe_op op_add_str pe_str (pv 3)) (pa_cons (pe_op op_add_str pe_str (pv 3)) (pa_cons (pe_op op_add_str pe_str (pv 3)) (pa_cons (pe_op op_add_str (pe_op op_add_str (pe_bm0 PySem.F.plainAttrs_str PySem.F.slot_str_upper PySem.F.type_str_upper mt_upper (pv 2)) pe_str) (pv 3)) (pa_cons (pe_op op_add_str pe_str (pv 5)) pa_nil))))))))
      (pss_cons (ps_expr (pe_bm PySem.F.plainAttrs_list PySem.F.slot_list_append PySem.F.type_list_append mt_append (pv 6) (pa_cons (pe_op op_add_str (pe_op op_add_str (pv 2) pe_str) (pv 3)) pa_nil)))
      (pss_cons (ps_set (i := 6) scLBad.nd rfl (Or.inl rfl) (pe_op op_cat (pv 6) (pe_lst (pa_cons (pe_op op_add_str (pv 5) pe_str) (pa_cons (pe_op op_add_str (pv 2) (pv 3)) (pa_cons (pv 3) (pa_cons pe_str (pa_cons pe_str (pa_cons pe_str (pa_cons (pe_op op_add_str (pe_op op_add_str (pv 5) pe_str) (pv 5)) pa_nil))))))))))
      (pss_one (ps_ret (pe_ix ix_list (pv 6) (pe_call G_l_pick hr1 (by rfl) D_l_pick.m D_l_pick.F.kp D_l_pick.b .nil pass0 (pa_cons (pv 0) (pa_cons pe_int (pa_cons (pe_callB call_len (by rfl) T.len PySem.boot_len (pa_cons (pv 6) pa_nil)) pa_nil)))) (fun _ _ => rfl)))))))))))), ?_⟩
    -- the word
    refine ⟨by show 3 ≤ sizeLine; lia, fun lw hlw => ?_⟩
    have s1 : Same H (upd H lw (.lst [V.str "feel", V.str "try", V.str "heft"])) := Same.new hlw
    have e1 : (upd H lw (.lst [V.str "feel", V.str "try", V.str "heft"])) lw = some (.lst (wordsS.map V.str)) := upd_same
    generalize (upd H lw (.lst [V.str "feel", V.str "try", V.str "heft"])) = H1 at s1 e1 ⊢
    refine ⟨_, rfl, a, ns, _, _, rfl, s1.seq hS, hn, by decide, by decide, by decide, fun j j0 j1 => ?_⟩
    obtain ⟨wd, hwd, hat⟩ := at_map (xs := wordsS) j0 j1
    refine ⟨lw, _, _, _, rfl, rfl, SqL.of e1, hat, ?_⟩
    -- the place
    have hpm : (((plc rs).map (·.1)).map V.str).length = (plc rs).length := by rw [List.length_map, List.length_map]
    have htm : (((ths rs).map (·.1)).map V.str).length = (ths rs).length := by rw [List.length_map, List.length_map]
    refine ⟨_, rfl, r, _, rfl, dget (s1 _ _ k1) k2, _, rfl, _, rfl, r, _, rfl, dget (s1 _ _ k1) k2, _, _, rfl, .inl ⟨_, SqL.of (s1 _ _ g1), rfl⟩, a, ns, _, _, rfl, s1.seq hS, hn, by decide, by decide, by lia, fun j2 j20 j21 => ?_⟩
    obtain ⟨p, hp, hatp⟩ := at_map (xs := (plc rs).map (·.1)) j20 (by rw [List.length_map]; lia)
    refine ⟨pp, _, _, _, rfl, rfl, SqL.of (s1 _ _ g1), hatp, ?_⟩
    -- the strange one
    refine ⟨_, rfl, r, _, rfl, dget (s1 _ _ k1) k3, _, rfl, r, rs, rfl, R.same s1, xf, rl, fun lf fs H2 s2 ef f1 f2 f3 => ?_⟩
    have s12 := s1.trans s2
    refine ⟨pt, lf, _, _, rfl, rfl, s12 _ _ g2, ef, by simp only [List.length_map]; lia, fun lc hlc => ?_⟩
    have ec : (upd H2 lc (.lst (((ths rs).map (·.1)).map V.str ++ fs.map V.str))) lc = some (.lst (((ths rs).map (·.1) ++ fs).map V.str)) := by rw [upd_same, List.map_append]
    have s3 : Same H2 (upd H2 lc (.lst (((ths rs).map (·.1)).map V.str ++ fs.map V.str))) := Same.new hlc
    generalize (upd H2 lc (.lst (((ths rs).map (·.1)).map V.str ++ fs.map V.str))) = H3 at ec s3 ⊢
    have s13 := s12.trans s3
    refine ⟨_, rfl, _, rfl, r, _, rfl, dget (s13 _ _ k1) k3, _, _, rfl, .inl ⟨_, SqL.of (s13 _ _ g2), rfl⟩, _, _, rfl, rfl, a, ns, _, _, rfl, s13.seq hS, hn, by decide, by decide, by lia, fun j3 j30 j31 => ?_⟩
    obtain ⟨z, hz, hatz⟩ := at_map (xs := (ths rs).map (·.1) ++ fs) j30 (by rw [List.length_append, List.length_map]; lia)
    refine ⟨lc, _, _, _, rfl, rfl, SqL.of ec, hatz, ?_⟩
    have np := good_nv g (mem_plc_name hp)
    have nz : z ∉ (plc rs).map (·.1) ∧ Nv z := by
      rcases List.mem_append.mp hz with h | h
      · refine ⟨fun h' => ?_, good_nv g (mem_ths_name h)⟩
        exact (List.nodup_append.mp ((names_perm rs).nodup_iff.mp g.nd)).2.2 z h' z h rfl
      · exact ⟨fun h' => (f3 z h).1 (mem_plc_name h'), (f3 z h).2⟩
    have low : ∀ x ∈ (plc rs).map (·.1), Nv x := fun x hx => good_nv g (mem_plc_name hx)
    have fin : ∀ line ∈ badL wd z p, Bad rs line := fun line hl => bad_all hwd hp np nz.1 nz.2 low hl
    have lw1 := (wd_ok hwd).2
    have lu1 := (up_ok hwd).2.1
    have lp := np.len
    have lz := nz.2.len
    have b1 : (Str.ofString " ").length = 1 := by decide +kernel
    have b2 : (Str.ofString "  ").length = 2 := by decide +kernel
    have b3 : (Str.ofString "; ").length = 2 := by decide +kernel
    have b4 : (Str.ofString "look ").length = 5 := by decide +kernel
    have b5 : (Str.ofString "take ").length = 5 := by decide +kernel
    have b6 : (Str.ofString "shake ").length = 6 := by decide +kernel
    -- the lists of lines
    have hlaF : ∀ {l : Addr} {H' : Hp}, Same H H' → H' l = none → H l = none := fun s h => s.free h
    repeat (first | refine ⟨_, rfl, ?_⟩ | refine ⟨_, _, rfl, rfl, by (first | lia | (simp only [len_app]; lia)), ?_⟩ | refine ⟨rfl, _, rfl, rfl, by lia, ?_⟩)
    refine ⟨by show 7 ≤ sizeLine; lia, fun la hla => ?_⟩
    refine lst_new (bad1 wd z p) _ rfl hla fun H4 s4 e4 => ?_
    have s14 := s13.trans s4
    repeat (first | refine ⟨_, rfl, ?_⟩ | refine ⟨_, _, rfl, rfl, by (first | lia | (simp only [len_app]; lia)), ?_⟩ | refine ⟨rfl, _, rfl, rfl, by lia, ?_⟩)
    refine ⟨by show 5 ≤ sizeLine; lia, fun lb hlb => ?_⟩
    refine lst_new (Q := fun H' => rCat (.ref la) (.ref lb) H' _) (bad2 wd p) _ rfl hlb fun H5 s5 e5 => ?_
    have s15 := s14.trans s5
    refine ⟨la, lb, _, _, rfl, rfl, s5 _ _ e4, e5, by show 7 + 5 ≤ sizeLine; lia, fun lc2 hlc2 => ?_⟩
    refine lst_new (bad1 wd z p ++ bad2 wd p) _ (by rw [List.map_append]) hlc2 fun H6 s6 e6 => ?_
    have s16 := s15.trans s6
    have f6 := hlaF s15 hlc2
    refine ⟨_, rfl, .inl ⟨rfl, _, SqL.of e6⟩, ?_⟩
    repeat (first | refine ⟨_, rfl, ?_⟩ | refine ⟨_, _, rfl, rfl, by (first | lia | (simp only [len_app]; lia)), ?_⟩ | refine ⟨rfl, _, rfl, rfl, by lia, ?_⟩)
    refine ⟨lc2, _, _, rfl, rfl, e6, by show 7 + 5 < sizeLine; lia, ?_⟩
    refine lst_put (bad1 wd z p ++ bad2 wd p ++ bad3 wd p) _ (by rw [List.map_append]; rfl) s16 f6 fun H7 s17 e7 => ?_
    repeat (first | refine ⟨_, rfl, ?_⟩ | refine ⟨_, _, rfl, rfl, by (first | lia | (simp only [len_app]; lia)), ?_⟩ | refine ⟨rfl, _, rfl, rfl, by lia, ?_⟩)
    refine ⟨by show 7 ≤ sizeLine; lia, fun le hle => ?_⟩
    refine lst_new (Q := fun H' => rCat (.ref lc2) (.ref le) H' _) (bad4 wd p) _ rfl hle fun H8 s8 e8 => ?_
    have s18 := s17.trans s8
    refine ⟨lc2, le, _, _, rfl, rfl, s8 _ _ e7, e8, by show 7 + 5 + 1 + 7 ≤ sizeLine; lia, fun lg hlg => ?_⟩
    refine lst_new (badL wd z p) _ (by unfold badL; simp only [List.map_append]) hlg fun H9 s9 e9 => ?_
    have s19 := s18.trans s9
    have hbl : ((badL wd z p).map V.str).length = 20 := rfl
    refine ⟨_, rfl, _, rfl, _, rfl, _, _, rfl, .inl ⟨_, SqL.of e9, rfl⟩, a, ns, _, _, rfl, s19.seq hS, hn, by decide, by decide, by rw [hbl]; decide, fun j4 j40 j41 => ?_⟩
    rw [hbl] at j41
    obtain ⟨line, hline, hatl⟩ := at_map (xs := badL wd z p) j40 (by show j4 < 20; exact j41)
    exact ⟨lg, _, _, _, rfl, rfl, SqL.of e9, hatl, q line H9 s19 (fin line hline)⟩
end
end K12
namespace K12
open PySem L2 Tx Rk PyProof.Rows PySem.SeqAt
open PySem.PyData (strOk)
section
variable {P : Program} {w : World} {K : PySem.W.Frag} {mg : Str → Option Value} {base : Heap}
theorem ok_law {f C fI fS fR fW fL fB fX NN : Addr} {fd dI dS dR dV dL dB dX : FuncData} (F : Fun K "law" "law" sLaw f fd) (D_l_sizes : Df K mg "_law_sizes" sSizes ["_law_script"] fS dS) (D_l_room : Df K mg "_law_room" sRoom pRoom fR dR) (D_l_world : Df K mg "_law_world" sWorld pWorld fW dV)
    (D_looked : Df K mg "looked" sLooked pLooked fL dL) (D_l_bad : Df K mg "_law_bad" sLBad pLBad fB dB) (D_l_refused : Df K mg "_law_refused" sLRefused pRefused fX dX) (T : Bl mg) (MC : L2.Mk K C fI) (mC : mg "Room" = some (.ref C)) (bI : Binds K dI ["self", "lines"] [])
    (GI : FnOk P w K mg base CX0 4 fI dI ["self", "lines"] (spInit C)) (G_l_sizes : FnOk P w K mg base CX0 2 fS dS ["_law_script"] (spSizes K)) (G_l_room : FnOk P w K mg base CX0 3 fR dR pRoom (spRoom K)) (G_l_world : FnOk P w K mg base CX0 2 fW dV pWorld (spWorld K))
    (G_looked : FnOk P w K mg base (CXe P w) 4 fL dL pLooked (spLooked C NN)) (G_l_bad : FnOk P w K mg base CX0 2 fB dB pLBad (spBad K)) (G_l_refused : FnOk P w K mg base CX0 5 fX dX pRefused (spRefused C)) : FnOk P w K mg base CX0 6 f fd ["_law_script"] (spLaw K) := by
  refine F.ok scLaw (fun vs H Q E h => ?_) (fun cdv A outer s H vs Q E hr h => ?_)
  · obtain ⟨a, ns, rfl, _⟩ := h
    rfl
  · obtain ⟨a, ns, rfl, hS, hn, q⟩ := h
    have hr1 : Room 1 _ := hr.mono (by decide)
    have hr2 : Room 2 _ := hr.mono (by decide)
    have hr3 : Room 3 _ := hr.mono (by decide)
    have hr4 : Room 4 _ := hr.mono (by decide)
    have hr5 : Room 5 _ := hr.mono (by decide)
    have hu := hu_of hr
    have hsl : sizeLine = 16777216 := sizeLine_eq
    refine ⟨_, (pss_cons (ps_asg (pe_call G_l_sizes hr2 (by rfl) D_l_sizes.m D_l_sizes.F.kp D_l_sizes.b .nil pass0 (pa_cons (pv 0) pa_nil)) (pg_tup rfl (pgs_cons (pg_name (i := 1) scLaw.nd rfl (Or.inl rfl)) (pgs_cons (pg_name (i := 2) scLaw.nd rfl (Or.inl rfl)) pgs_nil))))
      (pss_cons (ps_set (i := 3) scLaw.nd rfl (Or.inl rfl) (pe_call G_l_room hr3 (by rfl) D_l_room.m D_l_room.F.kp D_l_room.b .nil pass0 (pa_cons (pv 0) (pa_cons (pv 1) (pa_cons (pv 2) pa_nil)))))
      (pss_cons (ps_set (i := 4) scLaw.nd rfl (Or.inl rfl) (pe_make MC GI hr (by rfl) mC bI .nil pass0 (pa_cons (pe_callTy call_list_of (by rfl) T.list bt_list (pa_cons (pe_dget hu (pv 3) pe_str (fun _ _ => rfl)) pa_nil)) pa_nil)))
      (pss_cons (ps_for PassesOwn.never rfl (pi_range1 (by rfl) T.range (pa_cons pe_int pa_nil)) (pg_name (i := 5) scLaw.nd rfl (Or.inl rfl))
        (pss_one (ps_if (pt_not (pt_val (pe_call G_l_refused hr5 (by rfl) D_l_refused.m D_l_refused.F.kp D_l_refused.b .nil pass0 (pa_cons (pv 4) (pa_cons (pe_call G_l_bad hr2 (by rfl) D_l_bad.m D_l_bad.F.kp D_l_bad.b .nil pass0 (pa_cons (pv 0) (pa_cons (pv 3) pa_nil))) (pa_cons (pe_call G_l_world hr2 (by rfl) D_l_world.m D_l_world.F.kp D_l_world.b .nil pass0 (pa_cons (pv 0) (pa_cons (pe_op op_add pe_int (pe_op op_mul pe_int (pv 5))) (pa_cons (pv 3) pa_nil)))) pa_nil)))))) (pss_one (ps_ret pe_bl)) pss_nil)))
      (pss_one (ps_ret (pe_callB call_isiS (by rfl) T.isi bt_isi (pa_cons (pe_call G_looked hr4 (by rfl) D_looked.m D_looked.F.kp D_looked.b .nil passE0 (pa_cons (pv 4) (pa_cons pe_str (pa_cons (pe_call G_l_world hr2 (by rfl) D_l_world.m D_l_world.F.kp D_l_world.b .nil pass0 (pa_cons (pv 0) (pa_cons pe_int (pa_cons (pv 3) pa_nil)))) pa_nil)))) (pa_cons (pe_bltn (v := .ty "str") (by rfl) T.str bt_str rfl) pa_nil))))))))), ?_⟩
    refine ⟨_, rfl, a, ns, rfl, hS, hn, fun t p m H1 s1 e1 p0 p1 m0 m1 => ?_⟩
    refine ⟨t, _, rfl, SqT.of e1, rfl, _, _, rfl, _, _, rfl, rfl, ?_⟩
    refine ⟨_, rfl, _, rfl, _, rfl, a, ns, p, m, rfl, s1.seq hS, hn, p0, p1, m0, m1, fun dr rs H2 s2 R hpl htl hrl hxf => ?_⟩
    have s12 := s1.trans s2
    have g := R.good
    obtain ⟨kvs, L3, pp, pt, d1, d2, d3, D, k1, k2, k3, k4, k5, k6, k7, g1, g2, g3, g4, g5, g6, g7⟩ := R.ex
    refine ⟨_, rfl, dr, _, rfl, dget k1 k7, D, _, rfl, .inl (SqL.of g6), fun l hl => ?_⟩
    have s3 : Same H2 (upd H2 l (.lst ((rs.map Ro.txt).map V.str))) := Same.new hl
    have e3 : (upd H2 l (.lst ((rs.map Ro.txt).map V.str))) l = some (.lst ((rs.map Ro.txt).map V.str)) := upd_same
    generalize (upd H2 l (.lst ((rs.map Ro.txt).map V.str))) = H3 at s3 e3 ⊢
    intro x dx nx ndx nex
    have s4 : Same H3 (upd (upd H3 dx (.own x)) x (.ins C dx [])) := fun b o e => by
      rw [upd_ne (ne_of_none e nx), upd_ne (ne_of_none e ndx)]
      exact e
    refine ⟨x, dx, l, rs, rfl, upd_same, s4 _ _ e3, g, hrl, fun H5 kp RA => ⟨rfl, ?_⟩⟩
    have s5 : Same H3 H5 := fun b o e => kp b o (s4 _ _ e) (ne_of_none e nx)
    have s25 := s3.trans s5
    have R5 := R.same s25
    have hS5 := (s12.trans s25).seq hS
    have hpn : 1 ≤ (plc rs).length := by lia
    refine ⟨_, rfl, by decide, by decide, for_range (n := (3 : Int).toNat) (fun i σ H6 => ∃ v5 : Option V, σ = [some (.ref a), some (.int p), some (.int m), some (.ref dr), some (.ref x), v5] ∧ Same H5 H6) ⟨none, rfl, Same.refl _⟩ ?_ ?_⟩
    · rintro i σ H6 hi ⟨v5, rfl, s6⟩
      have hi2 : i < 3 := hi
      refine ⟨_, rfl, _, rfl, _, rfl, a, dr, ns, rs, rfl, s6.seq hS5, hn, R5.same s6, hxf, hrl, hpn, fun line H7 s7 bd => ?_⟩
      have s67 := s6.trans s7
      refine ⟨_, rfl, _, rfl, _, _, rfl, rfl, .inl ⟨by decide, by decide⟩, _, _, rfl, rfl, _, rfl, a, ns, _, dr, rs, rfl, s67.seq hS5, hn, by lia, by lia, R5.same s67, hpn, fun v W H8 s8 r8 z8 w8 => ?_⟩
      have s68 := s67.trans s8
      refine ⟨x, rs, v, W, line, rfl, RA.same s68, g, r8, bd, fun H9 s9 => ⟨_, rfl, ?_⟩⟩
      refine iteF ?_
      exact ⟨_, rfl, s68.trans s9⟩
    · rintro σ H6 ⟨v5, rfl, s6⟩
      refine ⟨_, rfl, _, rfl, _, rfl, a, ns, _, dr, rs, rfl, s6.seq hS5, hn, by decide, by decide, R5.same s6, hpn, fun v W H7 s7 r7 z7 w7 => ?_⟩
      have s67 := s6.trans s7
      refine ⟨x, rs, v, W, "feel hand", ["feel", "hand"], rfl, RA.same s67, g, r7, ⟨by decide +kernel, List.cons_ne_nil _ _, fun y hy => ?_⟩, by decide +kernel, .inl ⟨rfl, fun t ht => ?_, fun H8 s8 => ?_⟩⟩
      · simp only [List.mem_cons, List.not_mem_nil, or_false] at hy
        rcases hy with e | e <;> (rw [e]; decide +kernel)
      · exact w7.perm.mem_iff.mp (List.mem_append_left _ (by rw [ht]; exact List.mem_singleton.mpr rfl))
      · exact ⟨_, rfl, q H8⟩
end
end K12
namespace K12
open PySem L2 Tx Rk PyProof.Rows PySem.SeqAt
theorem all_mk {l : PySem.W.OpenLaw} {w : World} {K : PySem.W.Frag} {h : Heap} {mg : Str → Option Value} {fa GE NN C aN aF tF1 tF2 tF3 tF4 aW f1 f2 f3 f4 f5 f6 f7 f8 f9 f10 f11 f12 f13 f14 f15 f16 f17 f18 f19 f20 f21 f22 f23 f24 f25 : Addr} (X : K.In h) (G : h.Ns mainGlobals mg) (hfa : mg "law" = some (.ref fa))
    {od1 an1 od2 an2 od3 an3 od4 an4 od5 an5 od6 an6 od7 an7 od8 an8 od9 an9 od10 an10 od11 an11 od12 an12 od13 an13 od14 an14 od15 an15 od16 an16 od17 an17 od18 an18 od19 an19 od20 an20 od21 an21 od22 an22 od23 an23 od24 an24 od25 an25 odN odF oF1 oF2 oF3 oF4 odW : Option Addr} {sl1 sl2 sl3 sl4 sl5 sl6 sl7 sl8 sl9 sl10 sl11 sl12 sl13 sl14 sl15 sl16 sl17 sl18 sl19 sl20 sl21 sl22 sl23 sl24 sl25 slN slF sF1 sF2 sF3 sF4 slW : Array (Option Value)} {oc1 kV1 dc1 pm1 cd1 ct1 oc2 kV2 dc2 pm2 cd2 ct2 oc3 kV3 dc3 pm3 cd3 ct3 oc4 kV4 dc4 pm4 cd4 ct4 oc5 kV5 dc5 pm5 cd5 ct5 oc6 kV6 dc6 pm6 cd6 ct6 oc7 kV7 dc7 pm7 cd7 ct7 oc8 kV8 dc8 pm8 cd8 ct8 oc9 kV9 dc9 pm9 cd9 ct9 oc10 kV10 dc10 pm10 cd10 ct10 oc11 kV11 dc11 pm11 cd11 ct11 oc12 kV12 dc12 pm12 cd12 ct12 oc13 kV13 dc13 pm13 cd13 ct13 oc14 kV14 dc14 pm14 cd14 ct14 oc15 kV15 dc15 pm15 cd15 ct15 oc16 kV16 dc16 pm16 cd16 ct16 oc17 kV17 dc17 pm17 cd17 ct17 oc18 kV18 dc18 pm18 cd18 ct18 oc19 kV19 dc19 pm19 cd19 ct19 oc20 kV20 dc20 pm20 cd20 ct20 oc21 kV21 dc21 pm21 cd21 ct21 oc22 kV22 dc22 pm22 cd22 ct22 oc23 kV23 dc23 pm23 cd23 ct23 oc24 kV24 dc24 pm24 cd24 ct24 oc25 kV25 dc25 pm25 cd25 ct25 uL uO uP uT : Value} {itN itF iF1 iF2 iF3 iF4 itW : Array Value} {nN nF nF1 nF2 nF3 nF4 nnW : Nat}
    (a1 : PySem.W.nsIn K mainGlobals "looked" = some (some (.ref f1))) (l1 : K.lookup f1 = some ⟨oc1, od1, .func (PySem.W.fnOf "looked" "looked" (defArgs sLooked) (defBody sLooked) (defScope sLooked) .none kV1 dc1 pm1 an1 cd1 ct1), sl1⟩) (c1 : PySem.W.codeIn K cd1 "looked" = true) (k1 : PySem.W.keepIn K (.ref f1) = true)
    (a2 : PySem.W.nsIn K mainGlobals "read_look" = some (some (.ref f2))) (l2 : K.lookup f2 = some ⟨oc2, od2, .func (PySem.W.fnOf "read_look" "read_look" (defArgs sReadLook) (defBody sReadLook) (defScope sReadLook) .none kV2 dc2 pm2 an2 cd2 ct2), sl2⟩) (c2 : PySem.W.codeIn K cd2 "read_look" = true) (k2 : PySem.W.keepIn K (.ref f2) = true)
    (a3 : PySem.W.nsIn K mainGlobals "is_look" = some (some (.ref f3))) (l3 : K.lookup f3 = some ⟨oc3, od3, .func (PySem.W.fnOf "is_look" "is_look" (defArgs sIsLook) (defBody sIsLook) (defScope sIsLook) .none kV3 dc3 pm3 an3 cd3 ct3), sl3⟩) (c3 : PySem.W.codeIn K cd3 "is_look" = true) (k3 : PySem.W.keepIn K (.ref f3) = true)
    (a4 : PySem.W.nsIn K mainGlobals "shape_told" = some (some (.ref f4))) (l4 : K.lookup f4 = some ⟨oc4, od4, .func (PySem.W.fnOf "shape_told" "shape_told" (defArgs sShapeTold) (defBody sShapeTold) (defScope sShapeTold) .none kV4 dc4 pm4 an4 cd4 ct4), sl4⟩) (c4 : PySem.W.codeIn K cd4 "shape_told" = true) (k4 : PySem.W.keepIn K (.ref f4) = true)
    (a5 : PySem.W.nsIn K mainGlobals "is_name" = some (some (.ref f5))) (l5 : K.lookup f5 = some ⟨oc5, od5, .func (PySem.W.fnOf "is_name" "is_name" (defArgs sIsName) (defBody sIsName) (defScope sIsName) .none kV5 dc5 pm5 an5 cd5 ct5), sl5⟩) (c5 : PySem.W.codeIn K cd5 "is_name" = true) (k5 : PySem.W.keepIn K (.ref f5) = true)
    (a6 : PySem.W.nsIn K mainGlobals "read_line" = some (some (.ref f6))) (l6 : K.lookup f6 = some ⟨oc6, od6, .func (PySem.W.fnOf "read_line" "read_line" (defArgs sReadLine) (defBody sReadLine) (defScope sReadLine) .none kV6 dc6 pm6 an6 cd6 ct6), sl6⟩) (c6 : PySem.W.codeIn K cd6 "read_line" = true) (k6 : PySem.W.keepIn K (.ref f6) = true)
    (a7 : PySem.W.nsIn K mainGlobals "read_rows" = some (some (.ref f7))) (l7 : K.lookup f7 = some ⟨oc7, od7, .func (PySem.W.fnOf "read_rows" "read_rows" (defArgs sReadRows) (defBody sReadRows) (defScope sReadRows) .none kV7 dc7 pm7 an7 cd7 ct7), sl7⟩) (c7 : PySem.W.codeIn K cd7 "read_rows" = true) (k7 : PySem.W.keepIn K (.ref f7) = true)
    (a8 : PySem.W.nsIn K mainGlobals "read_things" = some (some (.ref f8))) (l8 : K.lookup f8 = some ⟨oc8, od8, .func (PySem.W.fnOf "read_things" "read_things" (defArgs sReadThings) (defBody sReadThings) (defScope sReadThings) .none kV8 dc8 pm8 an8 cd8 ct8), sl8⟩) (c8 : PySem.W.codeIn K cd8 "read_things" = true) (k8 : PySem.W.keepIn K (.ref f8) = true)
    (a9 : PySem.W.nsIn K mainGlobals "read_places" = some (some (.ref f9))) (l9 : K.lookup f9 = some ⟨oc9, od9, .func (PySem.W.fnOf "read_places" "read_places" (defArgs sReadPlaces) (defBody sReadPlaces) (defScope sReadPlaces) .none kV9 dc9 pm9 an9 cd9 ct9), sl9⟩) (c9 : PySem.W.codeIn K cd9 "read_places" = true) (k9 : PySem.W.keepIn K (.ref f9) = true)
    (a10 : PySem.W.nsIn K mainGlobals "check_keys" = some (some (.ref f10))) (l10 : K.lookup f10 = some ⟨oc10, od10, .func (PySem.W.fnOf "check_keys" "check_keys" (defArgs sCheckKeys) (defBody sCheckKeys) (defScope sCheckKeys) .none kV10 dc10 pm10 an10 cd10 ct10), sl10⟩) (c10 : PySem.W.codeIn K cd10 "check_keys" = true) (k10 : PySem.W.keepIn K (.ref f10) = true)
    (a11 : PySem.W.nsIn K mainGlobals "_law_pick" = some (some (.ref f11))) (l11 : K.lookup f11 = some ⟨oc11, od11, .func (PySem.W.fnOf "_law_pick" "_law_pick" (defArgs sPick) (defBody sPick) (defScope sPick) .none kV11 dc11 pm11 an11 cd11 ct11), sl11⟩) (c11 : PySem.W.codeIn K cd11 "_law_pick" = true) (k11 : PySem.W.keepIn K (.ref f11) = true)
    (a12 : PySem.W.nsIn K mainGlobals "_law_fixed" = some (some (.ref f12))) (l12 : K.lookup f12 = some ⟨oc12, od12, .func (PySem.W.fnOf "_law_fixed" "_law_fixed" (defArgs sFixed) (defBody sFixed) (defScope sFixed) .none kV12 dc12 pm12 an12 cd12 ct12), sl12⟩) (c12 : PySem.W.codeIn K cd12 "_law_fixed" = true) (k12 : PySem.W.keepIn K (.ref f12) = true)
    (a13 : PySem.W.nsIn K mainGlobals "_law_names" = some (some (.ref f13))) (l13 : K.lookup f13 = some ⟨oc13, od13, .func (PySem.W.fnOf "_law_names" "_law_names" (defArgs sNames) (defBody sNames) (defScope sNames) .none kV13 dc13 pm13 an13 cd13 ct13), sl13⟩) (c13 : PySem.W.codeIn K cd13 "_law_names" = true) (k13 : PySem.W.keepIn K (.ref f13) = true)
    (a14 : PySem.W.nsIn K mainGlobals "_law_place_line" = some (some (.ref f14))) (l14 : K.lookup f14 = some ⟨oc14, od14, .func (PySem.W.fnOf "_law_place_line" "_law_place_line" (defArgs sLine) (defBody sLine) (defScope sLine) .none kV14 dc14 pm14 an14 cd14 ct14), sl14⟩) (c14 : PySem.W.codeIn K cd14 "_law_place_line" = true) (k14 : PySem.W.keepIn K (.ref f14) = true)
    (a15 : PySem.W.nsIn K mainGlobals "_law_room" = some (some (.ref f15))) (l15 : K.lookup f15 = some ⟨oc15, od15, .func (PySem.W.fnOf "_law_room" "_law_room" (defArgs sRoom) (defBody sRoom) (defScope sRoom) .none kV15 dc15 pm15 an15 cd15 ct15), sl15⟩) (c15 : PySem.W.codeIn K cd15 "_law_room" = true) (k15 : PySem.W.keepIn K (.ref f15) = true)
    (a16 : PySem.W.nsIn K mainGlobals "_law_sizes" = some (some (.ref f16))) (l16 : K.lookup f16 = some ⟨oc16, od16, .func (PySem.W.fnOf "_law_sizes" "_law_sizes" (defArgs sSizes) (defBody sSizes) (defScope sSizes) .none kV16 dc16 pm16 an16 cd16 ct16), sl16⟩) (c16 : PySem.W.codeIn K cd16 "_law_sizes" = true) (k16 : PySem.W.keepIn K (.ref f16) = true)
    (a17 : PySem.W.nsIn K mainGlobals "_law_lids" = some (some (.ref f17))) (l17 : K.lookup f17 = some ⟨oc17, od17, .func (PySem.W.fnOf "_law_lids" "_law_lids" (defArgs sLids) (defBody sLids) (defScope sLids) .none kV17 dc17 pm17 an17 cd17 ct17), sl17⟩) (c17 : PySem.W.codeIn K cd17 "_law_lids" = true) (k17 : PySem.W.keepIn K (.ref f17) = true)
    (a18 : PySem.W.nsIn K mainGlobals "_law_world" = some (some (.ref f18))) (l18 : K.lookup f18 = some ⟨oc18, od18, .func (PySem.W.fnOf "_law_world" "_law_world" (defArgs sWorld) (defBody sWorld) (defScope sWorld) .none kV18 dc18 pm18 an18 cd18 ct18), sl18⟩) (c18 : PySem.W.codeIn K cd18 "_law_world" = true) (k18 : PySem.W.keepIn K (.ref f18) = true)
    (a19 : PySem.W.nsIn K mainGlobals "_law_fresh" = some (some (.ref f19))) (l19 : K.lookup f19 = some ⟨oc19, od19, .func (PySem.W.fnOf "_law_fresh" "_law_fresh" (defArgs sLFresh) (defBody sLFresh) (defScope sLFresh) .none kV19 dc19 pm19 an19 cd19 ct19), sl19⟩) (c19 : PySem.W.codeIn K cd19 "_law_fresh" = true) (k19 : PySem.W.keepIn K (.ref f19) = true)
    (a20 : PySem.W.nsIn K mainGlobals "_law_bad" = some (some (.ref f20))) (l20 : K.lookup f20 = some ⟨oc20, od20, .func (PySem.W.fnOf "_law_bad" "_law_bad" (defArgs sLBad) (defBody sLBad) (defScope sLBad) .none kV20 dc20 pm20 an20 cd20 ct20), sl20⟩) (c20 : PySem.W.codeIn K cd20 "_law_bad" = true) (k20 : PySem.W.keepIn K (.ref f20) = true)
    (a21 : PySem.W.nsIn K mainGlobals "_law_refused" = some (some (.ref f21))) (l21 : K.lookup f21 = some ⟨oc21, od21, .func (PySem.W.fnOf "_law_refused" "_law_refused" (defArgs sLRefused) (defBody sLRefused) (defScope sLRefused) .none kV21 dc21 pm21 an21 cd21 ct21), sl21⟩) (c21 : PySem.W.codeIn K cd21 "_law_refused" = true) (k21 : PySem.W.keepIn K (.ref f21) = true)
    (a22 : PySem.W.nsIn K mainGlobals "law" = some (some (.ref f22))) (l22 : K.lookup f22 = some ⟨oc22, od22, .func (PySem.W.fnOf "law" "law" (defArgs sLaw) (defBody sLaw) (defScope sLaw) .none kV22 dc22 pm22 an22 cd22 ct22), sl22⟩) (c22 : PySem.W.codeIn K cd22 "law" = true) (k22 : PySem.W.keepIn K (.ref f22) = true)
    (aC : PySem.W.nsIn K mainGlobals "Room" = some (some (.ref C)))
    (a23 : PySem.W.findIn K (.ref C) "__init__" = some (some (.ref f23))) (i23 : PySem.W.isFn K (.ref f23) = true) (l23 : K.lookup f23 = some ⟨oc23, od23, .func (PySem.W.fnOf "__init__" "Room.__init__" (defArgs sInit) (defBody sInit) (defScope sInit) .none kV23 dc23 pm23 an23 cd23 ct23), sl23⟩) (c23 : PySem.W.codeIn K cd23 "Room.__init__" = true) (k23 : PySem.W.keepIn K (.ref f23) = true)
    (a24 : PySem.W.findIn K (.ref C) "places" = some (some (.ref f24))) (i24 : PySem.W.isFn K (.ref f24) = true) (l24 : K.lookup f24 = some ⟨oc24, od24, .func (PySem.W.fnOf "places" "Room.places" (defArgs sPlaces) (defBody sPlaces) (defScope sPlaces) .none kV24 dc24 pm24 an24 cd24 ct24), sl24⟩) (c24 : PySem.W.codeIn K cd24 "Room.places" = true) (k24 : PySem.W.keepIn K (.ref f24) = true)
    (a25 : PySem.W.findIn K (.ref C) "shape_of" = some (some (.ref f25))) (i25 : PySem.W.isFn K (.ref f25) = true) (l25 : K.lookup f25 = some ⟨oc25, od25, .func (PySem.W.fnOf "shape_of" "Room.shape_of" (defArgs sShapeOf) (defBody sShapeOf) (defScope sShapeOf) .none kV25 dc25 pm25 an25 cd25 ct25), sl25⟩) (c25 : PySem.W.codeIn K cd25 "Room.shape_of" = true) (k25 : PySem.W.keepIn K (.ref f25) = true)
    (pg : PySem.W.plainGet K C Str.empty = true) (hd : PySem.W.hasDictIn K C = true) (po : PySem.W.plainOver K C = true) (sa : PySem.W.findIn K (.ref C) "__setattr__" = some (some (.builtin "object.__setattr__"))) (mk : PySem.W.makesIn K C = true) (kc : PySem.W.keepIn K (.ref C) = true)
    (nP : PySem.W.findIn K (.ref C) "told_places" = some none) (nS : PySem.W.findIn K (.ref C) "told_shapes" = some none)
    (aG : PySem.W.nsIn K mainGlobals "GropeError" = some (some (.ref GE))) (aE : PySem.W.nsIn K mainGlobals "NoLook" = some (some (.ref NN))) (oG : PySem.W.excIn K GE bmV "ValueError.__new__" = true) (oE : PySem.W.excIn K NN bmV "ValueError.__new__" = true) (sE : mroIn K NN GE = true)
    (gL : PySem.W.nsIn K mainGlobals "LETTERS" = some (some uL)) (vL : absV uL = some (.str abc))
    (gO : PySem.W.nsIn K mainGlobals "MOST_LETTERS" = some (some uO)) (vO : absV uO = some (.int 8))
    (gP : PySem.W.nsIn K mainGlobals "MOST_PLACES" = some (some uP)) (vP : absV uP = some (.int 6))
    (gT : PySem.W.nsIn K mainGlobals "MOST_THINGS" = some (some uT)) (vT : absV uT = some (.int 6))
    (gN : PySem.W.nsIn K mainGlobals "NO_NAMES" = some (some (.ref aN))) (lN : K.lookup aN = some ⟨.type "tuple", odN, .seq itN nN, slN⟩) (vN : absAll itN.toList = some (fixedS.map V.str))
    (gF : PySem.W.nsIn K mainGlobals "FORMS" = some (some (.ref aF))) (lF : K.lookup aF = some ⟨.type "tuple", odF, .seq itF nF, slF⟩) (vF : absAll itF.toList = some [.ref tF1, .ref tF2, .ref tF3, .ref tF4])
    (lF1 : K.lookup tF1 = some ⟨.type "tuple", oF1, .seq iF1 nF1, sF1⟩) (vF1 : absAll iF1.toList = some [.str "place", .int 2])
    (lF2 : K.lookup tF2 = some ⟨.type "tuple", oF2, .seq iF2 nF2, sF2⟩) (vF2 : absAll iF2.toList = some [.str "box", .int 2])
    (lF3 : K.lookup tF3 = some ⟨.type "tuple", oF3, .seq iF3 nF3, sF3⟩) (vF3 : absAll iF3.toList = some [.str "box", .int 3])
    (lF4 : K.lookup tF4 = some ⟨.type "tuple", oF4, .seq iF4 nF4, sF4⟩) (vF4 : absAll iF4.toList = some [.str "thing", .int 3])
    (gW : PySem.W.nsIn K mainGlobals "WORDS" = some (some (.ref aW))) (lW : K.lookup aW = some ⟨.type "tuple", odW, .seq itW nnW, slW⟩) (vW : absAll itW.toList = some (wordsS.map V.str))
    (z1 : PySem.W.nsIn K mainGlobals "len" = some none) (z2 : PySem.W.nsIn K mainGlobals "range" = some none) (z3 : PySem.W.nsIn K mainGlobals "tuple" = some none) (z4 : PySem.W.nsIn K mainGlobals "zip" = some none) (z5 : PySem.W.nsIn K mainGlobals "isinstance" = some none) (z6 : PySem.W.nsIn K mainGlobals "str" = some none) (z7 : PySem.W.nsIn K mainGlobals "list" = some none) (z8 : PySem.W.nsIn K mainGlobals "set" = some none) (z9 : PySem.W.nsIn K mainGlobals "all" = some none) (z10 : PySem.W.nsIn K mainGlobals "sorted" = some none) (z11 : PySem.W.nsIn K mainGlobals "int" = some none) (z12 : PySem.W.nsIn K mainGlobals "bool" = some none) (z13 : PySem.W.nsIn K mainGlobals "ValueError" = some none) :
    ∃ fd : FuncData, (∀ (s : Shared) (v : Value), BindsTo s fd ⟨[v], []⟩ [("_law_script", v)]) ∧ ∀ base : Heap, K.In base → base.Ns mainGlobals mg → FnOk l.prog w K mg base CX0 6 fa fd ["_law_script"] (spLaw K) := by
  have e := hfa.symm.trans (PySem.W.mg_of X G a22)
  cases e
  have T : Bl mg := ⟨PySem.W.mg_none_of X G z1, PySem.W.mg_none_of X G z2, PySem.W.mg_none_of X G z3, PySem.W.mg_none_of X G z4, PySem.W.mg_none_of X G z5, PySem.W.mg_none_of X G z6, PySem.W.mg_none_of X G z7, PySem.W.mg_none_of X G z8, PySem.W.mg_none_of X G z9, PySem.W.mg_none_of X G z10, PySem.W.mg_none_of X G z11, PySem.W.mg_none_of X G z12, PySem.W.mg_none_of X G z13⟩
  obtain ⟨tL, eL⟩ := (rel_abs vL : RelV (.str abc) uL)
  rw [eL] at gL
  obtain ⟨tO, eO⟩ := (rel_abs vO : RelV (.int 8) uO)
  rw [eO] at gO
  obtain ⟨tP, eP⟩ := (rel_abs vP : RelV (.int 6) uP)
  rw [eP] at gP
  obtain ⟨tT, eT⟩ := (rel_abs vT : RelV (.int 6) uT)
  rw [eT] at gT
  have M : Md K mg aN aF := ⟨⟨_, PySem.W.mg_of X G gL⟩, ⟨_, PySem.W.mg_of X G gO⟩, ⟨_, PySem.W.mg_of X G gP⟩, ⟨_, PySem.W.mg_of X G gT⟩, PySem.W.mg_of X G gN, fun H => .inr ⟨_, itN, nN, lN, rfl, rfl, by
      have h1 := (vals_abs vN).length
      have h2 : itN.toList.length = itN.size := by simp
      have h3 : (fixedS.map V.str).length = 14 := by decide +kernel
      have hs : sizeLine = 16777216 := sizeLine_eq
      lia, vals_abs vN⟩, PySem.W.mg_of X G gF,
    rdK_tup lF vF (.cons (rdK_tup lF1 vF1 (.cons (rdK_flat rfl) (.cons (rdK_flat rfl) .nil))) (.cons (rdK_tup lF2 vF2 (.cons (rdK_flat rfl) (.cons (rdK_flat rfl) .nil))) (.cons (rdK_tup lF3 vF3 (.cons (rdK_flat rfl) (.cons (rdK_flat rfl) .nil))) (.cons (rdK_tup lF4 vF4 (.cons (rdK_flat rfl) (.cons (rdK_flat rfl) .nil))) .nil))))⟩
  have L : Cl K C := ⟨⟨pg, hd, po, sa⟩, nP, nS⟩
  have MW : Mw K mg aW := ⟨PySem.W.mg_of X G gW, fun H => .inr ⟨_, itW, nnW, lW, rfl, rfl, by
      have h1 := (vals_abs vW).length
      have h2 : itW.toList.length = itW.size := by simp
      have h3 : (wordsS.map V.str).length ≤ 100 := by decide +kernel
      have hs : sizeLine = 16777216 := sizeLine_eq
      lia, vals_abs vW⟩⟩
  have F1 := fun_mk (st := sLooked) l1 c1 k1
  have F2 := fun_mk (st := sReadLook) l2 c2 k2
  have F3 := fun_mk (st := sIsLook) l3 c3 k3
  have F4 := fun_mk (st := sShapeTold) l4 c4 k4
  have F5 := fun_mk (st := sIsName) l5 c5 k5
  have F6 := fun_mk (st := sReadLine) l6 c6 k6
  have F7 := fun_mk (st := sReadRows) l7 c7 k7
  have F8 := fun_mk (st := sReadThings) l8 c8 k8
  have F9 := fun_mk (st := sReadPlaces) l9 c9 k9
  have F10 := fun_mk (st := sCheckKeys) l10 c10 k10
  have F11 := fun_mk (st := sPick) l11 c11 k11
  have F12 := fun_mk (st := sFixed) l12 c12 k12
  have F13 := fun_mk (st := sNames) l13 c13 k13
  have F14 := fun_mk (st := sLine) l14 c14 k14
  have F15 := fun_mk (st := sRoom) l15 c15 k15
  have F16 := fun_mk (st := sSizes) l16 c16 k16
  have F17 := fun_mk (st := sLids) l17 c17 k17
  have F18 := fun_mk (st := sWorld) l18 c18 k18
  have F19 := fun_mk (st := sLFresh) l19 c19 k19
  have F20 := fun_mk (st := sLBad) l20 c20 k20
  have F21 := fun_mk (st := sLRefused) l21 c21 k21
  have F22 := fun_mk (st := sLaw) l22 c22 k22
  have F23 := fun_mk (st := sInit) l23 c23 k23
  have b23 := F23.binds (ps := ["self", "lines"]) fun _ _ _ _ _ _ us hl => match us, hl with | [_, _], _ => rfl
  have F24 := fun_mk (st := sPlaces) l24 c24 k24
  have b24 := F24.binds (ps := ["self"]) fun _ _ _ _ _ _ us hl => match us, hl with | [_], _ => rfl
  have F25 := fun_mk (st := sShapeOf) l25 c25 k25
  have b25 := F25.binds (ps := ["self", "thing"]) fun _ _ _ _ _ _ us hl => match us, hl with | [_, _], _ => rfl
  have D1 : Df K mg "looked" sLooked ["room", "line", "world"] f1 _ := ⟨F1, PySem.W.mg_of X G a1, F1.binds (ps := ["room", "line", "world"]) fun _ _ _ _ _ _ us hl => match us, hl with | [_, _, _], _ => rfl⟩
  have D2 : Df K mg "read_look" sReadLook ["room", "line"] f2 _ := ⟨F2, PySem.W.mg_of X G a2, F2.binds (ps := ["room", "line"]) fun _ _ _ _ _ _ us hl => match us, hl with | [_, _], _ => rfl⟩
  have D3 : Df K mg "is_look" sIsLook ["room", "word", "name"] f3 _ := ⟨F3, PySem.W.mg_of X G a3, F3.binds (ps := ["room", "word", "name"]) fun _ _ _ _ _ _ us hl => match us, hl with | [_, _, _], _ => rfl⟩
  have D4 : Df K mg "shape_told" sShapeTold ["room", "thing"] f4 _ := ⟨F4, PySem.W.mg_of X G a4, F4.binds (ps := ["room", "thing"]) fun _ _ _ _ _ _ us hl => match us, hl with | [_, _], _ => rfl⟩
  have D5 : Df K mg "is_name" sIsName ["text"] f5 _ := ⟨F5, PySem.W.mg_of X G a5, F5.binds (ps := ["text"]) fun _ _ _ _ _ _ us hl => match us, hl with | [_], _ => rfl⟩
  have D6 : Df K mg "read_line" sReadLine ["line"] f6 _ := ⟨F6, PySem.W.mg_of X G a6, F6.binds (ps := ["line"]) fun _ _ _ _ _ _ us hl => match us, hl with | [_], _ => rfl⟩
  have D7 : Df K mg "read_rows" sReadRows ["lines"] f7 _ := ⟨F7, PySem.W.mg_of X G a7, F7.binds (ps := ["lines"]) fun _ _ _ _ _ _ us hl => match us, hl with | [_], _ => rfl⟩
  have D8 : Df K mg "read_things" sReadThings ["rows"] f8 _ := ⟨F8, PySem.W.mg_of X G a8, F8.binds (ps := ["rows"]) fun _ _ _ _ _ _ us hl => match us, hl with | [_], _ => rfl⟩
  have D9 : Df K mg "read_places" sReadPlaces ["rows"] f9 _ := ⟨F9, PySem.W.mg_of X G a9, F9.binds (ps := ["rows"]) fun _ _ _ _ _ _ us hl => match us, hl with | [_], _ => rfl⟩
  have D10 : Df K mg "check_keys" sCheckKeys ["places", "shapes"] f10 _ := ⟨F10, PySem.W.mg_of X G a10, F10.binds (ps := ["places", "shapes"]) fun _ _ _ _ _ _ us hl => match us, hl with | [_, _], _ => rfl⟩
  have D11 : Df K mg "_law_pick" sPick ["_law_script", "_law_k", "_law_many"] f11 _ := ⟨F11, PySem.W.mg_of X G a11, F11.binds (ps := ["_law_script", "_law_k", "_law_many"]) fun _ _ _ _ _ _ us hl => match us, hl with | [_, _, _], _ => rfl⟩
  have D12 : Df K mg "_law_fixed" sFixed ["_law_text"] f12 _ := ⟨F12, PySem.W.mg_of X G a12, F12.binds (ps := ["_law_text"]) fun _ _ _ _ _ _ us hl => match us, hl with | [_], _ => rfl⟩
  have D13 : Df K mg "_law_names" sNames ["_law_script", "_law_k", "_law_many"] f13 _ := ⟨F13, PySem.W.mg_of X G a13, F13.binds (ps := ["_law_script", "_law_k", "_law_many"]) fun _ _ _ _ _ _ us hl => match us, hl with | [_, _, _], _ => rfl⟩
  have D14 : Df K mg "_law_place_line" sLine ["_law_script", "_law_k", "_law_room_here", "_law_name"] f14 _ := ⟨F14, PySem.W.mg_of X G a14, F14.binds (ps := ["_law_script", "_law_k", "_law_room_here", "_law_name"]) fun _ _ _ _ _ _ us hl => match us, hl with | [_, _, _, _], _ => rfl⟩
  have D15 : Df K mg "_law_room" sRoom ["_law_script", "_law_places", "_law_things"] f15 _ := ⟨F15, PySem.W.mg_of X G a15, F15.binds (ps := ["_law_script", "_law_places", "_law_things"]) fun _ _ _ _ _ _ us hl => match us, hl with | [_, _, _], _ => rfl⟩
  have D16 : Df K mg "_law_sizes" sSizes ["_law_script"] f16 _ := ⟨F16, PySem.W.mg_of X G a16, F16.binds (ps := ["_law_script"]) fun _ _ _ _ _ _ us hl => match us, hl with | [_], _ => rfl⟩
  have D17 : Df K mg "_law_lids" sLids ["_law_room_here", "_law_place"] f17 _ := ⟨F17, PySem.W.mg_of X G a17, F17.binds (ps := ["_law_room_here", "_law_place"]) fun _ _ _ _ _ _ us hl => match us, hl with | [_, _], _ => rfl⟩
  have D18 : Df K mg "_law_world" sWorld ["_law_script", "_law_k", "_law_room_here"] f18 _ := ⟨F18, PySem.W.mg_of X G a18, F18.binds (ps := ["_law_script", "_law_k", "_law_room_here"]) fun _ _ _ _ _ _ us hl => match us, hl with | [_, _, _], _ => rfl⟩
  have D19 : Df K mg "_law_fresh" sLFresh ["_law_room_here"] f19 _ := ⟨F19, PySem.W.mg_of X G a19, F19.binds (ps := ["_law_room_here"]) fun _ _ _ _ _ _ us hl => match us, hl with | [_], _ => rfl⟩
  have D20 : Df K mg "_law_bad" sLBad ["_law_script", "_law_drawn"] f20 _ := ⟨F20, PySem.W.mg_of X G a20, F20.binds (ps := ["_law_script", "_law_drawn"]) fun _ _ _ _ _ _ us hl => match us, hl with | [_, _], _ => rfl⟩
  have D21 : Df K mg "_law_refused" sLRefused ["_law_room_here", "_law_line", "_law_world_here"] f21 _ := ⟨F21, PySem.W.mg_of X G a21, F21.binds (ps := ["_law_room_here", "_law_line", "_law_world_here"]) fun _ _ _ _ _ _ us hl => match us, hl with | [_, _, _], _ => rfl⟩
  refine ⟨PySem.W.fnOf "law" "law" (defArgs sLaw) (defBody sLaw) (defScope sLaw) .none kV22 dc22 pm22 an22 cd22 ct22, fun s v => .of_eq rfl, fun base _ _ => ?_⟩
  have R' : Er K mg GE NN := ⟨PySem.W.mg_of X G aG, PySem.W.mg_of X G aE, oG, oE, sE⟩
  have GQ := ok_pickD (P := l.prog) (w := w) (base := base) F11 T
  have GP := ok_pick GQ
  have GX := ok_fixed (P := l.prog) (w := w) (mg := mg) (base := base) F12
  have GN := ok_names (P := l.prog) (w := w) (base := base) F13 D11 D12 T GQ GX
  have GL := ok_line (P := l.prog) (w := w) (base := base) F14 D11 T GP
  have GR := ok_room (P := l.prog) (w := w) (base := base) F15 D11 D13 D14 T GP GN GL
  have GS := ok_sizes (P := l.prog) (w := w) (base := base) F16 D11 T GP
  have GI := ok_lids (P := l.prog) (w := w) (mg := mg) (base := base) F17
  have GW := ok_world (P := l.prog) (w := w) (base := base) F18 D11 D17 T GP GI
  have Gis := ok_isname (P := l.prog) (w := w) (base := base) F5 T M
  have Grl := ok_readline (P := l.prog) (w := w) (base := base) F6 D5 T M Gis
  have Grr := ok_readrows (P := l.prog) (w := w) (base := base) F7 D6 T Grl
  have Gth := ok_things (P := l.prog) (w := w) (base := base) F8 T M
  have Gpl := ok_places (P := l.prog) (w := w) (base := base) F9 T M
  have Gck := ok_check (P := l.prog) (w := w) (mg := mg) (base := base) F10
  have Gin := ok_init (P := l.prog) (w := w) (base := base) F23 L D7 D9 D8 D10 Grr Gpl Gth Gck
  have Gps := ok_pl (P := l.prog) (w := w) (base := base) F24 L T
  have Gso := ok_shapeof (P := l.prog) (w := w) (mg := mg) (base := base) F25 L
  have Gil := ok_islook (P := l.prog) (w := w) (base := base) F3 L MW b24 ⟨a24, i24, k24⟩ Gps
  have Grk := ok_readlook (P := l.prog) (w := w) (base := base) F2 T R' D3 Gil
  have Gst := ok_shapetold (P := l.prog) (w := w) (mg := mg) (base := base) F4 L b25 ⟨a25, i25, k25⟩ Gso
  have Glk := ok_looked (P := l.prog) (w := w) (base := base) F1 D2 D4 Grk Gst
  have Grf := ok_refused (P := l.prog) (w := w) (base := base) F21 R' T D1 Glk
  have Gfr := ok_fresh (P := l.prog) (w := w) (mg := mg) (base := base) F19 T
  have Gbd := ok_bad (P := l.prog) (w := w) (base := base) F20 T D11 D19 GP Gfr
  exact ok_law F22 D16 D15 D18 D1 D20 D21 T ⟨mk, a23, i23, kc⟩ (PySem.W.mg_of X G aC) b23 Gin GS GR GW Glk Gbd Grf
theorem walk {l : PySem.W.OpenLaw} {q : Program} {loose : List Str} {XP : (Str → Option Value) → Heap → Prop} {YP : World → Heap → Prop} {d : DefRec} {K : Params → PySem.W.Frag} (hn : l.most = some 63) (hdf : d.params.defaults = [])
    (hY : ∀ (w : World) (h : Heap), YP w h → (K w.params).In h)
    (F : ∀ (w : World) (mg : Str → Option Value) (fa : Addr) (h : Heap), (K w.params).In h → h.Ns mainGlobals mg → mg d.name = some (.ref fa) →
      ∃ fd : FuncData, (∀ (s : Shared) (u : Value), BindsTo s fd ⟨[u], []⟩ [("_law_script", u)]) ∧ ∀ base : Heap, (K w.params).In base → base.Ns mainGlobals mg → FnOk l.prog w (K w.params) mg base CX0 6 fa fd ["_law_script"] (spLaw (K w.params))) :
    PySem.W.WalkO q loose XP YP l.row.toRowW d [] (fun f vs => PySem.call f vs) :=
  L2.walk_of (n := 63) (k := 6) (x := "_law_script") (CX := fun _ => CX0) (sp := fun w => spLaw (K w.params)) hn (by decide) hdf ⟨rfl, by decide, by decide⟩ hY F (fun _ _ a ns hl _ hS => ⟨a, ns, rfl, hS, hl, fun _ => rfl⟩) fun _ _ _ _ _ z => z
end K12
open PySem PySem.W PyProof.Rows
set_option maxRecDepth 100000 in
set_option maxHeartbeats 0 in
theorem PySem.Challenge.cw_grope_k12_no_look_holds : PySem.Challenge.rw_grope_k12_no_look.Holds := by
  w_on; o_law; k_head; (case hw => w_witness2)
  k_fill
  refine K12.walk (l := PySem.Challenge.rw_grope_k12_no_look) rfl rfl (fun w h Y => PySem.W.kIn_of Y) ?F
  case F =>
    intro w mg fa h KX G hmg
    refine' K12.all_mk KX G hmg ?a1 ?l1 ?c1 ?k1 ?a2 ?l2 ?c2 ?k2 ?a3 ?l3 ?c3 ?k3 ?a4 ?l4 ?c4 ?k4 ?a5 ?l5 ?c5 ?k5 ?a6 ?l6 ?c6 ?k6 ?a7 ?l7 ?c7 ?k7 ?a8 ?l8 ?c8 ?k8 ?a9 ?l9 ?c9 ?k9 ?a10 ?l10 ?c10 ?k10 ?a11 ?l11 ?c11 ?k11 ?a12 ?l12 ?c12 ?k12 ?a13 ?l13 ?c13 ?k13 ?a14 ?l14 ?c14 ?k14 ?a15 ?l15 ?c15 ?k15 ?a16 ?l16 ?c16 ?k16 ?a17 ?l17 ?c17 ?k17 ?a18 ?l18 ?c18 ?k18 ?a19 ?l19 ?c19 ?k19 ?a20 ?l20 ?c20 ?k20 ?a21 ?l21 ?c21 ?k21 ?a22 ?l22 ?c22 ?k22 ?aC ?a23 ?i23 ?l23 ?c23 ?k23 ?a24 ?i24 ?l24 ?c24 ?k24 ?a25 ?i25 ?l25 ?c25 ?k25 ?pg ?hd ?po ?sa ?mk ?kc ?nP ?nS ?aG ?aE ?oG ?oE ?sE ?gL ?vL ?gO ?vO ?gP ?vP ?gT ?vT ?gN ?lN ?vN ?gF ?lF ?vF ?lF1 ?vF1 ?lF2 ?vF2 ?lF3 ?vF3 ?lF4 ?vF4 ?gW ?lW ?vW ?z1 ?z2 ?z3 ?z4 ?z5 ?z6 ?z7 ?z8 ?z9 ?z10 ?z11 ?z12 ?z13
    (case a1 => k_is)
    (case l1 => k_is)
    (case c1 => k_is)
    (case k1 => k_is)
    (case a2 => k_is)
    (case l2 => k_is)
    (case c2 => k_is)
    (case k2 => k_is)
    (case a3 => k_is)
    (case l3 => k_is)
    (case c3 => k_is)
    (case k3 => k_is)
    (case a4 => k_is)
    (case l4 => k_is)
    (case c4 => k_is)
    (case k4 => k_is)
    (case a5 => k_is)
    (case l5 => k_is)
    (case c5 => k_is)
    (case k5 => k_is)
    (case a6 => k_is)
    (case l6 => k_is)
    (case c6 => k_is)
    (case k6 => k_is)
    (case a7 => k_is)
    (case l7 => k_is)
    (case c7 => k_is)
    (case k7 => k_is)
    (case a8 => k_is)
    (case l8 => k_is)
    (case c8 => k_is)
    (case k8 => k_is)
    (case a9 => k_is)
    (case l9 => k_is)
    (case c9 => k_is)
    (case k9 => k_is)
    (case a10 => k_is)
    (case l10 => k_is)
    (case c10 => k_is)
    (case k10 => k_is)
    (case a11 => k_is)
    (case l11 => k_is)
    (case c11 => k_is)
    (case k11 => k_is)
    (case a12 => k_is)
    (case l12 => k_is)
    (case c12 => k_is)
    (case k12 => k_is)
    (case a13 => k_is)
    (case l13 => k_is)
    (case c13 => k_is)
    (case k13 => k_is)
    (case a14 => k_is)
    (case l14 => k_is)
    (case c14 => k_is)
    (case k14 => k_is)
    (case a15 => k_is)
    (case l15 => k_is)
    (case c15 => k_is)
    (case k15 => k_is)
    (case a16 => k_is)
    (case l16 => k_is)
    (case c16 => k_is)
    (case k16 => k_is)
    (case a17 => k_is)
    (case l17 => k_is)
    (case c17 => k_is)
    (case k17 => k_is)
    (case a18 => k_is)
    (case l18 => k_is)
    (case c18 => k_is)
    (case k18 => k_is)
    (case a19 => k_is)
    (case l19 => k_is)
    (case c19 => k_is)
    (case k19 => k_is)
    (case a20 => k_is)
    (case l20 => k_is)
    (case c20 => k_is)
    (case k20 => k_is)
    (case a21 => k_is)
    (case l21 => k_is)
    (case c21 => k_is)
    (case k21 => k_is)
    (case a22 => k_is)
    (case l22 => k_is)
    (case c22 => k_is)
    (case k22 => k_is)
    (case aC => k_is)
    (case a23 => k_is)
    (case i23 => k_is)
    (case l23 => k_is)
    (case c23 => k_is)
    (case k23 => k_is)
    (case a24 => k_is)
    (case i24 => k_is)
    (case l24 => k_is)
    (case c24 => k_is)
    (case k24 => k_is)
    (case a25 => k_is)
    (case i25 => k_is)
    (case l25 => k_is)
    (case c25 => k_is)
    (case k25 => k_is)
    (case pg => k_is)
    (case hd => k_is)
    (case po => k_is)
    (case sa => k_is)
    (case mk => k_is)
    (case kc => k_is)
    (case nP => k_is)
    (case nS => k_is)
    (case aG => k_is)
    (case aE => k_is)
    (case oG => k_exc)
    (case oE => k_exc)
    (case sE => first | rfl | (with_unfolding_all rfl) | exact Eq.refl true)
    (case gL => k_is)
    (case vL => first | rfl | decide +kernel | k_is)
    (case gO => k_is)
    (case vO => first | rfl | decide +kernel | k_is)
    (case gP => k_is)
    (case vP => first | rfl | decide +kernel | k_is)
    (case gT => k_is)
    (case vT => first | rfl | decide +kernel | k_is)
    (case gN => k_is)
    (case lN => k_is)
    (case vN => first | rfl | decide +kernel | k_is)
    (case gF => k_is)
    (case lF => k_is)
    (case vF => first | rfl | decide +kernel | k_is)
    (case lF1 => k_is)
    (case vF1 => first | rfl | decide +kernel | k_is)
    (case lF2 => k_is)
    (case vF2 => first | rfl | decide +kernel | k_is)
    (case lF3 => k_is)
    (case vF3 => first | rfl | decide +kernel | k_is)
    (case lF4 => k_is)
    (case vF4 => first | rfl | decide +kernel | k_is)
    (case gW => k_is)
    (case lW => k_is)
    (case vW => first | rfl | decide +kernel | k_is)
    (case z1 => k_is)
    (case z2 => k_is)
    (case z3 => k_is)
    (case z4 => k_is)
    (case z5 => k_is)
    (case z6 => k_is)
    (case z7 => k_is)
    (case z8 => k_is)
    (case z9 => k_is)
    (case z10 => k_is)
    (case z11 => k_is)
    (case z12 => k_is)
    (case z13 => k_is)
#print axioms PySem.Challenge.cw_grope_k12_no_look_holds
