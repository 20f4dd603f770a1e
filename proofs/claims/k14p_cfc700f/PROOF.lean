import PyProof.Rows.All
import Wide.All
import OpenK.AllK
import Wide.FinOn
import Lean
import PyProof.EqAt
import PyProof.EqKinds
import PyProof.TupleCall
import PySem.Challenge.RW_grope_k14_facts_joined
set_option Elab.async false
set_option linter.all false
set_option maxRecDepth 100000
set_option maxHeartbeats 4000000
namespace L2
open PySem PySem.Spec PyProof.Rows
noncomputable abbrev Key := Sum Int Str
noncomputable def keyIs : Key → Value → Bool
  | .inl k, v => Value.isInt k v
  | .inr x, v => Value.isStrOf x v
noncomputable def keyH (w : World) : Key → Int
  | .inl k => hashInt k
  | .inr x => hashStr w x
theorem keyIs_shape : ∀ {k : Key} {v : Value}, keyIs k v = true → (∃ i t, k = Sum.inl i ∧ v = Value.int i t) ∨ (∃ x t, k = Sum.inr x ∧ v = Value.str x t)
  | .inl i, v, h => by
    obtain ⟨t, e⟩ := Value.isInt_shape (k := i) (v := v) h
    exact .inl ⟨i, t, rfl, e⟩
  | .inr x, v, h => by
    obtain ⟨t, e⟩ := Value.isStrOf_shape (x := x) (v := v) h
    exact .inr ⟨x, t, rfl, e⟩
theorem keyIs_int (i : Int) (t : Tok) : keyIs (.inl i) (.int i t) = true := by simp [keyIs, Value.isInt]
theorem keyIs_str (x : Str) (t : Tok) : keyIs (.inr x) (.str x t) = true := by simp [keyIs, Value.isStrOf]
theorem key_ll (a b : Int) : decide ((Sum.inl a : Key) = Sum.inl b) = (a == b) := by
  by_cases e : a = b
  · subst e; simp
  · have h : ¬ (Sum.inl a : Key) = Sum.inl b := fun q => e (Sum.inl.inj q)
    rw [decide_eq_false h]
    exact (beq_eq_false_iff_ne.mpr e).symm
theorem key_rr (a b : Str) : decide ((Sum.inr a : Key) = Sum.inr b) = decide (a = b) := by
  by_cases e : a = b
  · subst e; simp
  · have h : ¬ (Sum.inr a : Key) = Sum.inr b := fun q => e (Sum.inr.inj q)
    rw [decide_eq_false h, decide_eq_false e]
theorem key_lr (a : Int) (b : Str) : decide ((Sum.inl a : Key) = Sum.inr b) = false := decide_eq_false (fun q => nomatch q)
theorem key_rl (a : Str) (b : Int) : decide ((Sum.inr a : Key) = Sum.inl b) = false := decide_eq_false (fun q => nomatch q)
noncomputable def mixKind (prog : Program) (w : World) : PySem.KeyKind prog w Key where
  is := keyIs
  hash := keyH w
  inj := fun v a b ha hb => by
    rcases keyIs_shape ha with ⟨i, t, rfl, rfl⟩ | ⟨x, t, rfl, rfl⟩
    · rcases keyIs_shape hb with ⟨j, u, rfl, e⟩ | ⟨y, u, rfl, e⟩
      · injection e with e1 _; rw [e1]
      · exact nomatch e
    · rcases keyIs_shape hb with ⟨j, u, rfl, e⟩ | ⟨y, u, rfl, e⟩
      · exact nomatch e
      · injection e with e1 _; rw [e1]
  byValue := fun k v h => by
    rcases keyIs_shape h with ⟨i, t, rfl, rfl⟩ | ⟨x, t, rfl, rfl⟩ <;> rfl
  pyHash := fun hv h => by
    rcases keyIs_shape hv with ⟨i, t, rfl, rfl⟩ | ⟨x, t, rfl, rfl⟩
    · exact wpAny_pyHash_int h
    · exact wpAny_pyHash_str h
  eqBool := fun hu hv h => by
    rcases keyIs_shape hu with ⟨i, t, rfl, rfl⟩ | ⟨x, t, rfl, rfl⟩
    · rcases keyIs_shape hv with ⟨j, u, rfl, rfl⟩ | ⟨y, u, rfl, rfl⟩
      · rw [key_ll] at h; exact wpAny_eqBool_int h
      · rw [key_lr] at h; exact SeqAt.EqAt.int_str i t y u _ _ _ _ h
    · rcases keyIs_shape hv with ⟨j, u, rfl, rfl⟩ | ⟨y, u, rfl, rfl⟩
      · rw [key_rl] at h; exact SeqAt.EqAt.str_int x t j u _ _ _ _ h
      · rw [key_rr] at h; exact wpAny_eqBool_str h
  «strs» := fun k x t v h => by
    rcases keyIs_shape h with ⟨i, u, rfl, e⟩ | ⟨y, u, rfl, e⟩
    · exact nomatch e
    · injection e with e1 _
      subst e1
      cases v <;> rfl
theorem mixKind_int (prog : Program) (w : World) (i : Int) (t : Tok) : (mixKind prog w).is (.inl i) (.int i t) = true := keyIs_int i t
theorem mixKind_str (prog : Program) (w : World) (x : Str) (t : Tok) : (mixKind prog w).is (.inr x) (.str x t) = true := keyIs_str x t
end L2
namespace L2
open PySem PySem.Spec PyProof.Rows
inductive V where
  | non | bl (b : Bool) | int (i : Int) | str (x : Str) | byt (b : Array UInt8) | flt (b : UInt64) | ref (a : Addr) | ty (n : String)
  deriving DecidableEq
noncomputable def RelV : V → Value → Prop
  | .non, u => u = Value.none
  | .bl b, u => u = Value.bool b
  | .int i, u => ∃ t, u = Value.int i t
  | .str x, u => ∃ t, u = Value.str x t
  | .byt b, u => ∃ t, u = Value.bytes b t
  | .flt b, u => ∃ t, u = Value.float b t
  | .ref a, u => u = Value.ref a
  | .ty n, u => u = Value.type n
noncomputable abbrev Vals : List V → List Value → Prop := Paired RelV
theorem Vals.length {xs : List V} {us : List Value} (r : Vals xs us) : xs.length = us.length := Paired.length r
theorem Vals.get : ∀ {xs : List V} {us : List Value} {i : Nat} {x : V}, Vals xs us → xs[i]? = some x → ∃ u, us[i]? = some u ∧ RelV x u
  | _, _, _, _, .nil, e => by simp at e
  | _, _, 0, _, .cons r _, e => by simp at e; subst e; exact ⟨_, rfl, r⟩
  | _, _, i + 1, x, .cons _ t, e => by
    obtain ⟨u, h1, h2⟩ := Vals.get (i := i) (x := x) t (by simpa using e)
    exact ⟨u, by simpa using h1, h2⟩
theorem Vals.append : ∀ {xs ys : List V} {us ws : List Value}, Vals xs us → Vals ys ws → Vals (xs ++ ys) (us ++ ws)
  | _, _, _, _, .nil, s => s
  | _, _, _, _, .cons r t, s => .cons r (Vals.append t s)
theorem Vals.take : ∀ {xs : List V} {us : List Value} (n : Nat), Vals xs us → Vals (xs.take n) (us.take n)
  | _, _, 0, _ => .nil
  | _, _, _ + 1, .nil => .nil
  | _, _, n + 1, .cons r t => .cons r (Vals.take n t)
theorem Vals.drop : ∀ {xs : List V} {us : List Value} (n : Nat), Vals xs us → Vals (xs.drop n) (us.drop n)
  | _, _, 0, r => r
  | _, _, _ + 1, .nil => .nil
  | _, _, n + 1, .cons _ t => Vals.drop n t
noncomputable def RelO : Option V → Option Value → Prop
  | some v, some u => RelV v u
  | none, none => True
  | _, _ => False
noncomputable def KV {κ : Type} : List (κ × V) → List (κ × Value) → Prop := Paired fun (p : κ × V) (q : κ × Value) => p.1 = q.1 ∧ RelV p.2 q.2
noncomputable def kV : Key → V
  | .inl i => .int i
  | .inr x => .str x
inductive HO where
  /-- a list -/
  | lst (xs : List V)
  /-- a tuple (never changes) -/
  | tup (xs : List V)
  /-- a dict whose keys are ints and texts; one whose keys are tuples of ints and texts (the empty one is both) -/
  | dK (kvs : List (Key × V)) | dT (kvs : List (List Key × V))
  /-- a set of ints: its members, its size -/
  | set (S : Int → Bool) (n : Nat)
  /-- an instance of the class at C, its dict at dx, its attributes -/
  | ins (C dx : Addr) (fs : List (Str × V))
  /-- the dict of the instance at x -/
  | own (x : Addr)
  /-- the dict of an exception -/
  | xd (fs : List (Str × V))
  /-- a bound method, f of x -/
  | met (f x : Addr)
  /-- a range object lo, lo + 1, .. below hi -/
  | rng (lo hi : Int)
  /-- a thing that is known to the object (the script; a dict while a loop walks it): read, never written while it is so -/
  | frz (o : Obj) (u : HO)
  /-- a code object's table -/
  | tbl (ps : Array Value)
  /-- any other thing, by what is true of its one object (a def of one's own: SetO a S n := HO.ext fun h => ..) -/
  | ext (φ : Heap → Prop)
noncomputable abbrev Hp := Addr → Option HO
noncomputable def upd (H : Hp) (a : Addr) (o : HO) : Hp := fun b => if b = a then some o else H b
theorem upd_same {H : Hp} {a : Addr} {o : HO} : upd H a o a = some o := by unfold upd; rw [if_pos rfl]
theorem upd_ne {H : Hp} {a b : Addr} {o : HO} (h : b ≠ a) : upd H a o b = H b := by unfold upd; rw [if_neg h]
theorem upd_upd {H : Hp} {a : Addr} {o u : HO} : upd (upd H a o) a u = upd H a u := by
  funext b; unfold upd; split <;> rfl
theorem ne_of {H : Hp} {a b : Addr} {o u : HO} (h : H a = some o) (h' : H b = some u) (d : o ≠ u) : a ≠ b := by
  intro e; subst e; rw [h] at h'; exact d (Option.some.inj h')
theorem ne_of_none {H : Hp} {a b : Addr} {o : HO} (h : H a = some o) (h' : H b = none) : a ≠ b := by
  intro e; subst e; rw [h] at h'; cases h'
section
variable (P : Program) (w : World)
noncomputable def ObjOk (H : Hp) (h : Heap) (a : Addr) : HO → Prop
  | .lst xs => xs.length ≤ sizeLine ∧ ∃ (its : List Value) (n : Nat), Vals xs its ∧ h.get? a = some { cls := .type "list", data := .seq its.toArray n }
  | .tup xs => xs.length ≤ sizeLine ∧ ∃ its : List Value, Vals xs its ∧ IsTup h a its.toArray
  | .dK kvs => kvs.length ≤ sizeLine ∧ (a == sysModules) = false ∧ ∃ vs, KV kvs vs ∧ h.DictOf (mixKind P w) a vs
  | .dT kvs => kvs.length ≤ sizeLine ∧ (a == sysModules) = false ∧ ∃ xs : List (List Key × Addr × Value),
      Paired (fun (p : List Key × V) (q : List Key × Addr × Value) => p.1 = q.1 ∧ H q.2.1 = some (.tup (p.1.map kV)) ∧ RelV p.2 q.2.2) kvs xs ∧
      ∃ o es ep, h.get? a = some o ∧ o.ExactDict ∧ o.data = .dict es ep ∧ es.toList = xs.map (entryOfKey (tupleKind (mixKind P w))) ∧ (xs.map (·.1)).Nodup
  | .set S n => h.SetOf (intKind P w) a S n
  | .ins C dx fs => H dx = some (.own a) ∧ fs.length ≤ 1000 ∧ dx ≠ a ∧ h.get? a = some (PySem.W.instObj C dx) ∧
      ∃ mA, h.Ns1 dx mA ∧ (∀ f, RelO (fs.lookup f) (mA f)) ∧ PySem.Within mA (fs.map (·.1))
  | .own _ => ∃ o, h.get? a = some o
  | .xd fs => ∃ mA, h.Ns1 a mA ∧ ∀ f, RelO (fs.lookup f) (mA f)
  | .rng lo hi => ∃ t u v, h.get? a = some { cls := .type "range", data := .fields #[.int lo t, .int hi u, .int 1 v] }
  | .frz o u => h.get? a = some o ∧ ObjOk H h a u
  | .tbl ps => h.get? a = some { cls := .none, data := .fields ps }
  | .met f x => h.get? a = some (PySem.W.methodObj (.ref f) (.ref x))
  | .ext φ => φ h ∧ (∃ o, h.get? a = some o) ∧ ∀ h1 h2 : Heap, φ h1 → (∀ o, h1.get? a = some o → h2.get? a = some o) → φ h2
noncomputable def HOk (H : Hp) (h : Heap) : Prop := ∀ a o, H a = some o → ObjOk P w H h a o
end
section
variable {P : Program} {w : World} {H H' : Hp} {h h' : Heap} {a : Addr} {o : HO}
theorem ObjOk.lt (x : ObjOk P w H h a o) : a < h.objs.size := by
  cases o with
  | lst xs => obtain ⟨_, _, _, _, e⟩ := x; exact Heap.lt_size e
  | tup xs => obtain ⟨_, _, _, p⟩ := x; exact p.lt
  | dK kvs => obtain ⟨_, _, _, _, o, _, _, e, _⟩ := x; exact Heap.lt_size e
  | dT kvs => obtain ⟨_, _, _, _, o, _, _, e, _⟩ := x; exact Heap.lt_size e
  | set S n => obtain ⟨o, _, _, _, e, _⟩ := x; exact Heap.lt_size e
  | ins C dx fs => obtain ⟨_, _, _, e, _⟩ := x; exact Heap.lt_size e
  | own y => obtain ⟨_, e⟩ := x; exact Heap.lt_size e
  | xd fs => obtain ⟨_, ⟨_, _, _, e, _⟩, _⟩ := x; exact Heap.lt_size e
  | rng lo hi => obtain ⟨_, _, _, e⟩ := x; exact Heap.lt_size e
  | frz ob u => obtain ⟨e, _⟩ := x; exact Heap.lt_size e
  | tbl ps => exact Heap.lt_size (show h.get? a = some _ from x)
  | met f y => exact Heap.lt_size (show h.get? a = some _ from x)
  | ext φ => obtain ⟨_, ⟨_, e⟩, _⟩ := x; exact Heap.lt_size e
theorem Paired.mapP {α β : Type} {F G : α → β → Prop} : ∀ {l₁ : List α} {l₂ : List β}, Paired F l₁ l₂ → (∀ a b, F a b → G a b) → Paired G l₁ l₂
  | _, _, .nil, _ => .nil
  | _, _, .cons r t, f => .cons (f _ _ r) (Paired.mapP t f)
theorem ObjOk.stay (x : ObjOk P w H h a o) (k : ∀ b u, (b = a ∨ H b = some (.own a)) → h.get? b = some u → h'.get? b = some u)
    (ho : ∀ b, H b = some (.own a) → H' b = some (.own a)) (ht : ∀ b xs, H b = some (.tup xs) → H' b = some (.tup xs)) : ObjOk P w H' h' a o := by
  induction o with
  | lst xs => obtain ⟨z, its, n, r, e⟩ := x; exact ⟨z, its, n, r, k _ _ (.inl rfl) e⟩
  | tup xs => obtain ⟨z, its, r, ob, e, c⟩ := x; exact ⟨z, its, r, ob, k _ _ (.inl rfl) e, c⟩
  | dK kvs => obtain ⟨z, y, vs, r, ob, es, ep, e, c⟩ := x; exact ⟨z, y, vs, r, ob, es, ep, k _ _ (.inl rfl) e, c⟩
  | dT kvs =>
    obtain ⟨z, y, xs, r, ob, es, ep, e, c⟩ := x
    exact ⟨z, y, xs, Paired.mapP r fun p q z => ⟨z.1, ht _ _ z.2.1, z.2.2⟩, ob, es, ep, k _ _ (.inl rfl) e, c⟩
  | set S n => obtain ⟨ob, es, ep, t, e, c⟩ := x; exact ⟨ob, es, ep, t, k _ _ (.inl rfl) e, c⟩
  | ins C dx fs =>
    obtain ⟨d, z, ne, e, mA, ⟨od, es, ep, e2, c⟩, r⟩ := x
    exact ⟨ho _ d, z, ne, k _ _ (.inl rfl) e, mA, ⟨od, es, ep, k _ _ (.inr d) e2, c⟩, r⟩
  | own y => obtain ⟨ob, e⟩ := x; exact ⟨ob, k _ _ (.inl rfl) e⟩
  | xd fs => obtain ⟨mA, ⟨od, es, ep, e, c⟩, r⟩ := x; exact ⟨mA, ⟨od, es, ep, k _ _ (.inl rfl) e, c⟩, r⟩
  | rng lo hi => obtain ⟨t, u, v, e⟩ := x; exact ⟨t, u, v, k _ _ (.inl rfl) e⟩
  | frz ob u ih => obtain ⟨e, q⟩ := x; exact ⟨k _ _ (.inl rfl) e, ih q⟩
  | tbl ps =>
    have e : h.get? a = some { cls := .none, data := .fields ps } := x
    show h'.get? a = some { cls := .none, data := .fields ps }
    exact k a _ (.inl rfl) e
  | met f y =>
    have e : h.get? a = some (PySem.W.methodObj (.ref f) (.ref y)) := x
    show h'.get? a = some (PySem.W.methodObj (.ref f) (.ref y))
    exact k a _ (.inl rfl) e
  | ext φ => obtain ⟨p, ⟨o, e⟩, st⟩ := x; exact ⟨st _ _ p fun o q => k _ _ (.inl rfl) q, ⟨o, k _ _ (.inl rfl) e⟩, st⟩
theorem HOk.lt (x : HOk P w H h) (e : H a = some o) : a < h.objs.size := (x a o e).lt
theorem HOk.fresh (x : HOk P w H h) (e : h.objs.size ≤ a) : H a = none := by
  cases q : H a with
  | none => rfl
  | some u => exact absurd (Nat.lt_of_lt_of_le (x.lt q) e) (Nat.lt_irrefl _)
theorem HOk.kept (x : HOk P w H h) (k : ∀ b u, h.get? b = some u → h'.get? b = some u) : HOk P w H h' := fun a o e =>
  (x a o e).stay (fun b u _ q => k b u q) (fun _ q => q) fun _ _ q => q
theorem HOk.laid (x : HOk P w H h) (k : ∀ b u, h.get? b = some u → h'.get? b = some u) (hp : h.objs.size ≤ a) (new : ObjOk P w (upd H a o) h' a o) : HOk P w (upd H a o) h' := fun b u e => by
  have hn := x.fresh hp
  by_cases hb : b = a
  · subst hb; rw [upd_same] at e; cases e; exact new
  · rw [upd_ne hb] at e
    exact (x b u e).stay (fun c v _ q => k c v q) (fun c q => by rw [upd_ne (ne_of_none q hn)]; exact q) fun c xs q => by rw [upd_ne (ne_of_none q hn)]; exact q
end
noncomputable def Rd (H : Hp) (a : Addr) (u : HO) : Prop := H a = some u ∨ ∃ o, H a = some (.frz o u)
theorem Rd.ok {P : Program} {w : World} {H : Hp} {h : Heap} {a : Addr} {u : HO} (r : Rd H a u) (x : HOk P w H h) : ObjOk P w H h a u := by
  rcases r with r | ⟨o, r⟩
  · exact x a u r
  · obtain ⟨_, q⟩ := x a _ r
    exact q
noncomputable def Mut : Option HO → Prop
  | some (.lst _) => True
  | some (.dK _) => True
  | some (.dT _) => True
  | some (.set _ _) => True
  | some (.ins _ _ _) => True
  | some (.ext _) => True
  | _ => False
section
variable {P : Program} {w : World} {H : Hp} {h h' : Heap} {x e : Addr} {o' : HO}
theorem HOk.write (ok : HOk P w H h) (mu : Mut (H x)) (he : e = x ∨ H e = some (.own x)) (k : ∀ b u, b ≠ e → h.get? b = some u → h'.get? b = some u) (heo : ∃ u, h'.get? e = some u)
    (new : ObjOk P w (upd H x o') h' x o') : HOk P w (upd H x o') h' := fun b u q => by
  have nown : ∀ c y, H c = some (.own y) → c ≠ x := fun c y r z => by subst z; rw [r] at mu; exact mu
  have ntup : ∀ c xs, H c = some (.tup xs) → c ≠ x := fun c xs r z => by subst z; rw [r] at mu; exact mu
  by_cases hb : b = x
  · subst hb; rw [upd_same] at q; cases q; exact new
  · rw [upd_ne hb] at q
    by_cases hbe : b = e
    · have q' : H b = some (.own x) := by
        rcases he with z | z
        · exact absurd (hbe.trans z) hb
        · rw [hbe]; exact z
      rw [q] at q'; cases q'
      obtain ⟨v, hv⟩ := heo
      exact ⟨v, by rw [hbe]; exact hv⟩
    · refine (ok b u q).stay (fun c v hc r => k c v ?_ r) (fun c r => by rw [upd_ne (nown c b r)]; exact r) fun c xs r => by rw [upd_ne (ntup c xs r)]; exact r
      rcases hc with rfl | hc
      · exact hbe
      · rintro rfl
        rcases he with z | z
        · exact nown c b hc z
        · rw [hc] at z; cases z; exact hb rfl
end
structure Un (fs ex : List Addr) (H H' : Hp) (h h' : Heap) : Prop where
  keep : ∀ b o, h.get? b = some o → H b = none → b ∉ fs → b ∉ ex → h'.get? b = some o
  slot : ∀ b o, h.get? b = some o → H b = none → b ∈ fs → b ∉ ex → ∃ sl, h'.get? b = some { o with slots := sl }
  free : ∀ b o, h.get? b = some o → H b = none → b ∉ ex → H' b = none
  there : ∀ b o, h.get? b = some o → b ∉ ex → ∃ o', h'.get? b = some o'
  tups : ∀ b xs, H b = some (.tup xs) → H' b = some (.tup xs)
  frzs : ∀ b o u, H b = some (.frz o u) → H' b = some (.frz o u)
  tbls : ∀ b ps, H b = some (.tbl ps) → ∃ more, H' b = some (.tbl (ps ++ more))
section
variable {fs fs' ex ex' : List Addr} {H H1 H2 : Hp} {h h1 h2 h' : Heap} {a x e : Addr} {o : HO}
theorem Un.any (u : Un fs ex H H1 h h1) {b : Addr} {ob : Obj} (q : h.get? b = some ob) (n : H b = none) (hx : b ∉ ex) : ∃ sl, h1.get? b = some { ob with slots := sl } := by
  by_cases hb : b ∈ fs
  · exact u.slot b ob q n hb hx
  · exact ⟨ob.slots, u.keep b ob q n hb hx⟩
theorem Un.kept (k : ∀ b u, h.get? b = some u → h'.get? b = some u) : Un fs ex H H h h' :=
  ⟨fun b ob q _ _ _ => k b ob q, fun b ob q _ _ _ => ⟨ob.slots, k b ob q⟩, fun _ _ _ n _ => n, fun b ob q _ => ⟨ob, k b ob q⟩, fun _ _ q => q, fun _ _ _ q => q, fun _ ps q => ⟨#[], by rw [q]; simp⟩⟩
theorem Un.refl : Un fs ex H H h h := Un.kept fun _ _ q => q
theorem Un.laid (k : ∀ b u, h.get? b = some u → h'.get? b = some u) (hp : h.objs.size ≤ a) (hn : H a = none) : Un fs ex H (upd H a o) h h' where
  keep := fun b u q _ _ _ => k b u q
  slot := fun b u q _ _ _ => ⟨u.slots, k b u q⟩
  free := fun b u q n _ => by rw [upd_ne (Nat.ne_of_lt (Nat.lt_of_lt_of_le (Heap.lt_size q) hp))]; exact n
  there := fun b u q _ => ⟨u, k b u q⟩
  tups := fun b xs q => by rw [upd_ne (ne_of_none q hn)]; exact q
  frzs := fun b u xs q => by rw [upd_ne (ne_of_none q hn)]; exact q
  tbls := fun b ps q => ⟨#[], by rw [upd_ne (ne_of_none q hn), q]; simp⟩
theorem Un.write (mu : Mut (H x)) (he : e = x ∨ H e = some (.own x)) (k : ∀ b u, b ≠ e → h.get? b = some u → h'.get? b = some u) (heo : ∃ u, h'.get? e = some u) : Un fs ex H (upd H x o) h h' := by
  have hx : ∀ b, H b = none → b ≠ x := fun b n z => by subst z; rw [n] at mu; exact mu
  have hb : ∀ b, H b = none → b ≠ e := fun b n z => by
    subst z
    rcases he with r | r
    · exact hx b n r
    · rw [n] at r; cases r
  have hm : ∀ b u, H b = some u → ¬ Mut (some u) → b ≠ x := fun b u q nm z => by subst z; rw [q] at mu; exact nm mu
  refine ⟨fun b u q n _ _ => k b u (hb b n) q, fun b u q n _ _ => ⟨u.slots, k b u (hb b n) q⟩, fun b u q n _ => by rw [upd_ne (hx b n)]; exact n, fun b u q _ => ?_,
    fun b xs q => by rw [upd_ne (hm b _ q fun z => z)]; exact q, fun b u xs q => by rw [upd_ne (hm b _ q fun z => z)]; exact q, fun b ps q => ⟨#[], by rw [upd_ne (hm b _ q fun z => z), q]; simp⟩⟩
  by_cases hbe : b = e
  · subst hbe; exact heo
  · exact ⟨u, k b u hbe q⟩
end
noncomputable def trk (h : Heap) (H : Hp) : List Addr := (List.range h.objs.size).filter fun a => (H a).isSome
noncomputable def hidT (h : Heap) (H : Hp) : Heap := PySem.W.hideAll h (trk h H)
theorem hidT_size (h : Heap) (H : Hp) : (hidT h H).objs.size = h.objs.size := PySem.W.hideAll_size _ _
theorem hidT_get {h : Heap} {H : Hp} {b : Addr} {o : Obj} (e : h.get? b = some o) (n : H b = none) : (hidT h H).get? b = some o :=
  PySem.W.hideAll_get _ e fun hm => by
    have q : (H b).isSome = true := (List.mem_filter.mp hm).2
    rw [n] at q; simp at q
theorem of_hidT {h : Heap} {H : Hp} {b : Addr} {o : Obj} (e : (hidT h H).get? b = some o) : h.get? b = some o ∧ H b = none := by
  have e' : h.get? b = some o := PySem.W.of_hideAll (trk h H) e
  refine ⟨e', ?_⟩
  cases q : H b with
  | none => rfl
  | some x =>
    have hm : b ∈ trk h H := List.mem_filter.mpr ⟨List.mem_range.mpr (Heap.lt_size e'), by simp [q]⟩
    have z : (hidT h H).get? b = none := PySem.W.hideAll_none (trk h H) hm
    rw [z] at e; cases e
end L2
namespace L2
open PySem PySem.Spec PyProof.Rows
structure Mod (K : PySem.W.Frag) (mg : Str → Option Value) (base : Heap) : Prop where
  kin : K.In base
  glob : base.Ns mainGlobals mg
  blt : ∃ mb, base.Ns builtinsNs mb ∧ ∀ x : Str, x ≠ "__name__" → mb x = bootBuiltins x
  nolimit : base.NoLimit
structure Cx where
  prog : Program
  w : World
  K : PySem.W.Frag
  mg : Str → Option Value
  base : Heap
  A : Around
  N : List Str
  s₀ : Shared
  H₀ : Hp
  env : Env
  outer : List Env
  stack : List Env
  ex : List Addr
  fn : Str → Bool
  calm : Bool
  pn : List (Addr × Obj)
  xe : Value → Shared → Prop
noncomputable def frs (l : List Env) : List Addr := l.filterMap (·.frame)
noncomputable abbrev Cx.fs (X : Cx) : List Addr := frs X.outer
noncomputable def Vis (sc : Scope) (x : Str) : Prop := sc.names.lookup x = some .local ∨ sc.names.lookup x = some .cell ∨ sc.names.lookup x = some .free
noncomputable def Loc (sc : Scope) (x : Str) : Prop := sc.names.lookup x = some .local ∨ sc.names.lookup x = some .cell
noncomputable def Look (env : Env) (h : Heap) (m : Str → Option Value) (x : Str) (u : Value) : Prop :=
  (env.kindOf x = some .local ∧ m x = some u) ∨ ((env.kindOf x = some .cell ∨ env.kindOf x = some .free) ∧ ∃ c, env.cells.lookup x = some c ∧ h.IsCell c (some u))
structure Cx.Ok (X : Cx) : Prop where
  mod : Mod X.K X.mg X.base
  kind : X.env.scope.kind = .function
  glob : X.env.globals = mainGlobals
  blt : X.env.builtins = builtinsNs
  above : X.s₀.heap.objs.size ≤ X.env.locals
  inj : ∀ x y c, X.env.cells.lookup x = some c → X.env.cells.lookup y = some c → x = y
  has : ∀ x, (X.env.kindOf x = some .cell ∨ X.env.kindOf x = some .free) → ∃ c, X.env.cells.lookup x = some c
  cab : ∀ x c, X.fn x = true → X.env.cells.lookup x = some c → X.s₀.heap.objs.size ≤ c
  hd : X.calm = true → X.A.handled = none
  frames : X.A.frames = some X.stack
  stk : X.stack = X.outer ∨ (X.stack = X.env :: X.outer ∧ X.env.frame = some X.env.locals)
  exf : ∀ b ∈ X.ex, b ≠ X.env.locals ∧ ∀ x c, X.env.cells.lookup x = some c → c ≠ b
  bs : ∀ b o, X.base.get? b = some o → X.s₀.heap.get? b = some o ∧ X.H₀ b = none
  bsz : X.base.objs.size ≤ X.s₀.heap.objs.size
  noex : ∀ b o, X.base.get? b = some o → b ∉ X.ex
  exfs : ∀ b ∈ X.ex, b ∉ X.fs
  funs : X.s₀.heap.FunFrames X.base X.outer
  frf : ∀ b ∈ X.fs, X.H₀ b = none
structure Inv (X : Cx) (pins : List (Addr × Obj)) (σ : List (Option V)) (H : Hp) (s : Shared) : Prop where
  ok : X.Ok
  os : s.os = X.s₀.os
  bare : AllBare s.gens
  base : Un X.fs X.ex X.H₀ H X.s₀.heap s.heap
  loc : ∃ m, s.heap.Ns X.env.locals m ∧ ∀ (i : Nat) (x : Str) (v : V), X.N[i]? = some x → σ[i]? = some (some v) → Vis X.env.scope x → ∃ u, RelV v u ∧ Look X.env s.heap m x u
  cell : ∀ x c, X.env.cells.lookup x = some c → ∃ v, s.heap.IsCell c v
  free : H X.env.locals = none
  freeC : ∀ x c, X.env.cells.lookup x = some c → H c = none
  pin : ∀ p ∈ X.pn ++ pins, s.heap.get? p.1 = some p.2 ∧ H p.1 = none ∧ p.1 ≠ X.env.locals ∧ p.1 ∉ X.fs ∧ ∀ v, p.2.data ≠ .cell v
  hok : HOk X.prog X.w H s.heap
  len : σ.length = X.N.length
section
variable {X : Cx} {pins : List (Addr × Obj)} {σ : List (Option V)} {H H' : Hp} {s : Shared} {h' : Heap}
theorem Cx.Ok.nofr (ok : X.Ok) {b : Addr} {o : Obj} (e : X.base.get? b = some o) : b ∉ X.fs := fun hb => by
  have := (ok.funs.mem hb).1
  rw [e] at this; cases this
theorem Inv.bs (I : Inv X pins σ H s) : ∀ b o, X.base.get? b = some o → s.heap.get? b = some o ∧ H b = none := fun b o e =>
  ⟨I.base.keep b o (I.ok.bs b o e).1 (I.ok.bs b o e).2 (I.ok.nofr e) (I.ok.noex b o e), I.base.free b o (I.ok.bs b o e).1 (I.ok.bs b o e).2 (I.ok.noex b o e)⟩
theorem Inv.bk (I : Inv X pins σ H s) : ∀ b o, X.base.get? b = some o → s.heap.get? b = some o := fun b o e => (I.bs b o e).1
theorem Inv.mod (I : Inv X pins σ H s) : Mod X.K X.mg X.base := I.ok.mod
theorem Inv.kIn (I : Inv X pins σ H s) : X.K.In s.heap := I.ok.mod.kin.keeps I.bk
theorem Inv.lt (I : Inv X pins σ H s) : X.env.locals < s.heap.objs.size := let ⟨_, hn, _⟩ := I.loc; hn.lt
theorem Inv.sz (I : Inv X pins σ H s) : X.s₀.heap.objs.size ≤ s.heap.objs.size := Nat.le_trans I.ok.above (Nat.le_of_lt I.lt)
theorem Inv.nofs (I : Inv X pins σ H s) {a : Addr} (h : s.heap.objs.size ≤ a) : a ∉ X.fs := fun hb => by
  obtain ⟨_, o, ho, _⟩ := I.ok.funs.mem hb
  exact absurd (Nat.lt_of_lt_of_le (Heap.lt_size ho) (Nat.le_trans I.sz h)) (Nat.lt_irrefl _)
theorem Inv.cne (I : Inv X pins σ H s) : ∀ x c, X.env.cells.lookup x = some c → c ≠ X.env.locals := fun x c e z => by
  obtain ⟨v, o, ho, hd⟩ := I.cell x c e
  obtain ⟨m, ⟨o', es, ep, ho', hd', _⟩, _⟩ := I.loc
  rw [z, ho'] at ho; cases ho; rw [hd'] at hd; cases hd
theorem Inv.funs (I : Inv X pins σ H s) : s.heap.FunFrames X.base X.outer := by
  have all : ∀ (l : List Env), (∀ b ∈ frs l, b ∈ X.fs) → X.s₀.heap.FunFrames X.base l → s.heap.FunFrames X.base l := by
    intro l
    induction l with
    | nil => intro _ _; trivial
    | cons env r ih =>
      intro hs hl
      obtain ⟨hk, ⟨L, o, hf, hn, ho, hd⟩, hr⟩ := hl
      have hL : L ∈ X.fs := hs L (by unfold frs; rw [List.filterMap_cons, hf]; exact List.mem_cons_self)
      obtain ⟨sl, e⟩ := I.base.slot L o ho (I.ok.frf L hL) hL fun z => I.ok.exfs L z hL
      exact ⟨hk, ⟨L, _, hf, hn, e, hd⟩, ih (fun b hb => hs b (by unfold frs; rw [List.filterMap_cons, hf]; exact List.mem_cons_of_mem _ hb)) hr⟩
  exact all X.outer (fun _ hb => hb) I.ok.funs
theorem Inv.stack (I : Inv X pins σ H s) : s.heap.FunFrames X.base X.stack := by
  rcases I.ok.stk with e | ⟨e, hf⟩
  · rw [e]; exact I.funs
  · rw [e]
    obtain ⟨m, hn, _⟩ := I.loc
    refine .cons (by rw [I.ok.kind]; decide) hf hn ?_ I.funs
    exact Heap.get?_none_of_le (Nat.le_trans I.ok.bsz I.ok.above)
theorem Inv.stkSub (I : Inv X pins σ H s) : ∀ b ∈ frs X.stack, b ∈ X.env.locals :: X.fs := fun b hb => by
  rcases I.ok.stk with e | ⟨e, hf⟩
  · rw [e] at hb; exact List.mem_cons_of_mem _ hb
  · rw [e] at hb
    unfold frs at hb
    rw [List.filterMap_cons, hf] at hb
    exact hb
theorem Inv.stkFree (I : Inv X pins σ H s) : ∀ b ∈ frs X.stack, H b = none := fun b hb => by
  rcases List.mem_cons.mp (I.stkSub b hb) with e | hb
  · rw [e]; exact I.free
  · obtain ⟨_, o, ho, _⟩ := I.ok.funs.mem hb
    exact I.base.free b o ho (I.ok.frf b hb) fun z => I.ok.exfs b z hb
theorem Inv.step {g' : Array GenState} {t' : Nat} {d' : Drawn} {ch : List Addr} (I : Inv X pins σ H s)
    (hch : ∀ b ∈ ch, (b ∈ X.ex ∨ X.s₀.heap.objs.size ≤ b) ∧ b ≠ X.env.locals ∧ (∀ x c, X.env.cells.lookup x = some c → c ≠ b) ∧ ∀ p ∈ X.pn ++ pins, p.1 ≠ b)
    (keep : ∀ b o, b ≠ X.env.locals → b ∉ X.fs → b ∉ ch → s.heap.get? b = some o → H b = none → h'.get? b = some o)
    (slot : ∀ b o, b ≠ X.env.locals → b ∈ X.fs → b ∉ ch → s.heap.get? b = some o → H b = none → ∃ sl, h'.get? b = some { o with slots := sl }) (free : ∀ b o, b ∉ ch → s.heap.get? b = some o → H b = none → H' b = none)
    (there : ∀ b o, b ∉ ch → s.heap.get? b = some o → ∃ o', h'.get? b = some o')
    (tups : ∀ b xs, H b = some (.tup xs) → H' b = some (.tup xs)) (frzs : ∀ b o u, H b = some (.frz o u) → H' b = some (.frz o u)) (tbls : ∀ b ps, H b = some (.tbl ps) → ∃ more, H' b = some (.tbl (ps ++ more)))
    (ns : ∀ m, s.heap.Ns X.env.locals m → h'.Ns X.env.locals m) (hok : HOk X.prog X.w H' h') (hg : AllBare g') :
    Inv X pins σ H' { s with heap := h', gens := g', drawn := d', toks := t' } := by
  have neL : ∀ b o, X.s₀.heap.get? b = some o → b ≠ X.env.locals := fun b o e => Nat.ne_of_lt (Nat.lt_of_lt_of_le (Heap.lt_size e) I.ok.above)
  have neC : ∀ b o, X.s₀.heap.get? b = some o → b ∉ X.ex → b ∉ ch := fun b o e hx hb => by
    rcases (hch b hb).1 with z | z
    · exact hx z
    · exact absurd (Nat.lt_of_lt_of_le (Heap.lt_size e) z) (Nat.lt_irrefl _)
  have cellK : ∀ x c, X.env.cells.lookup x = some c → ∀ v, s.heap.IsCell c v → h'.IsCell c v := fun x c e v ⟨o, ho, hd⟩ => by
    have nch : c ∉ ch := fun z => (hch c z).2.2.1 x c e rfl
    by_cases hc : c ∈ X.fs
    · obtain ⟨sl, q⟩ := slot c o (I.cne x c e) hc nch ho (I.freeC x c e)
      exact ⟨_, q, hd⟩
    · exact ⟨o, keep c o (I.cne x c e) hc nch ho (I.freeC x c e), hd⟩
  refine ⟨I.ok, I.os, hg, ⟨fun b o e n hb hx => ?_, fun b o e n hb hx => ?_, fun b o e n hx => ?_, fun b o e hx => ?_, fun b xs e => tups b xs (I.base.tups b xs e), fun b o xs e => frzs b o xs (I.base.frzs b o xs e), fun b ps e => ?_⟩, ?_, fun x c e => ?_, ?_, fun x c e => ?_, fun p hp => ?_, hok, I.len⟩
  · exact keep b o (neL b o e) hb (neC b o e hx) (I.base.keep b o e n hb hx) (I.base.free b o e n hx)
  · obtain ⟨sl, e1⟩ := I.base.slot b o e n hb hx
    obtain ⟨sl', e2⟩ := slot b _ (neL b o e) hb (neC b o e hx) e1 (I.base.free b o e n hx)
    exact ⟨sl', e2⟩
  · obtain ⟨o', e1⟩ := I.base.there b o e hx
    exact free b o' (neC b o e hx) e1 (I.base.free b o e n hx)
  · obtain ⟨o', e1⟩ := I.base.there b o e hx
    exact there b o' (neC b o e hx) e1
  · obtain ⟨m1, e1⟩ := I.base.tbls b ps e
    obtain ⟨m2, e2⟩ := tbls b _ e1
    exact ⟨m1 ++ m2, by rw [e2, Array.append_assoc]⟩
  · obtain ⟨m, hn, hl⟩ := I.loc
    refine ⟨m, ns m hn, fun i x v e1 e2 e3 => ?_⟩
    obtain ⟨u, r, l⟩ := hl i x v e1 e2 e3
    refine ⟨u, r, ?_⟩
    rcases l with l | ⟨k, c, e, z⟩
    · exact .inl l
    · exact .inr ⟨k, c, e, cellK x c e _ z⟩
  · obtain ⟨v, z⟩ := I.cell x c e
    exact ⟨v, cellK x c e v z⟩
  · obtain ⟨m, ⟨o, _, _, ho, _⟩, _⟩ := I.loc
    exact free _ o (fun z => (hch _ z).2.1 rfl) ho I.free
  · obtain ⟨v, o, ho, hd⟩ := I.cell x c e
    exact free c o (fun z => (hch c z).2.2.1 x c e rfl) ho (I.freeC x c e)
  · obtain ⟨e, n, ne, nf, d⟩ := I.pin p hp
    have nch : p.1 ∉ ch := fun z => (hch p.1 z).2.2.2 p hp rfl
    exact ⟨keep p.1 p.2 ne nf nch e n, free p.1 p.2 nch e n, ne, nf, d⟩
theorem Inv.un {t' : Nat} (I : Inv X pins σ H s) (u : Un X.fs [] H H' s.heap h') (hok : HOk X.prog X.w H' h') : Inv X pins σ H' { s with heap := h', toks := t' } := by
  obtain ⟨m, ⟨o, es, ep, ho, r⟩, _⟩ := id I.loc
  obtain ⟨sl, hL⟩ := u.any ho I.free (by simp)
  exact I.step (g' := s.gens) (d' := s.drawn) (ch := []) (fun _ z => nomatch z) (fun b o _ hb _ e n => u.keep b o e n hb (by simp)) (fun b o _ hb _ e n => u.slot b o e n hb (by simp)) (fun b o _ e n => u.free b o e n (by simp)) (fun b o _ e => u.there b o e (by simp)) u.tups u.frzs u.tbls (fun m' hm => by
    obtain ⟨o', es', ep', ho', r'⟩ := hm
    rw [ho] at ho'; cases ho'
    exact ⟨_, es', ep', hL, r'⟩) hok I.bare
theorem Inv.call {g' : Array GenState} {t' : Nat} {d' : Drawn} {ch : List Addr} (I : Inv X pins σ H s) (u : Un (frs X.stack) ch H H' s.heap h') (hok : HOk X.prog X.w H' h') (hg : AllBare g')
    (hch : ∀ b ∈ ch, (b ∈ X.ex ∨ X.s₀.heap.objs.size ≤ b) ∧ b ≠ X.env.locals ∧ (∀ x c, X.env.cells.lookup x = some c → c ≠ b) ∧ ∀ p ∈ X.pn ++ pins, p.1 ≠ b) :
    Inv X pins σ H' { s with heap := h', gens := g', drawn := d', toks := t' } := by
  obtain ⟨m, ⟨o, es, ep, ho, r⟩, _⟩ := id I.loc
  obtain ⟨sl, hL⟩ := u.any ho I.free fun z => (hch _ z).2.1 rfl
  exact I.step (ch := ch) hch (fun b o hL hb hc e n => u.keep b o e n (fun z => (List.mem_cons.mp (I.stkSub b z)).elim hL hb) hc) (fun b o _ _ hc e n => u.any e n hc) (fun b o hc e n => u.free b o e n hc) (fun b o hc e => u.there b o e hc) u.tups u.frzs u.tbls (fun m' hm => by
    obtain ⟨o', es', ep', ho', r'⟩ := hm
    rw [ho] at ho'; cases ho'
    exact ⟨_, es', ep', hL, r'⟩) hok hg
theorem Inv.turned {t' : Nat} {it : Addr} (I : Inv X pins σ H s) (k : ∀ b o, b ≠ it → s.heap.get? b = some o → h'.get? b = some o) (hn : H it = none) (hL : it ≠ X.env.locals)
    (h1 : it ∈ X.ex ∨ X.s₀.heap.objs.size ≤ it) (h2 : ∀ x c, X.env.cells.lookup x = some c → c ≠ it) (h3 : ∀ p ∈ X.pn ++ pins, p.1 ≠ it) : Inv X pins σ H { s with heap := h', toks := t' } := by
  have nit : ∀ b u, H b = some u → b ≠ it := fun b u e z => by rw [z, hn] at e; cases e
  refine I.step (g' := s.gens) (d' := s.drawn) (ch := [it]) (fun b hb => ?_) (fun b o _ _ hc e _ => k b o (fun z => hc (by simp [z])) e) (fun b o _ _ hc e _ => ⟨o.slots, k b o (fun z => hc (by simp [z])) e⟩) (fun _ _ _ _ n => n)
    (fun b o hc e => ⟨o, k b o (fun z => hc (by simp [z])) e⟩) (fun _ _ e => e) (fun _ _ _ e => e) (fun b ps e => ⟨#[], by rw [e]; simp⟩) (fun m hm => ?_) (fun b u e => ?_) I.bare
  · have e : b = it := by simpa using hb
    subst e
    exact ⟨h1, hL, h2, h3⟩
  · obtain ⟨o, es, ep, ho, r⟩ := hm
    exact ⟨o, es, ep, k _ o (Ne.symm hL) ho, r⟩
  · refine (I.hok b u e).stay (fun c v hc q => k c v ?_ q) (fun _ q => q) fun _ _ q => q
    rcases hc with z | z
    · rw [z]; exact nit b u e
    · exact nit c _ z
theorem Inv.tok (I : Inv X pins σ H s) (t : Nat) : Inv X pins σ H { s with toks := t } := I.un (h' := s.heap) (t' := t) Un.refl I.hok
theorem Inv.kept {t' : Nat} (I : Inv X pins σ H s) (k : ∀ b u, s.heap.get? b = some u → h'.get? b = some u) : Inv X pins σ H { s with heap := h', toks := t' } := I.un (Un.kept k) (I.hok.kept k)
theorem Inv.laid {a : Addr} {o : HO} {t' : Nat} (I : Inv X pins σ H s) (k : ∀ b u, s.heap.get? b = some u → h'.get? b = some u) (hp : s.heap.objs.size ≤ a) (new : ObjOk X.prog X.w (upd H a o) h' a o) :
    Inv X pins σ (upd H a o) { s with heap := h', toks := t' } := I.un (Un.laid k hp (I.hok.fresh hp)) (I.hok.laid k hp new)
theorem Inv.write {x e : Addr} {o : HO} {t' : Nat} (I : Inv X pins σ H s) (mu : Mut (H x)) (he : e = x ∨ H e = some (.own x)) (k : ∀ b u, b ≠ e → s.heap.get? b = some u → h'.get? b = some u) (heo : ∃ u, h'.get? e = some u)
    (new : ObjOk X.prog X.w (upd H x o) h' x o) : Inv X pins σ (upd H x o) { s with heap := h', toks := t' } := I.un (Un.write mu he k heo) (I.hok.write mu he k heo new)
theorem Inv.weak {σ' : List (Option V)} (I : Inv X pins σ H s) (hl : σ'.length = σ.length) (w : ∀ (i : Nat) v, σ'[i]? = some (some v) → σ[i]? = some (some v)) : Inv X pins σ' H s :=
  ⟨I.ok, I.os, I.bare, I.base, let ⟨m, hn, hl'⟩ := I.loc; ⟨m, hn, fun i x v e1 e2 e3 => hl' i x v e1 (w i v e2) e3⟩, I.cell, I.free, I.freeC, I.pin, I.hok, hl.trans I.len⟩
theorem Inv.pins_of {pins' : List (Addr × Obj)} (I : Inv X pins σ H s) (h : ∀ p ∈ pins', s.heap.get? p.1 = some p.2 ∧ H p.1 = none ∧ p.1 ≠ X.env.locals ∧ p.1 ∉ X.fs ∧ ∀ v, p.2.data ≠ .cell v) : Inv X pins' σ H s :=
  ⟨I.ok, I.os, I.bare, I.base, I.loc, I.cell, I.free, I.freeC, fun p hp => (List.mem_append.mp hp).elim (fun z => I.pin p (List.mem_append_left _ z)) (h p), I.hok, I.len⟩
theorem nodup_ix {N : List Str} (hN : N.Nodup) {i j : Nat} {x : Str} (a : N[i]? = some x) (b : N[j]? = some x) : i = j := by
  obtain ⟨h1, e1⟩ := List.getElem?_eq_some_iff.mp a
  obtain ⟨h2, e2⟩ := List.getElem?_eq_some_iff.mp b
  exact (List.getElem_inj hN).mp (e1.trans e2.symm)
theorem store_ok2 {M : Model} {A : Around} {E : Value → Shared → Prop} {i : Nat} {x : Str} {v : V} {u : Value} {Q : Unit → Shared → Prop} (I : Inv X pins σ H s) (hN : X.N.Nodup) (hi : X.N[i]? = some x) (hx : Loc X.env.scope x) (r : RelV v u)
    (h : ∀ s', Inv X pins (σ.set i (some v)) H s' → (∃ a, Heap.SameBut a s.heap s'.heap ∧ (a = X.env.locals ∨ X.env.cells.lookup x = some a)) → Q () s') (hf : X.fn x = true ∨ X.env.scope.names.lookup x = some .local := by first | exact .inl rfl | exact .inr rfl | assumption) : wpAny M A (storeName X.env x u) Q E s := by
  obtain ⟨m, hn, hl⟩ := id I.loc
  have hcls : (X.env.scope.kind == .class || (X.env.scope.kind == .module && X.env.locals != X.env.globals)) = false := by rw [I.ok.kind]; rfl
  have hiσ : i < σ.length := by rw [I.len]; exact (List.getElem?_eq_some_iff.mp hi).1
  have cne := I.cne
  have tracked : ∀ {a : Addr} {h' : Heap}, (∃ o, s.heap.get? a = some o ∧ H a = none) → Heap.SameBut a s.heap h' → HOk X.prog X.w H h' := fun {a h'} ha hs b ob e => by
    obtain ⟨_, _, hfree⟩ := ha
    refine (I.hok b ob e).stay (fun c w' hc q => (hs.2 c ?_).trans q) (fun _ q => q) fun _ _ q => q
    rintro rfl
    rcases hc with rfl | hc
    · rw [hfree] at e; cases e
    · rw [hfree] at hc; cases hc
  rcases hx with hk | hk
  · refine wpAny_storeName_local hk hn (fun h' hn' hs => ?_) hcls
    obtain ⟨oL, _, _, hoL, _⟩ := id hn
    refine h _ ⟨I.ok, I.os, I.bare, ⟨fun b o e n hb hx => ?_, fun b o e n hb hx => ?_, I.base.free, fun b o e hx => ?_, I.base.tups, I.base.frzs, I.base.tbls⟩, ⟨_, hn', fun j y v' e1 e2 e3 => ?_⟩, fun y c e => ?_, I.free, I.freeC, fun p hp => ?_, tracked ⟨oL, hoL, I.free⟩ hs, by simpa using I.len⟩ ⟨_, hs, .inl rfl⟩
    · exact (hs.2 b (Nat.ne_of_lt (Nat.lt_of_lt_of_le (Heap.lt_size e) I.ok.above))).trans (I.base.keep b o e n hb hx)
    · obtain ⟨sl, e1⟩ := I.base.slot b o e n hb hx
      exact ⟨sl, (hs.2 b (Nat.ne_of_lt (Nat.lt_of_lt_of_le (Heap.lt_size e) I.ok.above))).trans e1⟩
    · obtain ⟨o', e1⟩ := I.base.there b o e hx
      exact ⟨o', (hs.2 b (Nat.ne_of_lt (Nat.lt_of_lt_of_le (Heap.lt_size e) I.ok.above))).trans e1⟩
    · by_cases hj : j = i
      · subst hj
        rw [hi] at e1; cases e1
        rw [List.getElem?_set_self hiσ] at e2
        cases e2
        exact ⟨u, r, .inl ⟨hk, by simp⟩⟩
      · rw [List.getElem?_set_ne (Ne.symm hj)] at e2
        obtain ⟨u', r', q⟩ := hl j y v' e1 e2 e3
        refine ⟨u', r', ?_⟩
        rcases q with ⟨k, e⟩ | ⟨k, c, e, z⟩
        · refine .inl ⟨k, ?_⟩
          have : y ≠ x := fun e => hj (nodup_ix hN e1 (e ▸ hi))
          simp [this, e]
        · exact .inr ⟨k, c, e, z.sameBut hs (cne y c e)⟩
    · obtain ⟨w', z⟩ := I.cell y c e
      exact ⟨w', z.sameBut hs (cne y c e)⟩
    · obtain ⟨e, n, ne, nf, d⟩ := I.pin p hp
      exact ⟨(hs.2 p.1 ne).trans e, n, ne, nf, d⟩
  · have hfn : X.fn x = true := by
      rcases hf with z | z
      · exact z
      · rw [z] at hk; cases hk
    obtain ⟨c, hc⟩ := I.ok.has x (.inl hk)
    obtain ⟨w', z⟩ := I.cell x c hc
    refine wpAny_storeName_cell I.ok.kind hk hc z (fun h' hc' hs => ?_)
    obtain ⟨oc, hoc, hocd⟩ := id z
    refine h { s with heap := h' } ⟨I.ok, I.os, I.bare, ⟨fun b o e n hb hx => ?_, fun b o e n hb hx => ?_, I.base.free, fun b o e hx => ?_, I.base.tups, I.base.frzs, I.base.tbls⟩, ⟨m, hn.sameBut hs (Ne.symm (cne x c hc)), fun j y v' e1 e2 e3 => ?_⟩, fun y c' e => ?_, I.free, I.freeC, fun p hp => ?_, tracked ⟨oc, hoc, I.freeC x c hc⟩ hs, by simpa using I.len⟩ ⟨c, hs, .inr hc⟩
    · exact (hs.2 b (Nat.ne_of_lt (Nat.lt_of_lt_of_le (Heap.lt_size e) (I.ok.cab x c hfn hc)))).trans (I.base.keep b o e n hb hx)
    · obtain ⟨sl, e1⟩ := I.base.slot b o e n hb hx
      exact ⟨sl, (hs.2 b (Nat.ne_of_lt (Nat.lt_of_lt_of_le (Heap.lt_size e) (I.ok.cab x c hfn hc)))).trans e1⟩
    · obtain ⟨o', e1⟩ := I.base.there b o e hx
      exact ⟨o', (hs.2 b (Nat.ne_of_lt (Nat.lt_of_lt_of_le (Heap.lt_size e) (I.ok.cab x c hfn hc)))).trans e1⟩
    · by_cases hj : j = i
      · subst hj
        rw [hi] at e1; cases e1
        rw [List.getElem?_set_self hiσ] at e2
        cases e2
        exact ⟨u, r, .inr ⟨.inl hk, c, hc, hc'⟩⟩
      · rw [List.getElem?_set_ne (Ne.symm hj)] at e2
        obtain ⟨u', r', q⟩ := hl j y v' e1 e2 e3
        refine ⟨u', r', ?_⟩
        rcases q with q | ⟨k, c', e, z'⟩
        · exact .inl q
        · refine .inr ⟨k, c', e, z'.sameBut hs ?_⟩
          rintro rfl
          exact hj (nodup_ix hN e1 (I.ok.inj _ _ _ e hc ▸ hi))
    · by_cases hcc : c' = c
      · subst hcc; exact ⟨_, hc'⟩
      · obtain ⟨w2, z2⟩ := I.cell y c' e
        exact ⟨w2, z2.sameBut hs hcc⟩
    · obtain ⟨e, n, ne, nf, d⟩ := I.pin p hp
      refine ⟨(hs.2 p.1 ?_).trans e, n, ne, nf, d⟩
      intro q
      rw [q, hoc] at e
      have q' : oc = p.2 := Option.some.inj e
      exact d w' (by rw [← q']; exact hocd)
theorem store_ok {M : Model} {A : Around} {E : Value → Shared → Prop} {i : Nat} {x : Str} {v : V} {u : Value} {Q : Unit → Shared → Prop} (I : Inv X pins σ H s) (hN : X.N.Nodup) (hi : X.N[i]? = some x) (hx : Loc X.env.scope x) (r : RelV v u)
    (h : ∀ s', Inv X pins (σ.set i (some v)) H s' → Q () s') (hf : X.fn x = true ∨ X.env.scope.names.lookup x = some .local := by first | exact .inl rfl | exact .inr rfl | assumption) : wpAny M A (storeName X.env x u) Q E s :=
  store_ok2 I hN hi hx r (fun s' I' _ => h s' I') hf
theorem Inv.call' {s' : Shared} {ch : List Addr} (I : Inv X pins σ H s) (ho : s'.os = s.os) (u : Un (frs X.stack) ch H H' s.heap s'.heap) (hok : HOk X.prog X.w H' s'.heap) (hg : AllBare s'.gens)
    (hch : ∀ b ∈ ch, (b ∈ X.ex ∨ X.s₀.heap.objs.size ≤ b) ∧ b ≠ X.env.locals ∧ (∀ x c, X.env.cells.lookup x = some c → c ≠ b) ∧ ∀ p ∈ X.pn ++ pins, p.1 ≠ b) : Inv X pins σ H' s' := by
  obtain ⟨h', g', d', t', o'⟩ := s'
  have e : o' = s.os := ho
  subst e
  exact I.call (g' := g') (t' := t') (d' := d') u hok hg hch
end
noncomputable abbrev XK := Value → Option Addr → Hp → Prop
noncomputable abbrev St := List (Option V)
noncomputable abbrev VK := V → Hp → Prop
noncomputable abbrev TE := St → Hp → VK → Prop
noncomputable abbrev TT := St → Hp → (Bool → Hp → Prop) → Prop
noncomputable abbrev TA := St → Hp → (List V → Hp → Prop) → Prop
structure Ends where
  nx : St → Hp → Prop
  rt : VK
  bk : St → Hp → Prop := fun _ _ => False
  ct : St → Hp → Prop := fun _ _ => False
noncomputable abbrev TS := Ends → St → Hp → Prop
noncomputable def EP (X : Cx) (pins : List (Addr × Obj)) (σ : St) (Q : VK) (u : Value) (s' : Shared) : Prop := ∃ v H', Inv X pins σ H' s' ∧ RelV v u ∧ Q v H'
noncomputable def TP (X : Cx) (pins : List (Addr × Obj)) (σ : St) (Q : Bool → Hp → Prop) (b : Bool) (s' : Shared) : Prop := ∃ H', Inv X pins σ H' s' ∧ Q b H'
noncomputable def AP (X : Cx) (pins : List (Addr × Obj)) (σ : St) (Q : List V → Hp → Prop) (us : List Value) (s' : Shared) : Prop := ∃ vs H', Inv X pins σ H' s' ∧ Vals vs us ∧ Q vs H'
noncomputable def SP (X : Cx) (pins : List (Addr × Obj)) (D : Ends) (f : Flow) (s' : Shared) : Prop :=
  match f with
  | .next => ∃ σ' H', Inv X pins σ' H' s' ∧ D.nx σ' H'
  | .brk => ∃ σ' H', Inv X pins σ' H' s' ∧ D.bk σ' H'
  | .cont => ∃ σ' H', Inv X pins σ' H' s' ∧ D.ct σ' H'
  | .ret u => ∃ v σ' H', Inv X pins σ' H' s' ∧ RelV v u ∧ D.rt v H'
noncomputable def PE (X : Cx) (e : Expr) (t : TE) : Prop :=
  ∀ (pins : List (Addr × Obj)) (s : Shared) (σ : St) (H : Hp) (Q : VK), Inv X pins σ H s → t σ H Q → wpAny (model X.prog X.w) X.A (eval e X.env) (EP X pins σ Q) X.xe s
noncomputable def PT (X : Cx) (e : Expr) (t : TT) : Prop :=
  ∀ (pins : List (Addr × Obj)) (s : Shared) (σ : St) (H : Hp) (Q : Bool → Hp → Prop), Inv X pins σ H s → t σ H Q → wpAny (model X.prog X.w) X.A (isTrue e X.env (eval e X.env)) (TP X pins σ Q) X.xe s
noncomputable def PW (X : Cx) (e : Expr) (t : TT) : Prop :=
  ∀ (whole : Sem Value) (pins : List (Addr × Obj)) (s : Shared) (σ : St) (H : Hp) (Q : Bool → Hp → Prop), Inv X pins σ H s → t σ H Q → wpAny (model X.prog X.w) X.A (isTrue e X.env whole) (TP X pins σ Q) X.xe s
theorem PW.pt {X : Cx} {e : Expr} {t : TT} (h : PW X e t) : PT X e t := h _
noncomputable def PA (X : Cx) (es : List Expr) (t : TA) : Prop :=
  ∀ (pos : Pos) (pins : List (Addr × Obj)) (s : Shared) (σ : St) (H : Hp) (Q : List V → Hp → Prop), Inv X pins σ H s → t σ H Q → wpAny (model X.prog X.w) X.A (spliced (backTo pos (starEach es X.env))) (AP X pins σ Q) X.xe s
noncomputable def PS (X : Cx) (st : Stmt) (t : TS) : Prop :=
  ∀ (pins : List (Addr × Obj)) (s : Shared) (σ : St) (H : Hp) (D : Ends), Inv X pins σ H s → t D σ H → wpAny (model X.prog X.w) X.A (exec st X.env) (SP X pins D) X.xe s
noncomputable def PSs (X : Cx) (st : List Stmt) (t : TS) : Prop :=
  ∀ (pins : List (Addr × Obj)) (s : Shared) (σ : St) (H : Hp) (D : Ends), Inv X pins σ H s → t D σ H → wpAny (model X.prog X.w) X.A (execs st X.env) (SP X pins D) X.xe s
theorem thn {α : Type} {t : Sem α} {Q Q' : α → Shared → Prop} {M : Model} {A : Around} {E : Value → Shared → Prop} {s : Shared} (h : wpAny M A t Q E s) (hQ : ∀ a s, Q a s → Q' a s) : wpAny M A t Q' E s := wpAny_mono h hQ fun _ _ x => x
end L2
namespace L2
open PySem PySem.Spec PyProof.Rows
section
variable {X : Cx}
inductive tVar (i : Nat) (σ : St) (H : Hp) (Q : VK) : Prop
  | mk (v : _) (c0 : σ[i]? = some (some v)) (c1 : Q v H) : tVar i σ H Q
noncomputable def tC (v : V) : TE := fun _ H Q => Q v H
theorem pe_var {i : Nat} {x : Str} {pos : Pos} (hN : X.N[i]? = some x) (hv : Vis X.env.scope x) (hd : (x == ("__debug__" : Str)) = false := by decide) (hcd : (x == ("__classdict__" : Str)) = false := by decide) : PE X (.Name x pos) (tVar i) := by
  intro pins s σ H Q I h
  obtain ⟨v, e, h⟩ := h
  obtain ⟨m, hn, hl⟩ := I.loc
  obtain ⟨u, r, l⟩ := hl i x v hN e hv
  have fin : EP X pins σ Q u s := ⟨v, H, I, r, h⟩
  rcases l with ⟨hk, hm⟩ | ⟨hk, c, hc, hcell⟩
  · exact wpAny_Name (wpAny_loadName_local I.ok.kind hk hn hm fin) hd
  · rcases hk with hk | hk
    · exact wpAny_Name (wpAny_loadName_cell I.ok.kind hk hc hcell fin) hd
    · exact wpAny_Name (wpAny_loadName_free I.ok.kind hk hc hcell fin hcd) hd
theorem pe_int {i j pos} : PE X (.Constant (.int i) j pos) (tC (.int i)) := fun _ _ _ H _ I h => wpAny_Constant_int ⟨.int i, H, I.tok _, ⟨_, rfl⟩, h⟩
theorem pe_bl {b j pos} : PE X (.Constant (.bool b) j pos) (tC (.bl b)) := fun _ _ _ H _ I h => Constant_bool ⟨.bl b, H, I, rfl, h⟩
theorem pe_non {j pos} : PE X (.Constant .none j pos) (tC .non) := fun _ _ _ H _ I h => Constant_none ⟨.non, H, I, rfl, h⟩
theorem pe_str {x j pos} : PE X (.Constant (.str x) j pos) (tC (.str x)) := fun _ _ _ H _ I h => Calls.Constant_str ⟨.str x, H, I.tok _, ⟨_, rfl⟩, h⟩
noncomputable def Gl (X : Cx) (x : Str) : Prop := X.env.kindOf x = some .globalImplicit
theorem ld_glob {E : Value → Shared → Prop} {pins : List (Addr × Obj)} {s : Shared} {σ : St} {H : Hp} {x : Str} {u : Value} {pos : Pos} {Q : Value → Shared → Prop} (I : Inv X pins σ H s) (hg : Gl X x) (hm : X.mg x = some u) (h : Q u s)
    (hd : (x == ("__debug__" : Str)) = false := by decide) : wpAny (model X.prog X.w) X.A (eval (.Name x pos) X.env) Q E s :=
  Calls.Name_function_global I.ok.kind hg (Calls.loadGlobal_global (by rw [I.ok.glob]; exact I.mod.glob.keeps I.bk) hm h) hd
theorem ld_blt {E : Value → Shared → Prop} {pins : List (Addr × Obj)} {s : Shared} {σ : St} {H : Hp} {x : Str} {u : Value} {pos : Pos} {Q : Value → Shared → Prop} (I : Inv X pins σ H s) (hg : Gl X x) (hm : X.mg x = none) (hv : bootBuiltins x = some u) (h : Q u s)
    (hn : x ≠ "__name__" := by decide) (hd : (x == ("__debug__" : Str)) = false := by decide) : wpAny (model X.prog X.w) X.A (eval (.Name x pos) X.env) Q E s := by
  obtain ⟨mb, h1, h2⟩ := I.mod.blt
  exact Calls.Name_function_global I.ok.kind hg (Calls.loadGlobal_builtin (by rw [I.ok.glob]; exact I.mod.glob.keeps I.bk) hm (by rw [I.ok.blt]; exact h1.keeps I.bk) ((h2 x hn).trans hv) h) hd
theorem pe_glob {x : Str} {v : V} {u : Value} {pos : Pos} (hg : Gl X x) (hm : X.mg x = some u) (r : RelV v u) (hd : (x == ("__debug__" : Str)) = false := by decide) : PE X (.Name x pos) (tC v) :=
  fun _ _ _ H _ I h => ld_glob I hg hm ⟨v, H, I, r, h⟩ hd
theorem pe_bltn {x : Str} {v : V} {u : Value} {pos : Pos} (hg : Gl X x) (hm : X.mg x = none) (hv : bootBuiltins x = some u) (r : RelV v u) (hn : x ≠ "__name__" := by decide) (hd : (x == ("__debug__" : Str)) = false := by decide) : PE X (.Name x pos) (tC v) :=
  fun _ _ _ H _ I h => ld_blt I hg hm hv ⟨v, H, I, r, h⟩ hn hd
variable {a b : Expr} {ta tb : TE} {pos : Pos}
noncomputable def PC (X : Cx) (op : CmpOp) (a b : Expr) (t : TE) : Prop :=
  ∀ (pins : List (Addr × Obj)) (s : Shared) (σ : St) (H : Hp) (Q : VK), Inv X pins σ H s → t σ H Q →
    wpAny (model X.prog X.w) X.A (eval a X.env) (fun v s₁ => wpAny (model X.prog X.w) X.A (eval b X.env) (fun u s₂ => wpAny (model X.prog X.w) X.A (compareOp op v u) (EP X pins σ Q) X.xe s₂) X.xe s₁) X.xe s
inductive isB0 (Q : Bool → Hp → Prop) (x : V) (H1 : Hp) : Prop
  | mk (c : _) (c0 : x = .bl c) (c1 : Q c H1) : isB0 Q x H1
noncomputable def tB (t : TE) : TT := fun σ H Q => t σ H fun x H1 => isB0 Q x H1
theorem pt_cmp {op : CmpOp} {t : TE} (h : PC X op a b t) (h1 : behindInMarks op b = false := by first | exact nobehind _ (by decide) (by decide) | rfl) : PT X (.Compare a [op] [b] pos) (tB t) := by
  intro pins s σ H Q I hw
  refine wpAny_isTrue_Compare1 (thn (h pins s σ H _ I hw) fun v s1 h1 => thn h1 fun u s2 h2 => thn h2 fun c s3 hp0 => ?_) h1
  obtain ⟨x, H1, I1, r1, q1⟩ := hp0
  obtain ⟨d, rfl, q⟩ := q1
  cases r1
  exact wpAny_truthy_bool ⟨H1, I1, q⟩
theorem pt_val {e : Expr} {t : TE} (h : PE X e t) (he : ∀ whole, isTrue e X.env whole = (do let v ← whole; standAt e.pos; holding [v] (truthy v)) := by intro _; rfl) : PT X e (tB t) := by
  intro pins s σ H Q I hw
  refine isTrue_plain (thn (h pins s σ H _ I hw) fun v s1 hp0 => ?_) (he _)
  obtain ⟨x, H1, I1, r1, q1⟩ := hp0
  obtain ⟨d, rfl, q⟩ := q1
  cases r1
  exact wpAny_truthy_bool ⟨H1, I1, q⟩
variable {tA tB' : TT} {rest : List Expr}
noncomputable def tAnd (t u : TT) : TT := fun σ H Q => t σ H fun c H1 => if c = true then u σ H1 Q else Q false H1
noncomputable def tOr (t u : TT) : TT := fun σ H Q => t σ H fun c H1 => if c = true then Q true H1 else u σ H1 Q
noncomputable def tNot (t : TT) : TT := fun σ H Q => t σ H fun c H1 => Q (!c) H1
theorem pw_and1 (ha : PT X a tA) : PW X (.BoolOp .And [a] pos) tA := by
  intro wh pins s σ H Q I h
  refine isTrue_and (thn (ha pins s σ H Q I h) fun c s1 e => ?_)
  cases c with
  | true => exact isTrue_and_nil e
  | false => exact e
theorem pw_or1 (ha : PT X a tA) : PW X (.BoolOp .Or [a] pos) tA := by
  intro wh pins s σ H Q I h
  refine isTrue_or (thn (ha pins s σ H Q I h) fun c s1 e => ?_)
  cases c with
  | false => exact isTrue_or_nil e
  | true => exact e
theorem pw_and (ha : PT X a tA) (hb : PW X (.BoolOp .And (b :: rest) pos) tB') : PW X (.BoolOp .And (a :: b :: rest) pos) (tAnd tA tB') := by
  intro wh pins s σ H Q I h
  refine isTrue_and (thn (ha pins s σ H _ I h) fun c s1 hp0 => ?_)
  obtain ⟨H1, I1, q1⟩ := hp0
  cases c with
  | true => exact hb wh pins s1 σ H1 Q I1 q1
  | false => exact ⟨H1, I1, q1⟩
theorem pw_or (ha : PT X a tA) (hb : PW X (.BoolOp .Or (b :: rest) pos) tB') : PW X (.BoolOp .Or (a :: b :: rest) pos) (tOr tA tB') := by
  intro wh pins s σ H Q I h
  refine isTrue_or (thn (ha pins s σ H _ I h) fun c s1 hp0 => ?_)
  obtain ⟨H1, I1, q1⟩ := hp0
  cases c with
  | true => exact ⟨H1, I1, q1⟩
  | false => exact hb wh pins s1 σ H1 Q I1 q1
theorem pt_not (ha : PT X a tA) : PT X (.UnaryOp .Not a pos) (tNot tA) := by
  intro pins s σ H Q I h
  exact isTrue_not (ha pins s σ H (fun c H1 => Q (!c) H1) I h)
noncomputable def tAndV (ta tb : TE) : TE := fun σ H Q => ta σ H fun x H1 => ∃ c, x = .bl c ∧ if c = true then tb σ H1 Q else Q (.bl false) H1
noncomputable def tOrV (ta tb : TE) : TE := fun σ H Q => ta σ H fun x H1 => ∃ c, x = .bl c ∧ if c = true then Q (.bl true) H1 else tb σ H1 Q
theorem pe_one {op} {t : TE} (h : PE X a t) : PE X (.BoolOp op [a] pos) t := fun pins s σ H Q I hw => BoolOp_one (h pins s σ H Q I hw)
theorem pe_and (ha : PE X a ta) (hb : PE X (.BoolOp .And (b :: rest) pos) tb) : PE X (.BoolOp .And (a :: b :: rest) pos) (tAndV ta tb) := by
  intro pins s σ H Q I h
  refine BoolOp_and (thn (ha pins s σ H _ I h) fun v s1 hp0 => ?_)
  obtain ⟨x, H1, I1, r1, q1⟩ := hp0
  obtain ⟨c, rfl, q1⟩ := q1
  cases r1
  refine wpAny_truthy_bool ?_
  cases c with
  | true => exact hb pins s1 σ H1 Q I1 q1
  | false => exact ⟨.bl false, H1, I1, rfl, q1⟩
theorem pe_or (ha : PE X a ta) (hb : PE X (.BoolOp .Or (b :: rest) pos) tb) : PE X (.BoolOp .Or (a :: b :: rest) pos) (tOrV ta tb) := by
  intro pins s σ H Q I h
  refine BoolOp_or (thn (ha pins s σ H _ I h) fun v s1 hp0 => ?_)
  obtain ⟨x, H1, I1, r1, q1⟩ := hp0
  obtain ⟨c, rfl, q1⟩ := q1
  cases r1
  refine wpAny_truthy_bool ?_
  cases c with
  | false => exact hb pins s1 σ H1 Q I1 q1
  | true => exact ⟨.bl true, H1, I1, rfl, q1⟩
noncomputable def tIf (t : TT) (ta tb : TE) : TE := fun σ H Q => t σ H fun c H1 => if c = true then ta σ H1 Q else tb σ H1 Q
theorem pe_ifExp {c : Expr} (hc : PT X c tA) (ha : PE X a ta) (hb : PE X b tb) : PE X (.IfExp c a b pos) (tIf tA ta tb) := by
  intro pins s σ H Q I h
  refine wpAny_IfExp (thn (hc pins s σ H _ I h) fun d s1 hp0 => ?_)
  obtain ⟨H1, I1, q1⟩ := hp0
  cases d with
  | true => exact ha pins s1 σ H1 Q I1 q1
  | false => exact hb pins s1 σ H1 Q I1 q1
end
end L2
namespace L2
open PySem PySem.Spec PyProof.Rows
noncomputable def SqL (K : PySem.W.Frag) (H : Hp) (a : Addr) (xs : List V) : Prop :=
  Rd H a (.lst xs) ∨
    ∃ (o : Obj) (its : Array Value) (n : Nat), K.lookup a = some o ∧ o.cls = .type "list" ∧ o.dict = none ∧ o.data = .seq its n ∧ its.size ≤ sizeLine ∧ Vals xs its.toList
noncomputable def SqT (K : PySem.W.Frag) (H : Hp) (a : Addr) (xs : List V) : Prop :=
  Rd H a (.tup xs) ∨
    ∃ (o : Obj) (its : Array Value) (n : Nat), K.lookup a = some o ∧ o.cls = .type "tuple" ∧ o.data = .seq its n ∧ its.size ≤ sizeLine ∧ Vals xs its.toList
noncomputable def absV : Value → Option V
  | .none => some .non
  | .bool b => some (.bl b)
  | .int i _ => some (.int i)
  | .str x _ => some (.str x)
  | .bytes b _ => some (.byt b)
  | .float b _ => some (.flt b)
  | .ref a => some (.ref a)
  | .type n => some (.ty n)
  | _ => none
theorem RelV.abs {x : V} {u : Value} (r : RelV x u) : absV u = some x := by
  cases x with
  | non => cases r; rfl
  | bl _ => cases r; rfl
  | int _ => obtain ⟨t, rfl⟩ := r; rfl
  | str _ => obtain ⟨t, rfl⟩ := r; rfl
  | byt _ => obtain ⟨t, rfl⟩ := r; rfl
  | flt _ => obtain ⟨t, rfl⟩ := r; rfl
  | ref _ => cases r; rfl
  | ty _ => cases r; rfl
theorem RelV.inj {x y : V} {u : Value} (r : RelV x u) (q : RelV y u) : x = y := Option.some.inj (r.abs.symm.trans q.abs)
theorem Vals.inj : ∀ {xs ys : List V} {us : List Value}, Vals xs us → Vals ys us → xs = ys
  | _, _, _, .nil, .nil => rfl
  | _, _, _, .cons r t, .cons r' t' => by rw [r.inj r', Vals.inj t t']
section
variable {X : Cx} {pins : List (Addr × Obj)} {σ : St} {H : Hp} {s : Shared} {a : Addr} {xs ys : List V}
theorem SqL.of {K : PySem.W.Frag} (h : H a = some (.lst xs)) : SqL K H a xs := .inl (.inl h)
theorem SqT.of {K : PySem.W.Frag} (h : H a = some (.tup xs)) : SqT K H a xs := .inl (.inl h)
theorem Inv.list (I : Inv X pins σ H s) (h : SqL X.K H a xs) : ∃ its : List Value, Vals xs its ∧ PlainL s.heap a its.toArray ∧ xs.length ≤ sizeLine := by
  rcases h with h | ⟨o, its, n, hk, hc, hd, hs, hz, r⟩
  · obtain ⟨z, its, n, r, e⟩ := h.ok I.hok
    exact ⟨its, r, ⟨_, n, e, rfl, rfl, rfl⟩, z⟩
  · refine ⟨its.toList, r, ⟨o, n, I.kIn a o hk, hc, hd, by simpa using hs⟩, ?_⟩
    have e := r.length
    simp only [Array.length_toList] at e
    lia
theorem Inv.tuple (I : Inv X pins σ H s) (h : SqT X.K H a xs) : ∃ its : List Value, Vals xs its ∧ IsTup s.heap a its.toArray ∧ xs.length ≤ sizeLine := by
  rcases h with h | ⟨o, its, n, hk, hc, hs, hz, r⟩
  · obtain ⟨z, its, r, p⟩ := h.ok I.hok
    exact ⟨its, r, p, z⟩
  · refine ⟨its.toList, r, ⟨o, I.kIn a o hk, hc, n, by simpa using hs⟩, ?_⟩
    have e := r.length
    simp only [Array.length_toList] at e
    lia
theorem Inv.list_inj (I : Inv X pins σ H s) (h : SqL X.K H a xs) (h' : SqL X.K H a ys) : xs = ys := by
  obtain ⟨its, r, ⟨o, n, e, _, _, d⟩, _⟩ := I.list h
  obtain ⟨its', r', ⟨o', n', e', _, _, d'⟩, _⟩ := I.list h'
  rw [e] at e'; cases e'
  rw [d] at d'
  injection d' with d1 _
  have : its = its' := by simpa using congrArg Array.toList d1
  subst this
  exact r.inj r'
theorem Inv.tuple_inj (I : Inv X pins σ H s) (h : SqT X.K H a xs) (h' : SqT X.K H a ys) : xs = ys := by
  obtain ⟨its, r, ⟨o, e, _, n, d⟩, _⟩ := I.tuple h
  obtain ⟨its', r', ⟨o', e', _, n', d'⟩, _⟩ := I.tuple h'
  rw [e] at e'; cases e'
  rw [d] at d'
  injection d' with d1 _
  have : its = its' := by simpa using congrArg Array.toList d1
  subst this
  exact r.inj r'
end
noncomputable abbrev Cx.wish (X : Cx) (E : Value → Shared → Prop) : Cx := { X with xe := E }
noncomputable abbrev Cx.nox (X : Cx) : Cx := X.wish fun _ _ => False
theorem Cx.Ok.wish {X : Cx} (ok : X.Ok) (E : Value → Shared → Prop) : (X.wish E).Ok :=
  ⟨ok.mod, ok.kind, ok.glob, ok.blt, ok.above, ok.inj, ok.has, ok.cab, ok.hd, ok.frames, ok.stk, ok.exf, ok.bs, ok.bsz, ok.noex, ok.exfs, ok.funs, ok.frf⟩
theorem Cx.Ok.unwish {X : Cx} {E : Value → Shared → Prop} (ok : (X.wish E).Ok) : X.Ok :=
  ⟨ok.mod, ok.kind, ok.glob, ok.blt, ok.above, ok.inj, ok.has, ok.cab, ok.hd, ok.frames, ok.stk, ok.exf, ok.bs, ok.bsz, ok.noex, ok.exfs, ok.funs, ok.frf⟩
section
variable {X : Cx} {pins : List (Addr × Obj)} {σ : St} {H : Hp} {s : Shared} {E : Value → Shared → Prop}
theorem Inv.wish (I : Inv X pins σ H s) (E : Value → Shared → Prop) : Inv (X.wish E) pins σ H s := ⟨I.ok.wish E, I.os, I.bare, I.base, I.loc, I.cell, I.free, I.freeC, I.pin, I.hok, I.len⟩
theorem Inv.unwish (I : Inv (X.wish E) pins σ H s) : Inv X pins σ H s := ⟨I.ok.unwish, I.os, I.bare, I.base, I.loc, I.cell, I.free, I.freeC, I.pin, I.hok, I.len⟩
theorem SP.unwish {D : Ends} {f : Flow} {s' : Shared} (h : SP (X.wish E) pins D f s') : SP X pins D f s' := by
  cases f with
  | next => obtain ⟨σ', H', I, q⟩ := h; exact ⟨σ', H', I.unwish, q⟩
  | brk => obtain ⟨σ', H', I, q⟩ := h; exact ⟨σ', H', I.unwish, q⟩
  | cont => obtain ⟨σ', H', I, q⟩ := h; exact ⟨σ', H', I.unwish, q⟩
  | ret u => obtain ⟨v, σ', H', I, r, q⟩ := h; exact ⟨v, σ', H', I.unwish, r, q⟩
theorem PSs.nox {st : List Stmt} {t : TS} (h : PSs X.nox st t) : PSs X st t := fun pins s σ H D I hw =>
  wpAny_mono (h pins s σ H D (I.wish _) hw) (fun _ _ q => q.unwish) fun _ _ z => False.elim z
end
section
variable {X : Cx} {st : Stmt} {rest : List Stmt} {t u : TS} {e : Expr} {te : TE} {pos : Pos}
noncomputable def tNext : TS := fun D σ H => D.nx σ H
noncomputable def tSeq (t u : TS) : TS := fun D σ H => t { D with nx := u D } σ H
theorem pss_nil : PSs X [] tNext := fun _ _ σ H _ I h => wpAny_execs_nil ⟨σ, H, I, h⟩
theorem pss_cons (h1 : PS X st t) (h2 : PSs X rest u) : PSs X (st :: rest) (tSeq t u) := by
  intro pins s σ H D I h
  refine wpAny_execs_cons (thn (h1 pins s σ H { D with nx := u D } I h) fun f s1 q => ?_)
  cases f with
  | next =>
    obtain ⟨σ', H', I', q⟩ := q
    exact h2 pins s1 σ' H' D I' q
  | ret v => exact q
  | brk => exact q
  | cont => exact q
theorem pss_one (h1 : PS X st t) : PSs X [st] t := by
  intro pins s σ H D I h
  refine wpAny_execs_cons (thn (h1 pins s σ H D I h) fun f s1 q => ?_)
  cases f with
  | next => exact wpAny_execs_nil q
  | ret v => exact q
  | brk => exact q
  | cont => exact q
theorem Inv.quiet {pins : List (Addr × Obj)} {σ : St} {H : Hp} {s : Shared} (I : Inv X pins σ H s) : interactive X.env = false := by simp [interactive, I.ok.kind]
noncomputable def tDrop (te : TE) : TS := fun D σ H => te σ H fun _ H1 => D.nx σ H1
theorem ps_expr (he : PE X e te) (hs : swapsWith e none pos.line X.env = pure false := by rfl) : PS X (.Expr e pos) (tDrop te) := by
  intro pins s σ H D I h
  exact wpAny_Expr_any (thn (he pins s σ H _ I h) fun v s1 hp0 => by obtain ⟨x, H1, I1, r1, q1⟩ := hp0; exact ⟨σ, H1, I1, q1⟩) I.quiet hs
noncomputable def tRet (te : TE) : TS := fun D σ H => te σ H D.rt
theorem ps_ret (he : PE X e te) : PS X (.Return (some e) pos) (tRet te) := by
  intro pins s σ H D I h
  exact wpAny_Return_some (thn (he pins s σ H _ I h) fun v s1 hp0 => by obtain ⟨x, H1, I1, r1, q1⟩ := hp0; exact ⟨x, σ, H1, I1, r1, q1⟩)
noncomputable def tIfS (c : TT) (t u : TS) : TS := fun D σ H => c σ H fun b H1 => if b = true then t D σ H1 else u D σ H1
theorem ps_if {c : Expr} {a b : List Stmt} {tc : TT} (hc : PT X c tc) (ha : PSs X a t) (hb : PSs X b u) : PS X (.If c a b pos) (tIfS tc t u) := by
  intro pins s σ H D I h
  refine wpAny_If (thn (hc pins s σ H _ I h) fun d s1 hp0 => ?_)
  obtain ⟨H1, I1, q1⟩ := hp0
  cases d with
  | true => exact ha pins s1 σ H1 D I1 q1
  | false => exact hb pins s1 σ H1 D I1 q1
noncomputable def tNever : TS := fun _ _ _ => False
theorem pss_never {sts : List Stmt} : PSs X sts tNever := fun _ _ _ _ _ _ h => h.elim
end
noncomputable abbrev TG := V → St → Hp → (St → Hp → Prop) → Prop
noncomputable abbrev TGs := List V → St → Hp → (St → Hp → Prop) → Prop
noncomputable def PG (X : Cx) (target : Expr) (t : TG) : Prop :=
  ∀ (pins : List (Addr × Obj)) (s : Shared) (σ : St) (H : Hp) (v : V) (u : Value) (Q : St → Hp → Prop), Inv X pins σ H s → RelV v u → t v σ H Q →
    wpAny (model X.prog X.w) X.A (assign target X.env u) (fun _ s' => ∃ σ' H', Inv X pins σ' H' s' ∧ Q σ' H') X.xe s
noncomputable def PGs (X : Cx) (ts : List Expr) (t : TGs) : Prop :=
  ∀ (pins : List (Addr × Obj)) (s : Shared) (σ : St) (H : Hp) (vs : List V) (us : List Value) (Q : St → Hp → Prop), Inv X pins σ H s → Vals vs us → t vs σ H Q →
    wpAny (model X.prog X.w) X.A (assignInOrder ((assignEach ts X.env).map (·.2)) us) (fun _ s' => ∃ σ' H', Inv X pins σ' H' s' ∧ Q σ' H') X.xe s
section
variable {X : Cx} {pos : Pos}
noncomputable def gName (i : Nat) : TG := fun v σ H Q => Q (σ.set i (some v)) H
theorem pg_name {i : Nat} {x : Str} (hN : X.N.Nodup) (hi : X.N[i]? = some x) (hx : Loc X.env.scope x) (hf : X.fn x = true ∨ X.env.scope.names.lookup x = some .local := by first | exact .inl rfl | exact .inr rfl | assumption) : PG X (.Name x pos) (gName i) := by
  intro pins s σ H v u Q I r h
  exact wpAny_assign_Name (store_ok I hN hi hx r (fun s' I' => ⟨_, H, I', h⟩) hf)
noncomputable def gNil : TGs := fun vs σ H Q => vs = [] ∧ Q σ H
inductive gCons (t : TG) (u : TGs) (vs : List V) (σ : St) (H : Hp) (Q : St → Hp → Prop) : Prop
  | mk (v : _) (r : _) (c0 : vs = v :: r) (c1 : t v σ H fun σ' H' => u r σ' H' Q) : gCons t u vs σ H Q
theorem pgs_nil : PGs X [] gNil := by
  intro pins s σ H vs us Q I r h
  obtain ⟨e, h⟩ := h
  subst e
  cases r
  exact assignInOrder_nil ⟨σ, H, I, h⟩
theorem pgs_cons {e : Expr} {es : List Expr} {t : TG} {u : TGs} (h1 : PG X e t) (h2 : PGs X es u)
    (hs : (assignEach (e :: es) X.env).map (·.2) = assign e X.env :: (assignEach es X.env).map (·.2) := by rfl) : PGs X (e :: es) (gCons t u) := by
  intro pins s σ H vs us Q I r h
  obtain ⟨v, vr, e1, h⟩ := h
  subst e1
  cases r with
  | cons r rr =>
    rw [hs]
    refine assignInOrder_cons (thn (h1 pins s σ H _ _ _ I r h) fun _ s1 hp0 => ?_)
    obtain ⟨σ1, H1, I1, q1⟩ := hp0
    exact h2 pins s1 σ1 H1 _ _ Q I1 rr q1
inductive gTup (K : PySem.W.Frag) (n : Nat) (t : TGs) (v : V) (σ : St) (H : Hp) (Q : St → Hp → Prop) : Prop
  | mk (a : _) (xs : _) (c0 : v = .ref a) (c1 : SqT K H a xs) (c2 : xs.length = n) (c3 : t xs σ H Q) : gTup K n t v σ H Q
theorem pg_tup {es : List Expr} {k : Nat} {t : TGs} {n : Nat} (hc : X.calm = true) (h : PGs X es t)
    (hn : (assignEach es X.env).length = n := by rfl) (hst : (assignEach es X.env).findIdx? (·.1) = none := by rfl) : PG X (.Tuple es k pos) (gTup X.K n t) := by
  intro pins s σ H v u Q I r hw
  obtain ⟨a, xs, e1, hq, hl, hw⟩ := hw
  subst e1
  cases r
  obtain ⟨its, rv, ht, hz⟩ := I.tuple hq
  refine assign_Tuple_tuple (I.ok.hd hc) ht (by simp [hn, ← hl, rv.length]) hst fun h' hx => ?_
  have I1 : Inv X pins σ H { s with heap := h' } := I.kept (t' := s.toks) fun b o e => hx b o (Nat.ne_of_lt (Heap.lt_size e)) e
  exact h pins _ σ H xs _ Q I1 (by simpa using rv) hw
noncomputable def tAsg (te : TE) (g : TG) : TS := fun D σ H => te σ H fun x H1 => g x σ H1 D.nx
theorem ps_asg {tg e : Expr} {te : TE} {g : TG} (he : PE X e te) (hg : PG X tg g) (hs : swapsWithSole [tg] e pos.line X.env = pure false := by rfl) (hw : swappedStores [tg] e X.env = pure none := by rfl)
    (h1 : (assignEach [tg] X.env).map (·.2) = [assign tg X.env] := by rfl) : PS X (.Assign [tg] e pos) (tAsg te g) := by
  intro pins s σ H D I h
  refine wpAny_Assign_stores (thn (he pins s σ H _ I h) fun v s1 hp0 => ?_) hs hw
  obtain ⟨x, H1, I1, r1, q1⟩ := hp0
  rw [h1]
  exact thn (hg pins s1 σ H1 x v _ I1 r1 q1) fun _ s2 q => q
theorem ps_set {i : Nat} {x : Str} {e : Expr} {te : TE} {pos' : Pos} (hN : X.N.Nodup) (hi : X.N[i]? = some x) (hx : Loc X.env.scope x) (he : PE X e te) (hs : swapsWith e (some (.Name x pos')) pos.line X.env = pure false := by rfl) (hf : X.fn x = true ∨ X.env.scope.names.lookup x = some .local := by first | exact .inl rfl | exact .inr rfl | assumption) :
    PS X (.Assign [.Name x pos'] e pos) (tAsg te (gName i)) := by
  intro pins s σ H D I h
  refine wpAny_Assign_Name (thn (he pins s σ H _ I h) fun v s1 hp0 => ?_) hs
  obtain ⟨y, H1, I1, r1, q1⟩ := hp0
  exact store_ok I1 hN hi hx r1 (fun s2 I2 => ⟨_, H1, I2, q1⟩) hf
end
structure It where
  go : Nat → Hp → Prop
  yld : Nat → Hp → V → Hp → Prop
  stop : Nat → Hp → Prop
noncomputable def FpOk (X : Cx) (pins : List (Addr × Obj)) (H : Hp) (b : Addr) : Prop :=
  H b = none ∧ b ≠ X.env.locals ∧ b ∉ X.fs ∧ (b ∈ X.ex ∨ X.s₀.heap.objs.size ≤ b) ∧ (∀ x c, X.env.cells.lookup x = some c → c ≠ b) ∧ ∀ p ∈ X.pn ++ pins, p.1 ≠ b
theorem Inv.fpOk {X : Cx} {pins : List (Addr × Obj)} {σ : St} {H H' : Hp} {s : Shared} {b : Addr} (I : Inv X pins σ H s) (hb : s.heap.objs.size ≤ b) (hn : H' b = none) : FpOk X pins H' b := by
  refine ⟨hn, Nat.ne_of_gt (Nat.lt_of_lt_of_le I.lt hb), I.nofs hb, .inr (Nat.le_trans I.sz hb), fun x c e z => ?_, fun p hp z => ?_⟩
  · obtain ⟨v, q⟩ := I.cell x c e
    exact absurd (Nat.lt_of_lt_of_le q.lt (by rw [z]; exact hb)) (Nat.lt_irrefl _)
  · exact absurd (Nat.lt_of_lt_of_le (Heap.lt_size (I.pin p hp).1) (by rw [z]; exact hb)) (Nat.lt_irrefl _)
structure Turn (P : Program) (w : World) (K : PySem.W.Frag) (tg : Expr) (J : It) (fp : List Addr) (it : Addr) (tn : Nat → Heap → Prop) : Prop where
  mem : it ∈ fp
  obj : ∀ i h, tn i h → ∀ b ∈ fp, ∃ o, h.get? b = some o ∧ ∀ v, o.data ≠ .cell v
  keep : ∀ i h h', tn i h → (∀ b ∈ fp, ∀ o, h.get? b = some o → h'.get? b = some o) → tn i h'
  item : ∀ (X : Cx), X.prog = P → X.w = w → X.K = K → X.calm = true → ∀ (i : Nat) (pins : List (Addr × Obj)) (s : Shared) (σ : St) (H : Hp) (E : Value → Shared → Prop), Inv X pins σ H s → (∀ b ∈ fp, FpOk X pins H b) → tn i s.heap → J.go i H →
    wpAny (model P w) X.A (pyNext (.ref it)) (fun r s1 => ∃ u, r = some u ∧
      wpAny (model P w) X.A (letOwnedTupleGo tg (.ref it) u) (fun _ s2 => ∃ x H', Inv X pins σ H' s2 ∧ RelV x u ∧ J.yld i H x H' ∧ tn (i + 1) s2.heap ∧ ∀ b ∈ fp, H' b = none) E s1) E s
  done : ∀ (X : Cx), X.prog = P → X.w = w → X.K = K → X.calm = true → ∀ (i : Nat) (pins : List (Addr × Obj)) (s : Shared) (σ : St) (H : Hp) (E : Value → Shared → Prop), Inv X pins σ H s → (∀ b ∈ fp, FpOk X pins H b) → tn i s.heap → J.stop i H →
    wpAny (model P w) X.A (pyNext (.ref it)) (fun r s1 => r = none ∧ Inv X pins σ H s1) E s
  self : ∀ (A : Around) (i : Nat) (s : Shared) (Q : Value → Shared → Prop) (E : Value → Shared → Prop), tn i s.heap → Q (.ref it) s → wpAny (model P w) A (pyIter (.ref it)) Q E s
noncomputable abbrev TI := St → Hp → (It → Hp → Prop) → Prop
noncomputable def PIE (X : Cx) (pins : List (Addr × Obj)) (σ : St) (tg : Expr) (R : It → Hp → Prop) (itv : Value) (s2 : Shared) : Prop :=
  ∃ (it : Addr) (fp : List Addr) (tn : Nat → Heap → Prop) (J : It) (H' : Hp), itv = .ref it ∧ Inv X pins σ H' s2 ∧ Turn X.prog X.w X.K tg J fp it tn ∧ tn 0 s2.heap ∧ (∀ b ∈ fp, FpOk X pins H' b) ∧ R J H'
noncomputable def PI (X : Cx) (tg iter : Expr) (wi : TI) : Prop :=
  ∀ (pins : List (Addr × Obj)) (s : Shared) (σ : St) (H : Hp) (R : It → Hp → Prop), Inv X pins σ H s → wi σ H R →
    wpAny (model X.prog X.w) X.A (eval iter X.env) (fun v s1 => wpAny (model X.prog X.w) X.A (pyIter v) (PIE X pins σ tg R) X.xe s1) X.xe s
theorem go_of {M : Model} {A : Around} {E : Value → Shared → Prop} {s : Shared} {tg : Expr} {it : Addr} {u : Value} {o : Obj} {n : String} {vs : Array Value} {Q : Unit → Shared → Prop} (ho : s.heap.get? it = some o) (hc : o.cls = .type n) (hd : o.data = .fields vs)
    (hn : ["enumerate", "zip", "dict_itemiterator", "dict_reverseitemiterator", "odict_iterator", "itertools.zip_longest", "itertools.pairwise"].contains n = false) (hQ : Q () s) : wpAny M A (letOwnedTupleGo tg (.ref it) u) Q E s := by
  unfold letOwnedTupleGo
  cases tg <;> first
    | exact wpAny_pure hQ
    | (cases u <;> first
        | exact wpAny_pure hQ
        | (refine wpAny_bind (wpAny_load ho ?_)
           rw [hc, hd]
           show wpAny M A (if (["enumerate", "zip", "dict_itemiterator", "dict_reverseitemiterator", "odict_iterator", "itertools.zip_longest", "itertools.pairwise"].contains n && vs[0]? == some (rawInt _)) = true then _ else _) Q E s
           rw [if_neg (by intro h; rw [hn, Bool.false_and] at h; cases h)]
           exact wpAny_pure hQ))
noncomputable def Itl (K : PySem.W.Frag) (a : Addr) : It :=
  ⟨fun i H => ∃ xs x, SqL K H a xs ∧ xs[i]? = some x, fun i H x H' => H' = H ∧ ∀ xs, SqL K H a xs → xs[i]? = some x, fun i H => ∃ xs, SqL K H a xs ∧ xs.length ≤ i⟩
noncomputable def Itt (K : PySem.W.Frag) (a : Addr) : It :=
  ⟨fun i H => ∃ xs x, SqT K H a xs ∧ xs[i]? = some x, fun i H x H' => H' = H ∧ ∀ xs, SqT K H a xs → xs[i]? = some x, fun i H => ∃ xs, SqT K H a xs ∧ xs.length ≤ i⟩
noncomputable def Itr (lo : Int) (n : Nat) : It := ⟨fun i _ => i < n, fun i H x H' => H' = H ∧ x = .int (lo + i), fun i _ => n ≤ i⟩
theorem turn_list {P : Program} {w : World} {K : PySem.W.Frag} {tg : Expr} (a it : Addr) : Turn P w K tg (Itl K a) [it] it (fun i h => h.IsListIter it a i) where
  mem := by simp
  obj := fun i h st b hb => by
    have e : b = it := by simpa using hb
    subst e
    obtain ⟨o, e, c, d⟩ := st
    exact ⟨o, e, fun v z => by rw [d] at z; cases z⟩
  keep := fun i h h' st k => st.at fun o e => k it (by simp) o e
  item := by
    intro X hP hw hK hc i pins s σ H E I hf st hg
    subst hP hw hK
    obtain ⟨xs, x, hq, hx⟩ := hg
    obtain ⟨its, rv, p, hz⟩ := I.list hq
    obtain ⟨u, hu, ru⟩ := rv.get hx
    obtain ⟨f0, f1, f2, f3, f4, f5⟩ := hf it (by simp)
    refine wpAny_pyNext_list_item st p.isList (x := u) (by simpa using hu) fun h' st' sb => ?_
    have I1 : Inv X pins σ H { s with heap := h' } := I.turned (t' := s.toks) (fun b o hb e => (sb.2 b hb).trans e) f0 f1 f3 f4 f5
    obtain ⟨o, e, c, d⟩ := id st'
    exact ⟨u, rfl, go_of (s := { s with heap := h' }) e c d (by decide) ⟨x, H, I1, ru, ⟨rfl, fun ys hy => by rw [I.list_inj hy hq]; exact hx⟩, st', fun b hb => (hf b hb).1⟩⟩
  done := by
    intro X hP hw hK hc i pins s σ H E I hf st hg
    subst hP hw hK
    obtain ⟨xs, hq, hx⟩ := hg
    obtain ⟨its, rv, p, hz⟩ := I.list hq
    obtain ⟨f0, f1, f2, f3, f4, f5⟩ := hf it (by simp)
    have hl := rv.length
    exact wpAny_pyNext_list_end (I.ok.hd hc) st p.isList (by simp; lia) fun h' eb => ⟨rfl, I.turned (t' := s.toks) (fun b o hb e => eb b o hb e) f0 f1 f3 f4 f5⟩
  self := fun _ _ _ _ _ st h => wpAny_pyIter_listiter st h
theorem turn_tuple {P : Program} {w : World} {K : PySem.W.Frag} {tg : Expr} (a it : Addr) : Turn P w K tg (Itt K a) [it] it (fun i h => h.IsTupleIter it a i) where
  mem := by simp
  obj := fun i h st b hb => by
    have e : b = it := by simpa using hb
    subst e
    obtain ⟨o, e, c, d⟩ := st
    exact ⟨o, e, fun v z => by rw [d] at z; cases z⟩
  keep := fun i h h' st k => st.at fun o e => k it (by simp) o e
  item := by
    intro X hP hw hK hc i pins s σ H E I hf st hg
    subst hP hw hK
    obtain ⟨xs, x, hq, hx⟩ := hg
    obtain ⟨its, rv, p, hz⟩ := I.tuple hq
    obtain ⟨u, hu, ru⟩ := rv.get hx
    obtain ⟨f0, f1, f2, f3, f4, f5⟩ := hf it (by simp)
    refine wpAny_pyNext_tuple_item st (show s.heap.IsTuple a its.toArray from p) (x := u) (by simpa using hu) fun h' st' sb => ?_
    have I1 : Inv X pins σ H { s with heap := h' } := I.turned (t' := s.toks) (fun b o hb e => (sb.2 b hb).trans e) f0 f1 f3 f4 f5
    obtain ⟨o, e, c, d⟩ := id st'
    exact ⟨u, rfl, go_of (s := { s with heap := h' }) e c d (by decide) ⟨x, H, I1, ru, ⟨rfl, fun ys hy => by rw [I.tuple_inj hy hq]; exact hx⟩, st', fun b hb => (hf b hb).1⟩⟩
  done := by
    intro X hP hw hK hc i pins s σ H E I hf st hg
    subst hP hw hK
    obtain ⟨xs, hq, hx⟩ := hg
    obtain ⟨its, rv, p, hz⟩ := I.tuple hq
    obtain ⟨f0, f1, f2, f3, f4, f5⟩ := hf it (by simp)
    have hl := rv.length
    exact wpAny_pyNext_tuple_end (I.ok.hd hc) st (show s.heap.IsTuple a its.toArray from p) (by simp; lia) fun h' eb => ⟨rfl, I.turned (t' := s.toks) (fun b o hb e => eb b o hb e) f0 f1 f3 f4 f5⟩
  self := fun _ _ _ _ _ st h => wpAny_pyIter_tupleiter st h
theorem turn_range {P : Program} {w : World} {K : PySem.W.Frag} {tg : Expr} (it : Addr) (lo : Int) (n : Nat) : Turn P w K tg (Itr lo n) [it] it (fun i h => IsRangeIter h it (lo + (i : Nat) * 1) ((n : Int) - (i : Nat)) 1) where
  mem := by simp
  obj := fun i h st b hb => by
    have e : b = it := by simpa using hb
    subst e
    exact ⟨_, st, fun v z => by
      have z' : Data.fields _ = Data.cell v := z
      cases z'⟩
  keep := fun i h h' st k => k it (by simp) _ st
  item := by
    intro X hP hw hK hc i pins s σ H E I hf st hg
    subst hP hw hK
    obtain ⟨f0, f1, f2, f3, f4, f5⟩ := hf it (by simp)
    have W := Walks.range (prog := X.prog) (w := X.w) (I.ok.hd hc) it lo 1 n
    refine W.item i s _ _ hg st fun v h' tk hv st' kk => ?_
    obtain ⟨t, rfl⟩ := hv
    have I1 : Inv X pins σ H { s with heap := h', toks := tk } := I.turned (fun b o hb e => kk b o (by simpa using hb) e) f0 f1 f3 f4 f5
    refine ⟨_, rfl, go_of (s := { s with heap := h', toks := tk }) (n := "range_iterator") st' rfl rfl (by decide) ⟨.int (lo + i), H, I1, ⟨t, ?_⟩, ⟨rfl, rfl⟩, st', fun b hb => (hf b hb).1⟩⟩
    rw [Int.mul_one]
  done := by
    intro X hP hw hK hc i pins s σ H E I hf st hg
    subst hP hw hK
    obtain ⟨f0, f1, f2, f3, f4, f5⟩ := hf it (by simp)
    exact wpAny_pyNext_range_end (I.ok.hd hc) st (by have : n ≤ i := hg; lia) fun h' eb => ⟨rfl, I.turned (t' := s.toks) (fun b o hb e => eb b o hb e) f0 f1 f3 f4 f5⟩
  self := fun _ _ _ _ _ st h => wpAny_pyIter_rangeiter st h
end L2
namespace L2
open PySem PySem.Spec PyProof.Rows
section
variable {X : Cx} {tg : Expr}
noncomputable def iList (K : PySem.W.Frag) (tl : TE) : TI := fun σ H R => tl σ H fun x H1 => ∃ a, x = .ref a ∧ (∃ xs, SqL K H1 a xs) ∧ R (Itl K a) H1
noncomputable def iTup (K : PySem.W.Frag) (tl : TE) : TI := fun σ H R => tl σ H fun x H1 => ∃ a, x = .ref a ∧ (∃ xs, SqT K H1 a xs) ∧ R (Itt K a) H1
theorem pi_list {l : Expr} {tl : TE} (hl : PE X l tl) : PI X tg l (iList X.K tl) := by
  intro pins s σ H R I h
  refine thn (hl pins s σ H _ I h) fun v s1 hp0 => ?_
  obtain ⟨x, H1, I1, r1, q1⟩ := hp0
  obtain ⟨a, e, ⟨xs, hq⟩, q⟩ := q1
  subst e
  cases r1
  obtain ⟨its, rv, p, hz⟩ := I1.list hq
  refine wpAny_pyIter_list p.isList ?_
  refine ⟨s1.heap.objs.size, [s1.heap.objs.size], _, _, H1, rfl, I1.kept (t' := s1.toks) fun b o e => Heap.get?_push_of_some _ e, turn_list a _, ⟨_, Heap.get?_push_size _ rfl, rfl, rfl⟩, fun b hb => ?_, q⟩
  have e : b = s1.heap.objs.size := by simpa using hb
  subst e
  exact I1.fpOk (Nat.le_refl _) (I1.hok.fresh (Nat.le_refl _))
theorem pi_tup {l : Expr} {tl : TE} (hl : PE X l tl) : PI X tg l (iTup X.K tl) := by
  intro pins s σ H R I h
  refine thn (hl pins s σ H _ I h) fun v s1 hp0 => ?_
  obtain ⟨x, H1, I1, r1, q1⟩ := hp0
  obtain ⟨a, e, ⟨xs, hq⟩, q⟩ := q1
  subst e
  cases r1
  obtain ⟨its, rv, p, hz⟩ := I1.tuple hq
  refine wpAny_pyIter_tuple (show s1.heap.IsTuple a its.toArray from p) ?_
  refine ⟨s1.heap.objs.size, [s1.heap.objs.size], _, _, H1, rfl, I1.kept (t' := s1.toks) fun b o e => Heap.get?_push_of_some _ e, turn_tuple a _, ⟨_, Heap.get?_push_size _ rfl, rfl, rfl⟩, fun b hb => ?_, q⟩
  have e : b = s1.heap.objs.size := by simpa using hb
  subst e
  exact I1.fpOk (Nat.le_refl _) (I1.hok.fresh (Nat.le_refl _))
theorem range_it {pins : List (Addr × Obj)} {σ : St} {H : Hp} {s : Shared} {R : It → Hp → Prop} {E : Value → Shared → Prop} {lo hi : Int} {t u v : Tok} {tk : Nat} (I : Inv X pins σ H s) (h1 : -(2 ^ 62) ≤ lo) (h2 : lo < 2 ^ 62) (h3 : -(2 ^ 62) ≤ hi) (h4 : hi < 2 ^ 62)
    (q : R (Itr lo (hi - lo).toNat) H) : wpAny (model X.prog X.w) X.A (pyIter (.ref s.heap.objs.size)) (PIE X pins σ tg R) E { s with heap := s.heap.push { cls := .type "range", data := .fields #[.int lo t, .int hi u, .int 1 v] }, toks := tk } := by
  refine wpAny_pyIter_range (IsRange.new ..) (small_one h1 h2 h3 h4) ?_
  have I1 : Inv X pins σ H { s with heap := s.heap.push { cls := .type "range", data := .fields #[.int lo t, .int hi u, .int 1 v] }, toks := tk } := I.kept fun b o e => Heap.get?_push_of_some _ e
  refine ⟨(s.heap.push { cls := .type "range", data := .fields #[.int lo t, .int hi u, .int 1 v] }).objs.size, [(s.heap.push { cls := .type "range", data := .fields #[.int lo t, .int hi u, .int 1 v] }).objs.size], _, _, H, rfl,
    I1.kept (t' := tk) fun b o e => Heap.get?_push_of_some _ e, turn_range _ lo (hi - lo).toNat, ?_, fun b hb => ?_, q⟩
  · have e1 : lo + ((0 : Nat) : Int) * 1 = lo := by simp
    have e2 : (((hi - lo).toNat : Nat) : Int) - ((0 : Nat) : Int) = Builtin.Range.rangeSize lo hi 1 := by rw [rangeSize_one]; split <;> lia
    show IsRangeIter _ _ (lo + ((0 : Nat) : Int) * 1) ((((hi - lo).toNat : Nat) : Int) - ((0 : Nat) : Int)) 1
    rw [e1, e2]
    exact Heap.get?_push_size _ rfl
  · have e : b = (s.heap.push { cls := .type "range", data := .fields #[.int lo t, .int hi u, .int 1 v] }).objs.size := by simpa using hb
    subst e
    exact I1.fpOk (Nat.le_refl _) (I1.hok.fresh (Nat.le_refl _))
noncomputable def iRng1 (ta : TA) : TI := fun σ H R => ta σ H fun vs H1 => ∃ j : Int, vs = [.int j] ∧ -(2 ^ 62) ≤ j ∧ j < 2 ^ 62 ∧ R (Itr 0 j.toNat) H1
noncomputable def iRng2 (ta : TA) : TI := fun σ H R => ta σ H fun vs H1 => ∃ i j : Int, vs = [.int i, .int j] ∧ (-(2 ^ 62) ≤ i ∧ i < 2 ^ 62 ∧ -(2 ^ 62) ≤ j ∧ j < 2 ^ 62) ∧ R (Itr i (j - i).toNat) H1
theorem pi_range1 {a : Expr} {ta : TA} {p pos : Pos} (hg : Gl X "range") (hm : X.mg "range" = none) (ha : PA X [a] ta) (hs : starEach [a] X.env = [(false, eval a X.env)] := by rfl) : PI X tg (.Call (.Name "range" p) [a] [] pos) (iRng1 ta) := by
  intro pins s σ H R I h
  refine Call_ (ld_blt I hg hm boot_range (PyProof.Rows.callWith_type1 (thn (ha pos pins s σ H _ I h) fun us s1 hp0 => ?_) hs rfl))
  obtain ⟨vs, H1, I1, r1, q1⟩ := hp0
  obtain ⟨j, e, q1, q2, q⟩ := q1
  subst e
  cases r1 with
  | cons r rr =>
    cases rr
    obtain ⟨t, rfl⟩ := r
    exact call_range_1 (range_it I1 (by lia) (by lia) q1 q2 (by simpa using q))
theorem pi_range2 {a b : Expr} {ta : TA} {p pos : Pos} (hg : Gl X "range") (hm : X.mg "range" = none) (ha : PA X [a, b] ta) (hs : starEach [a, b] X.env = [(false, eval a X.env), (false, eval b X.env)] := by rfl) (hs2 : starEach [b] X.env = [(false, eval b X.env)] := by rfl) :
    PI X tg (.Call (.Name "range" p) [a, b] [] pos) (iRng2 ta) := by
  intro pins s σ H R I h
  refine Call_ (ld_blt I hg hm boot_range (PyProof.Rows.callWith_type1 (thn (ha pos pins s σ H _ I h) fun us s1 hp0 => ?_) (by rw [hs, hs2]) (by rw [hs2]; rfl)))
  obtain ⟨vs, H1, I1, r1, q1⟩ := hp0
  obtain ⟨i, j, e, ⟨q1, q2, q3, q4⟩, q⟩ := q1
  subst e
  cases r1 with
  | cons r rr =>
    cases rr with
    | cons r' rr =>
      cases rr
      obtain ⟨t, rfl⟩ := r
      obtain ⟨t', rfl⟩ := r'
      exact call_range_2 (range_it I1 q1 q2 q3 q4 q)
noncomputable def tFor (wi : TI) (g : TG) (tb : TS) : TS := fun D σ H => wi σ H fun J H1 => ∃ W : Nat → Nat → St → Hp → Prop, (∃ m, W 0 m σ H1) ∧ ∀ i m σ H, W i m σ H →
  (J.stop i H ∧ D.nx σ H) ∨ (J.go i H ∧ ∃ N : St → Hp → Prop, (∀ σ' H', N σ' H' → ∃ m', m' < m ∧ W (i + 1) m' σ' H') ∧ ∀ x H', J.yld i H x H' → g x σ H' fun σ2 H2 => tb { D with nx := N, ct := N, bk := D.nx } σ2 H2)
noncomputable def pinsAt (fp : List Addr) (h : Heap) : List (Addr × Obj) := fp.filterMap fun b => (h.get? b).map fun o => (b, o)
theorem mem_pinsAt {fp : List Addr} {h : Heap} {b : Addr} {o : Obj} (hb : b ∈ fp) (e : h.get? b = some o) : (b, o) ∈ pinsAt fp h := List.mem_filterMap.mpr ⟨b, hb, by rw [e]; rfl⟩
theorem of_pinsAt {fp : List Addr} {h : Heap} {p : Addr × Obj} (hp : p ∈ pinsAt fp h) : p.1 ∈ fp ∧ h.get? p.1 = some p.2 := by
  obtain ⟨b, hb, e⟩ := List.mem_filterMap.mp hp
  cases q : h.get? b with
  | none => rw [q] at e; cases e
  | some o =>
    rw [q] at e
    have e' : (b, o) = p := Option.some.inj e
    subst e'
    exact ⟨hb, q⟩
theorem Inv.pinned {pins : List (Addr × Obj)} {σ : St} {H : Hp} {s : Shared} {fp : List Addr} (I : Inv X pins σ H s) (hf : ∀ b ∈ fp, FpOk X pins H b) (ho : ∀ b ∈ fp, ∃ o, s.heap.get? b = some o ∧ ∀ v, o.data ≠ .cell v) : Inv X (pins ++ pinsAt fp s.heap) σ H s :=
  I.pins_of fun p hp => (List.mem_append.mp hp).elim (fun z => I.pin p (List.mem_append_right _ z)) fun z => by
    obtain ⟨hb, e⟩ := of_pinsAt z
    obtain ⟨f0, f1, f2, _⟩ := hf p.1 hb
    obtain ⟨o, e', d⟩ := ho p.1 hb
    rw [e] at e'; cases e'
    exact ⟨e, f0, f1, f2, d⟩
theorem Inv.unpinned {pins pl : List (Addr × Obj)} {σ : St} {H : Hp} {s : Shared} (I : Inv X (pins ++ pl) σ H s) : Inv X pins σ H s := I.pins_of fun p hp => I.pin p (List.mem_append_right _ (List.mem_append_left _ hp))
theorem ps_for {iter : Expr} {body : List Stmt} {wi : TI} {g : TG} {tb : TS} {pos : Pos} (hp : PassesOwn (model X.prog X.w) X.A X.env X.xe) (hc : X.calm = true) (hi : PI X tg iter wi) (hg : PG X tg g) (hb : PSs X body tb)
    (hs : ∀ x, foldedSetIterable iter X.env x = pure x := by intro _; rfl) : PS X (.For tg iter body [] pos) (tFor wi g tb) := by
  intro pins s σ H D I h
  refine wpAny_For (thn (hi pins s σ H _ I h) fun v s1 h1 => thn h1 fun itv s2 h2 => ?_) hs
  obtain ⟨it, fp, tn, J, H2, e, I2, T, st2, f2, W, ⟨m0, w0⟩, turn⟩ := h2
  subst e
  -- what stays true of the iterator's objects through the loop
  have stat : ∀ {H' : Hp}, (∀ b ∈ fp, H' b = none) → ∀ b ∈ fp, FpOk X pins H' b := fun hn b hb => ⟨hn b hb, (f2 b hb).2⟩
  refine codeAny_forLoop_any (fun n s' => ∃ i σ' H', Inv X pins σ' H' s' ∧ tn i s'.heap ∧ (∀ b ∈ fp, H' b = none) ∧ W i n σ' H') ?_ m0 ⟨0, σ, H2, I2, st2, fun b hb => (f2 b hb).1, w0⟩
  rintro n s3 ⟨i, σ3, H3, I3, st3, fr3, w3⟩
  rcases turn i n σ3 H3 w3 with ⟨stop, qn⟩ | ⟨go, N, hN, step⟩
  · refine wpAny_passesOwn hp (thn (T.done X rfl rfl rfl hc i pins s3 σ3 H3 X.xe I3 (stat fr3) st3 stop) fun r s4 hp0 => ?_)
    obtain ⟨hr, I4⟩ := hp0
    subst hr
    exact wpAny_execs_nil ⟨σ3, H3, I4, qn⟩
  · refine wpAny_passesOwn hp (thn (T.item X rfl rfl rfl hc i pins s3 σ3 H3 X.xe I3 (stat fr3) st3 go) fun r s4 hp0 => ?_)
    obtain ⟨u, hr, h4⟩ := hp0
    subst hr
    refine wpAny_passesOwn hp (thn h4 fun _ s5 hp0 => ?_)
    obtain ⟨x, H5, I5, r5, y5, st5, fr5⟩ := hp0
    have I5' := I5.pinned (stat fr5) (T.obj _ _ st5)
    refine wpAny_passesOwn hp (thn (hg _ s5 σ3 H5 x u _ I5' r5 (step x H5 y5)) fun _ s6 hp0 => ?_)
    obtain ⟨σ6, H6, I6, q6⟩ := hp0
    refine wpAny_passesOwn hp (thn (hb _ s6 σ6 H6 _ I6 q6) fun f s7 q7 => ?_)
    have again : ∀ {σ7 : St} {H7 : Hp}, Inv X (pins ++ pinsAt fp s5.heap) σ7 H7 s7 → N σ7 H7 → ∃ m, m < n ∧ ∃ i σ' H', Inv X pins σ' H' s7 ∧ tn i s7.heap ∧ (∀ b ∈ fp, H' b = none) ∧ W i m σ' H' := fun {σ7 H7} I7 n7 => by
      obtain ⟨m', hm, w7⟩ := hN σ7 H7 n7
      refine ⟨m', hm, i + 1, σ7, H7, I7.unpinned, T.keep _ _ _ st5 fun b hb o e => (I7.pin (b, o) (List.mem_append_right _ (List.mem_append_right _ (mem_pinsAt hb e)))).1, fun b hb => ?_, w7⟩
      obtain ⟨o, e, d⟩ := T.obj _ _ st5 b hb
      exact (I7.pin (b, o) (List.mem_append_right _ (List.mem_append_right _ (mem_pinsAt hb e)))).2.1
    cases f with
    | next => obtain ⟨σ7, H7, I7, n7⟩ := q7; exact again I7 n7
    | cont => obtain ⟨σ7, H7, I7, n7⟩ := q7; exact again I7 n7
    | brk => obtain ⟨σ7, H7, I7, q7⟩ := q7; exact ⟨σ7, H7, I7.unpinned, q7⟩
    | ret v => obtain ⟨x7, σ7, H7, I7, r7, q7⟩ := q7; exact ⟨x7, σ7, H7, I7.unpinned, r7, q7⟩
end
theorem for_list {K : PySem.W.Frag} {a : Addr} {xs : List V} {g : TG} {tb : TS} {D : Ends} {σ : St} {H : Hp} (Pv : Nat → St → Hp → Prop) (h0 : Pv 0 σ H) (hl : ∀ i σ H, i ≤ xs.length → Pv i σ H → SqL K H a xs)
    (hs : ∀ i x σ H, xs[i]? = some x → Pv i σ H → g x σ H fun σ2 H2 => tb { D with nx := Pv (i + 1), ct := Pv (i + 1), bk := D.nx } σ2 H2) (hd : ∀ σ H, Pv xs.length σ H → D.nx σ H) :
    ∃ W : Nat → Nat → St → Hp → Prop, (∃ m, W 0 m σ H) ∧ ∀ i m σ H, W i m σ H →
      ((Itl K a).stop i H ∧ D.nx σ H) ∨ ((Itl K a).go i H ∧ ∃ N : St → Hp → Prop, (∀ σ' H', N σ' H' → ∃ m', m' < m ∧ W (i + 1) m' σ' H') ∧ ∀ x H', (Itl K a).yld i H x H' → g x σ H' fun σ2 H2 => tb { D with nx := N, ct := N, bk := D.nx } σ2 H2) := by
  refine ⟨fun i m σ H => m = xs.length - i ∧ i ≤ xs.length ∧ Pv i σ H, ⟨xs.length, by simp, Nat.zero_le _, h0⟩, ?_⟩
  rintro i m σ H ⟨rfl, hi, p⟩
  have q := hl i σ H hi p
  by_cases hlt : i < xs.length
  · refine .inr ⟨⟨xs, xs[i], q, by simp [hlt]⟩, Pv (i + 1), fun σ' H' p' => ⟨xs.length - (i + 1), by lia, rfl, hlt, p'⟩, fun x H' y => ?_⟩
    obtain ⟨e, y⟩ := y
    subst e
    exact hs i x σ _ (y xs q) p
  · have e : i = xs.length := by lia
    subst e
    exact .inl ⟨⟨xs, q, Nat.le_refl _⟩, hd σ H p⟩
theorem for_tup {K : PySem.W.Frag} {a : Addr} {xs : List V} {g : TG} {tb : TS} {D : Ends} {σ : St} {H : Hp} (Pv : Nat → St → Hp → Prop) (h0 : Pv 0 σ H) (hl : ∀ i σ H, i ≤ xs.length → Pv i σ H → SqT K H a xs)
    (hs : ∀ i x σ H, xs[i]? = some x → Pv i σ H → g x σ H fun σ2 H2 => tb { D with nx := Pv (i + 1), ct := Pv (i + 1), bk := D.nx } σ2 H2) (hd : ∀ σ H, Pv xs.length σ H → D.nx σ H) :
    ∃ W : Nat → Nat → St → Hp → Prop, (∃ m, W 0 m σ H) ∧ ∀ i m σ H, W i m σ H →
      ((Itt K a).stop i H ∧ D.nx σ H) ∨ ((Itt K a).go i H ∧ ∃ N : St → Hp → Prop, (∀ σ' H', N σ' H' → ∃ m', m' < m ∧ W (i + 1) m' σ' H') ∧ ∀ x H', (Itt K a).yld i H x H' → g x σ H' fun σ2 H2 => tb { D with nx := N, ct := N, bk := D.nx } σ2 H2) := by
  refine ⟨fun i m σ H => m = xs.length - i ∧ i ≤ xs.length ∧ Pv i σ H, ⟨xs.length, by simp, Nat.zero_le _, h0⟩, ?_⟩
  rintro i m σ H ⟨rfl, hi, p⟩
  have q := hl i σ H hi p
  by_cases hlt : i < xs.length
  · refine .inr ⟨⟨xs, xs[i], q, by simp [hlt]⟩, Pv (i + 1), fun σ' H' p' => ⟨xs.length - (i + 1), by lia, rfl, hlt, p'⟩, fun x H' y => ?_⟩
    obtain ⟨e, y⟩ := y
    subst e
    exact hs i x σ _ (y xs q) p
  · have e : i = xs.length := by lia
    subst e
    exact .inl ⟨⟨xs, q, Nat.le_refl _⟩, hd σ H p⟩
theorem for_range {lo : Int} {n : Nat} {g : TG} {tb : TS} {D : Ends} {σ : St} {H : Hp} (Pv : Nat → St → Hp → Prop) (h0 : Pv 0 σ H)
    (hs : ∀ i σ H, i < n → Pv i σ H → g (.int (lo + i)) σ H fun σ2 H2 => tb { D with nx := Pv (i + 1), ct := Pv (i + 1), bk := D.nx } σ2 H2) (hd : ∀ σ H, Pv n σ H → D.nx σ H) :
    ∃ W : Nat → Nat → St → Hp → Prop, (∃ m, W 0 m σ H) ∧ ∀ i m σ H, W i m σ H →
      ((Itr lo n).stop i H ∧ D.nx σ H) ∨ ((Itr lo n).go i H ∧ ∃ N : St → Hp → Prop, (∀ σ' H', N σ' H' → ∃ m', m' < m ∧ W (i + 1) m' σ' H') ∧ ∀ x H', (Itr lo n).yld i H x H' → g x σ H' fun σ2 H2 => tb { D with nx := N, ct := N, bk := D.nx } σ2 H2) := by
  refine ⟨fun i m σ H => m = n - i ∧ i ≤ n ∧ Pv i σ H, ⟨n, by simp, Nat.zero_le _, h0⟩, ?_⟩
  rintro i m σ H ⟨rfl, hi, p⟩
  by_cases hlt : i < n
  · refine .inr ⟨hlt, Pv (i + 1), fun σ' H' p' => ⟨n - (i + 1), by lia, rfl, hlt, p'⟩, fun x H' y => ?_⟩
    obtain ⟨e, y⟩ := y
    subst e y
    exact hs i σ _ hlt p
  · have e : i = n := by lia
    subst e
    exact .inl ⟨Nat.le_refl _, hd σ H p⟩
end L2
namespace L2
open PySem PySem.Spec PyProof.Rows
noncomputable abbrev R2 := V → V → Hp → VK → Prop
noncomputable def OpR (X : Cx) (f : Value → Value → Sem Value) (r : R2) : Prop :=
  ∀ (pins : List (Addr × Obj)) (s : Shared) (σ : St) (H : Hp) (x y : V) (v u : Value) (Q : VK), Inv X pins σ H s → RelV x v → RelV y u → r x y H Q →
    wpAny (model X.prog X.w) X.A (f v u) (EP X pins σ Q) X.xe s
noncomputable def UnR (X : Cx) (f : Value → Sem Value) (r : V → Hp → VK → Prop) : Prop :=
  ∀ (pins : List (Addr × Obj)) (s : Shared) (σ : St) (H : Hp) (x : V) (v : Value) (Q : VK), Inv X pins σ H s → RelV x v → r x H Q →
    wpAny (model X.prog X.w) X.A (f v) (EP X pins σ Q) X.xe s
noncomputable def CallR (X : Cx) (f : Value) (r : List V → Hp → VK → Prop) : Prop :=
  ∀ (pins : List (Addr × Obj)) (s : Shared) (σ : St) (H : Hp) (xs : List V) (us : List Value) (Q : VK), Inv X pins σ H s → Vals xs us → r xs H Q →
    wpAny (model X.prog X.w) X.A (call f us) (EP X pins σ Q) X.xe s
noncomputable def tOp (r : R2) (ta tb : TE) : TE := fun σ H Q => ta σ H fun x H1 => tb σ H1 fun y H2 => r x y H2 Q
noncomputable def tUn (r : V → Hp → VK → Prop) (ta : TE) : TE := fun σ H Q => ta σ H fun x H1 => r x H1 Q
inductive rI (C : Int → Int → Prop) (g : Int → Int → V) (x : V) (y : V) (H : Hp) (Q : VK) : Prop
  | mk (i : _) (j : _) (c0 : x = .int i) (c1 : y = .int j) (c2 : C i j) (c3 : Q (g i j) H) : rI C g x y H Q
inductive rI0 (g : Int → Int → V) (x : V) (y : V) (H : Hp) (Q : VK) : Prop
  | mk (i : _) (j : _) (c0 : x = .int i) (c1 : y = .int j) (c2 : Q (g i j) H) : rI0 g x y H Q
noncomputable def rU (g : Int → V) : V → Hp → VK → Prop := fun x H Q => ∃ i, x = .int i ∧ Q (g i) H
section
variable {X : Cx} {a b c : Expr} {ta tb tc : TE} {pos : Pos}
theorem binT (ha : PE X a ta) (hb : PE X b tb) {pins : List (Addr × Obj)} {s : Shared} {σ : St} {H : Hp} {R : V → V → Hp → Prop} (I : Inv X pins σ H s)
    (h : ta σ H fun x H1 => tb σ H1 fun y H2 => R x y H2) {Q : Value → Shared → Prop} {f : Value → Value → Sem Value}
    (hf : ∀ v u s2 x y H2, Inv X pins σ H2 s2 → RelV x v → RelV y u → R x y H2 → wpAny (model X.prog X.w) X.A (f v u) Q X.xe s2) :
    wpAny (model X.prog X.w) X.A (eval a X.env) (fun v s₁ => wpAny (model X.prog X.w) X.A (eval b X.env) (fun u s₂ => wpAny (model X.prog X.w) X.A (f v u) Q X.xe s₂) X.xe s₁) X.xe s := by
  refine thn (ha pins s σ H _ I h) fun v s1 hp0 => ?_
  obtain ⟨x, H1, I1, r1, q1⟩ := hp0
  refine thn (hb pins s1 σ H1 _ I1 q1) fun u s2 hp0 => ?_
  obtain ⟨y, H2, I2, r2, q2⟩ := hp0
  exact hf v u s2 x y H2 I2 r1 r2 q2
theorem pe_op {op : Operator} {r : R2} (ho : OpR X (binaryOp op) r) (ha : PE X a ta) (hb : PE X b tb) : PE X (.BinOp a op b pos) (tOp r ta tb) := by
  intro pins s σ H Q I h
  exact wpAny_BinOp (binT ha hb I h fun v u s2 x y H2 I2 rx ry q => ho pins s2 σ H2 x y v u Q I2 rx ry q)
theorem pe_un {op : UnaryOp} {r : V → Hp → VK → Prop} (ho : UnR X (unaryOp op) r) (ha : PE X a ta) : PE X (.UnaryOp op a pos) (tUn r ta) := by
  intro pins s σ H Q I h
  exact UnaryOp_ (thn (ha pins s σ H _ I h) fun v s1 hp0 => by obtain ⟨x, H1, I1, r1, q1⟩ := hp0; exact ho pins s1 σ H1 x v Q I1 r1 q1)
theorem opI {f : Value → Value → Sem Value} {C : Int → Int → Prop} {g : Int → Int → Int}
    (rule : ∀ (i j : Int) (t u : Tok) (s : Shared) (Q : Value → Shared → Prop) (E : Value → Shared → Prop), C i j → Q (.int (g i j) s.toks) { s with toks := s.toks + 1 } → wpAny (model X.prog X.w) X.A (f (.int i t) (.int j u)) Q E s) :
    OpR X f (rI C fun i j => .int (g i j)) := by
  intro pins s σ H x y v u Q I rx ry h
  obtain ⟨i, j, rfl, rfl, hc, q⟩ := h
  obtain ⟨t, rfl⟩ := rx
  obtain ⟨t', rfl⟩ := ry
  exact rule i j t t' s _ _ hc ⟨.int (g i j), H, I.tok _, ⟨_, rfl⟩, q⟩
theorem opI0 {f : Value → Value → Sem Value} {g : Int → Int → Int}
    (rule : ∀ (i j : Int) (t u : Tok) (s : Shared) (Q : Value → Shared → Prop) (E : Value → Shared → Prop), Q (.int (g i j) s.toks) { s with toks := s.toks + 1 } → wpAny (model X.prog X.w) X.A (f (.int i t) (.int j u)) Q E s) :
    OpR X f (rI0 fun i j => .int (g i j)) := by
  intro pins s σ H x y v u Q I rx ry h
  obtain ⟨i, j, rfl, rfl, q⟩ := h
  obtain ⟨t, rfl⟩ := rx
  obtain ⟨t', rfl⟩ := ry
  exact rule i j t t' s _ _ ⟨.int (g i j), H, I.tok _, ⟨_, rfl⟩, q⟩
theorem opB0 {f : Value → Value → Sem Value} {g : Int → Int → Bool}
    (rule : ∀ (i j : Int) (t u : Tok) (s : Shared) (Q : Value → Shared → Prop) (E : Value → Shared → Prop), Q (.bool (g i j)) s → wpAny (model X.prog X.w) X.A (f (.int i t) (.int j u)) Q E s) :
    OpR X f (rI0 fun i j => .bl (g i j)) := by
  intro pins s σ H x y v u Q I rx ry h
  obtain ⟨i, j, rfl, rfl, q⟩ := h
  obtain ⟨t, rfl⟩ := rx
  obtain ⟨t', rfl⟩ := ry
  exact rule i j t t' s _ _ ⟨.bl (g i j), H, I, rfl, q⟩
noncomputable def CDiv (i j : Int) : Prop := 0 < j ∧ j < 1073741824
noncomputable def CPow (i j : Int) : Prop := 0 ≤ j ∧ j ≤ 1000000 ∧ i.natAbs < 2 ^ 64
noncomputable def CMul (i j : Int) : Prop := (-(2 ^ 64) < i ∧ i < 2 ^ 64) ∨ (-(2 ^ 64) < j ∧ j < 2 ^ 64)
theorem CMul.ok {i j : Int} (h : CMul i j) : IntMulOk i j := by
  rcases h with ⟨h1, h2⟩ | ⟨h1, h2⟩
  · exact .of_left (intBits_le_64 h1 h2)
  · exact .of_right (intBits_le_64 h1 h2)
theorem op_add : OpR X (binaryOp .Add) (rI0 fun i j => .int (i + j)) := opI0 fun _ _ _ _ _ _ _ q => add_int q
theorem op_sub : OpR X (binaryOp .Sub) (rI0 fun i j => .int (i - j)) := opI0 fun _ _ _ _ _ _ _ q => sub_int q
theorem op_mul : OpR X (binaryOp .Mult) (rI CMul fun i j => .int (i * j)) := opI fun _ _ _ _ _ _ _ hc q => mul_int q hc.ok
theorem op_fdiv : OpR X (binaryOp .FloorDiv) (rI CDiv fun i j => .int (i / j)) := opI fun i j _ _ _ _ _ hc q => by
  have h1 : (0 : Int) < j := hc.1
  have h2 : j < 1073741824 := hc.2
  exact floordiv_int (by lia) (by rw [Int.fdiv_eq_ediv_of_nonneg i (by lia)]; exact q) (.inl (PyProof.noPylong_small (by lia)))
theorem op_mod : OpR X (binaryOp .Mod) (rI (fun _ j => 0 < j) fun i j => .int (i % j)) := opI fun i j _ _ _ _ _ hc q => by
  have h1 : (0 : Int) < j := hc
  exact mod_int' (by lia) (by rw [Int.fmod_eq_emod_of_nonneg i (by lia)]; exact q)
theorem op_pow : OpR X (binaryOp .Pow) (rI CPow fun i j => .int (i ^ j.toNat)) := opI fun _ _ _ _ _ _ _ hc q => pow_int_small hc.1 hc.2.1 hc.2.2 q
theorem unI {f : Value → Sem Value} {g : Int → Int}
    (rule : ∀ (i : Int) (t : Tok) (s : Shared) (Q : Value → Shared → Prop) (E : Value → Shared → Prop), Q (.int (g i) s.toks) { s with toks := s.toks + 1 } → wpAny (model X.prog X.w) X.A (f (.int i t)) Q E s) :
    UnR X f (rU fun i => .int (g i)) := by
  intro pins s σ H x v Q I rx h
  obtain ⟨i, rfl, q⟩ := h
  obtain ⟨t, rfl⟩ := rx
  exact rule i t s _ _ ⟨.int (g i), H, I.tok _, ⟨_, rfl⟩, q⟩
theorem un_neg : UnR X (unaryOp .USub) (rU fun i => .int (-i)) := unI fun _ _ _ _ _ q => neg_int q
end
noncomputable def scal : V → V → Bool
  | .non, .non => true | .non, .int _ => true | .int _, .non => true | .non, .bl _ => true | .bl _, .non => true | .non, .str _ => true | .str _, .non => true
  | .int _, .int _ => true | .bl _, .bl _ => true | .str _, .str _ => true | .byt _, .byt _ => true
  | .int _, .str _ => true | .str _, .int _ => true | .bl _, .str _ => true | .str _, .bl _ => true
  | _, _ => false
noncomputable def rEq : R2 := fun x y H Q => scal x y = true ∧ Q (.bl (decide (x = y))) H
noncomputable def rNe : R2 := fun x y H Q => scal x y = true ∧ Q (.bl (!decide (x = y))) H
theorem dec_int {i j : Int} : decide (V.int i = V.int j) = (i == j) := by
  rw [Bool.eq_iff_iff]
  simp
theorem dec_bl {i j : Bool} : decide (V.bl i = V.bl j) = (i == j) := by
  rw [Bool.eq_iff_iff]
  simp
theorem dec_str {i j : Str} : decide (V.str i = V.str j) = (i == j) := by
  rw [Bool.eq_iff_iff]
  simp
theorem dec_byt {i j : Array UInt8} : decide (V.byt i = V.byt j) = (i.toList == j.toList) := by
  rw [Bool.eq_iff_iff]
  cases i
  cases j
  simp
section
variable {X : Cx} {a b c : Expr} {ta tb tc : TE} {pos : Pos}
theorem fin_bl {pins : List (Addr × Obj)} {σ : St} {H : Hp} {s : Shared} {Q : VK} {k k' : Bool} (I : Inv X pins σ H s) (q : Q (.bl k) H) (e : k = k') : EP X pins σ Q (.bool k') s := by
  subst e
  exact ⟨.bl k, H, I, rfl, q⟩
theorem op_eq : OpR X (compareOp .Eq) rEq := by
  intro pins s σ H x y v u Q I rx ry h
  obtain ⟨hs, q⟩ := h
  cases x with
  | non =>
    cases rx
    cases y with
    | non => cases ry; exact PySem.EqNone.eq_none_none (fin_bl I q (by simp))
    | bl j => cases ry; exact PySem.EqNone.eq_none_bool (fin_bl I q (by simp))
    | int j => obtain ⟨t', rfl⟩ := ry; exact PySem.EqNone.eq_none_int (fin_bl I q (by simp))
    | str j => obtain ⟨t', rfl⟩ := ry; exact PySem.EqNone.eq_none_str (fin_bl I q (by simp))
    | _ => exact absurd (show false = true from hs) Bool.false_ne_true
  | bl i =>
    cases rx
    cases y with
    | non => cases ry; exact PySem.EqNone.eq_bool_none (fin_bl I q (by simp))
    | bl j => cases ry; exact eq_bool (fin_bl I q dec_bl)
    | str j => obtain ⟨t', rfl⟩ := ry; exact PySem.EqMixed.eq_bool_str (fin_bl I q (by simp))
    | _ => exact absurd (show false = true from hs) Bool.false_ne_true
  | int i =>
    obtain ⟨t, rfl⟩ := rx
    cases y with
    | non => cases ry; exact PySem.EqNone.eq_int_none (fin_bl I q (by simp))
    | int j => obtain ⟨t', rfl⟩ := ry; exact eq_int (fin_bl I q dec_int)
    | str j => obtain ⟨t', rfl⟩ := ry; exact PySem.EqMixed.eq_int_str (fin_bl I q (by simp))
    | _ => exact absurd (show false = true from hs) Bool.false_ne_true
  | str i =>
    obtain ⟨t, rfl⟩ := rx
    cases y with
    | non => cases ry; exact PySem.EqNone.eq_str_none (fin_bl I q (by simp))
    | bl j => cases ry; exact PySem.EqMixed.eq_str_bool (fin_bl I q (by simp))
    | int j => obtain ⟨t', rfl⟩ := ry; exact PySem.EqMixed.eq_str_int (fin_bl I q (by simp))
    | str j => obtain ⟨t', rfl⟩ := ry; exact eq_str (fin_bl I q dec_str)
    | _ => exact absurd (show false = true from hs) Bool.false_ne_true
  | byt i =>
    obtain ⟨t, rfl⟩ := rx
    cases y with
    | byt j => obtain ⟨t', rfl⟩ := ry; exact PySem.W.eq_bytes (fin_bl I q dec_byt)
    | _ => exact absurd (show false = true from hs) Bool.false_ne_true
  | _ => cases y <;> exact absurd (show false = true from hs) Bool.false_ne_true
theorem op_ne : OpR X (compareOp .NotEq) rNe := by
  intro pins s σ H x y v u Q I rx ry h
  obtain ⟨hs, q⟩ := h
  cases x with
  | non =>
    cases rx
    cases y with
    | non => cases ry; exact PySem.EqNone.ne_none_none (fin_bl I q (by simp))
    | bl j => cases ry; exact PySem.EqNone.ne_none_bool (fin_bl I q (by simp))
    | int j => obtain ⟨t', rfl⟩ := ry; exact PySem.EqNone.ne_none_int (fin_bl I q (by simp))
    | str j => obtain ⟨t', rfl⟩ := ry; exact PySem.EqNone.ne_none_str (fin_bl I q (by simp))
    | _ => exact absurd (show false = true from hs) Bool.false_ne_true
  | bl i =>
    cases rx
    cases y with
    | non => cases ry; exact PySem.EqNone.ne_bool_none (fin_bl I q (by simp))
    | bl j => cases ry; exact ne_bool (fin_bl I q (congrArg not dec_bl))
    | str j => obtain ⟨t', rfl⟩ := ry; exact PySem.EqMixed.ne_bool_str (fin_bl I q (by simp))
    | _ => exact absurd (show false = true from hs) Bool.false_ne_true
  | int i =>
    obtain ⟨t, rfl⟩ := rx
    cases y with
    | non => cases ry; exact PySem.EqNone.ne_int_none (fin_bl I q (by simp))
    | int j => obtain ⟨t', rfl⟩ := ry; exact ne_int (fin_bl I q (congrArg not dec_int))
    | str j => obtain ⟨t', rfl⟩ := ry; exact PySem.EqMixed.ne_int_str (fin_bl I q (by simp))
    | _ => exact absurd (show false = true from hs) Bool.false_ne_true
  | str i =>
    obtain ⟨t, rfl⟩ := rx
    cases y with
    | non => cases ry; exact PySem.EqNone.ne_str_none (fin_bl I q (by simp))
    | bl j => cases ry; exact PySem.EqMixed.ne_str_bool (fin_bl I q (by simp))
    | int j => obtain ⟨t', rfl⟩ := ry; exact PySem.EqMixed.ne_str_int (fin_bl I q (by simp))
    | str j => obtain ⟨t', rfl⟩ := ry; exact ne_str (fin_bl I q (congrArg not dec_str))
    | _ => exact absurd (show false = true from hs) Bool.false_ne_true
  | byt i =>
    obtain ⟨t, rfl⟩ := rx
    cases y with
    | byt j => obtain ⟨t', rfl⟩ := ry; exact PySem.W.ne_bytes (fin_bl I q (congrArg not dec_byt))
    | _ => exact absurd (show false = true from hs) Bool.false_ne_true
  | _ => cases y <;> exact absurd (show false = true from hs) Bool.false_ne_true
theorem op_lt : OpR X (compareOp .Lt) (rI0 fun i j => .bl (decide (i < j))) := opB0 fun _ _ _ _ _ _ _ q => lt_int q
theorem op_gt : OpR X (compareOp .Gt) (rI0 fun i j => .bl (decide (j < i))) := opB0 fun _ _ _ _ _ _ _ q => gt_int q
theorem op_in_str : OpR X (compareOp .In) (fun x y H Q => ∃ i j, x = .str i ∧ y = .str j ∧ Q (.bl (!(Builtin.Str.occurrences j i 0 j.length 1).isEmpty)) H) := by
  intro pins s σ H x y v u Q I rx ry h
  obtain ⟨i, j, rfl, rfl, q⟩ := h
  obtain ⟨t, rfl⟩ := rx
  obtain ⟨t', rfl⟩ := ry
  exact in_str (fin_bl I q rfl)
theorem op_isN : OpR X (compareOp .Is) (fun x y H Q => y = .non ∧ Q (.bl (decide (x = .non))) H) := by
  intro pins s σ H x y v u Q I rx ry h
  obtain ⟨rfl, q⟩ := h
  cases ry
  refine is_none_gen (fin_bl I q ?_)
  cases x <;> first
    | (cases rx; rfl)
    | (obtain ⟨t, rfl⟩ := rx; rfl)
theorem op_notN : OpR X (compareOp .IsNot) (fun x y H Q => y = .non ∧ Q (.bl (!decide (x = .non))) H) := by
  intro pins s σ H x y v u Q I rx ry h
  obtain ⟨rfl, q⟩ := h
  cases ry
  refine isnot_none_gen (fin_bl I q ?_)
  cases x <;> first
    | (cases rx; rfl)
    | (obtain ⟨t, rfl⟩ := rx; rfl)
theorem nomark (b : Expr) {op : CmpOp} (h : op ≠ .In := by decide) (h2 : op ≠ .NotIn := by decide) : behindInMarks op b = false := by
  have e1 : (op == CmpOp.In) = false := by cases op <;> first | rfl | exact absurd rfl h
  have e2 : (op == CmpOp.NotIn) = false := by cases op <;> first | rfl | exact absurd rfl h2
  cases b <;> simp [behindInMarks, e1, e2]
theorem pe_cmpR {op : CmpOp} {r : R2} (ho : OpR X (compareOp op) r) (ha : PE X a ta) (hb : PE X b tb) (hm : behindInMarks op b = false) : PE X (.Compare a [op] [b] pos) (tOp r ta tb) := by
  intro pins s σ H Q I h
  exact wpAny_Compare1 (binT ha hb I h fun v u s2 x y H2 I2 rx ry q => ho pins s2 σ H2 x y v u Q I2 rx ry q) hm
inductive isB (Q : Bool → Hp → Prop) (x : V) (H' : Hp) : Prop
  | mk (k : _) (c0 : x = .bl k) (c1 : Q k H') : isB Q x H'
noncomputable def tTest (t : TE) : TT := fun σ H Q => t σ H fun x H' => isB Q x H'
theorem pt_cmpR {op : CmpOp} {r : R2} (ho : OpR X (compareOp op) r) (ha : PE X a ta) (hb : PE X b tb) (hm : behindInMarks op b = false) : PT X (.Compare a [op] [b] pos) (tTest (tOp r ta tb)) := by
  intro pins s σ H Q I h
  refine wpAny_isTrue_Compare1 (thn (ha pins s σ H _ I h) fun v s1 ⟨x, H1, I1, r1, q1⟩ => thn (hb pins s1 σ H1 _ I1 q1) fun u s2 ⟨y, H2, I2, r2, q2⟩ =>
    thn (ho pins s2 σ H2 x y v u _ I2 r1 r2 q2) fun c s3 ⟨z, H3, I3, r3, k, e, q3⟩ => ?_) hm
  subst e
  cases r3
  exact wpAny_truthy_bool ⟨H3, I3, q3⟩
theorem line63 : (sizeLine : Nat) < 2 ^ 63 := by rw [sizeLine_eq]; decide
inductive rAddS (x y : V) (H : Hp) (Q : VK) : Prop
  | mk (i : _) (j : _) (c0 : x = .str i) (c1 : y = .str j) (c2 : i.length + j.length ≤ sizeLine) (c3 : Q (.str (i ++ j)) H) : rAddS x y H Q
theorem op_add_str : OpR X (binaryOp .Add) rAddS := by
  intro pins s σ H x y v u Q I rx ry h
  obtain ⟨i, j, rfl, rfl, hz, q⟩ := h
  obtain ⟨t, rfl⟩ := rx
  obtain ⟨t', rfl⟩ := ry
  exact add_str (fun t' tk => ⟨.str (i ++ j), H, I.tok _, ⟨_, rfl⟩, q⟩) hz
theorem vals1 {x : V} {us : List Value} (r : Vals [x] us) : ∃ u, us = [u] ∧ RelV x u := by
  cases r with
  | cons r1 r2 => cases r2; exact ⟨_, rfl, r1⟩
theorem vals2 {x y : V} {us : List Value} (r : Vals [x, y] us) : ∃ u w', us = [u, w'] ∧ RelV x u ∧ RelV y w' := by
  cases r with
  | cons r1 r2 =>
    cases r2 with
    | cons r3 r4 => cases r4; exact ⟨_, _, rfl, r1, r3⟩
theorem call_int1 : CallR X (.type "int") (fun xs H Q => (∃ i, xs = [.int i] ∧ Q (.int i) H) ∨ ∃ k, xs = [.bl k] ∧ Q (.int (if k then 1 else 0)) H) := by
  intro pins s σ H xs us Q I r h
  rcases h with ⟨i, rfl, q⟩ | ⟨k, rfl, q⟩
  · obtain ⟨u, rfl, t, rfl⟩ := vals1 r
    exact call_int_int ⟨.int i, H, I, ⟨_, rfl⟩, q⟩
  · obtain ⟨u, rfl, r1⟩ := vals1 r
    cases r1
    exact call_int_bool ⟨.int (if k then 1 else 0), H, I.tok _, ⟨_, rfl⟩, q⟩
noncomputable def LenV (K : PySem.W.Frag) (x : V) (H : Hp) (n : Nat) : Prop :=
  match x with
  | .str y => y.length ≤ sizeLine ∧ n = y.length
  | .byt y => y.size ≤ sizeLine ∧ n = y.size
  | .ref p => (∃ xs, SqL K H p xs ∧ n = xs.length) ∨ ∃ xs, SqT K H p xs ∧ n = xs.length
  | _ => False
inductive rLen (K : PySem.W.Frag) (xs : List V) (H : Hp) (Q : VK) : Prop
  | mk (x : _) (n : _) (c0 : xs = [x]) (c1 : LenV K x H n) (c2 : Q (.int n) H) : rLen K xs H Q
theorem call_len : CallR X (.builtin "len") (rLen X.K) := by
  intro pins s σ H xs us Q I r h
  obtain ⟨x, n, rfl, e, q⟩ := h
  obtain ⟨u, rfl, rx⟩ := vals1 r
  have hl := line63
  have hs : sizeLine = 16777216 := sizeLine_eq
  cases x with
  | str y =>
    obtain ⟨t, rfl⟩ := rx
    obtain ⟨hy, e'⟩ : y.length ≤ sizeLine ∧ n = y.length := e
    subst e'
    exact len_str (by lia) ⟨.int _, H, I.tok _, ⟨_, rfl⟩, q⟩
  | byt y =>
    obtain ⟨t, rfl⟩ := rx
    obtain ⟨hy, e'⟩ : y.size ≤ sizeLine ∧ n = y.size := e
    subst e'
    exact PySem.W.len_bytes (by lia) ⟨.int _, H, I.tok _, ⟨_, rfl⟩, q⟩
  | ref p =>
    cases rx
    have e' : (∃ xs, SqL X.K H p xs ∧ n = xs.length) ∨ ∃ xs, SqT X.K H p xs ∧ n = xs.length := e
    rcases e' with ⟨xs, hx, e'⟩ | ⟨xs, hx, e'⟩
    · subst e'
      obtain ⟨its, r', pl, hz⟩ := I.list hx
      have hlen := r'.length
      exact Calls.call_len_list pl.isList (by simp only [List.size_toArray]; lia) ⟨.int xs.length, H, I.tok _, ⟨_, by simp only [List.size_toArray]; rw [hlen]⟩, q⟩
    · subst e'
      obtain ⟨its, r', pl, hz⟩ := I.tuple hx
      have hlen := r'.length
      exact len_tuple pl (by simp only [List.size_toArray]; lia) ⟨.int xs.length, H, I.tok _, ⟨_, by simp only [List.size_toArray]; rw [hlen]⟩, q⟩
  | _ => exact (show False from e).elim
end
end L2
namespace L2
open PySem PySem.Spec PyProof.Rows
structure ObjM (h : Heap) (x dx C : Addr) (mA : Str → Option Value) : Prop where
  obj : h.get? x = some (PySem.W.instObj C dx)
  ns : h.Ns1 dx mA
  ne : dx ≠ x
theorem lookIn_ns {h : Heap} {dx : Addr} {mA : Str → Option Value} (n : h.Ns1 dx mA) : ∃ od, h.get? dx = some od ∧ ∀ name, PySem.W.lookIn name od = some (mA name) := by
  obtain ⟨o, es, ep, ho, hd, hk, _, hm⟩ := n
  refine ⟨o, ho, fun name => ?_⟩
  have e := hm name
  unfold nsFind findBy at e
  rw [← Array.find?_toList] at e
  unfold PySem.W.lookIn
  rw [hd]
  dsimp only
  split
  · rename_i y q
    rw [q] at e
    exact congrArg some e
  · rename_i q
    rw [q] at e
    have a : es.toList.any (·.refKey) = false := by
      rw [List.any_eq_false]
      intro y hy
      obtain ⟨z, t, hkey⟩ := hk y (Array.mem_toList_iff.mp hy)
      simp [DictEntry.refKey, hkey]
    have a' : ¬ es.toList.any (·.refKey) = true := by rw [a]; exact Bool.false_ne_true
    rw [if_neg a']
    exact congrArg some e
theorem ObjM.look {h : Heap} {x dx C : Addr} {mA : Str → Option Value} (I : ObjM h x dx C mA) : ∃ od, PySem.W.InstAt h x (PySem.W.instObj C dx) C (some od) ∧ ∀ name, PySem.W.lookIn name od = some (mA name) :=
  let ⟨od, ho, hl⟩ := lookIn_ns I.ns
  ⟨od, ⟨I.obj, rfl, rfl, ho⟩, hl⟩
section
variable {prog : Program} {w : World} {A : Around} {E : Value → Shared → Prop} {s : Shared} {K : PySem.W.Frag} {x dx C f : Addr} {mA : Str → Option Value} {name : Str} {v : Value}
theorem get_map {expr : Bool} {Q : Value → Shared → Prop} (X : K.In s.heap) (I : ObjM s.heap x dx C mA) (hg : PySem.W.plainGet K C name = true) (hh : PySem.W.hasDictIn K C = true)
    (ha : PySem.W.findIn K (.ref C) name = some none) (hv : mA name = some v) (hv' : PySem.W.handedIn v = true) (h : Q v { s with toks := s.toks + 1 }) :
    wpAny (model prog w) A (getAttr (.ref x) name expr) Q E s := by
  obtain ⟨od, J, hl⟩ := I.look
  exact PySem.W.get_value X J (PySem.W.plainGet_of hg).1 (PySem.W.findObj_own hh ha rfl (by rw [hl, hv])) hv' h
theorem get_meth {pl : Sem Bool} {Q : Value × List Value → Shared → Prop} (X : K.In s.heap) (I : ObjM s.heap x dx C mA) (hg : PySem.W.plainGet K C name = true)
    (hf : PySem.W.findIn K (.ref C) name = some (some (.ref f))) (ht : PySem.W.isFn K (.ref f) = true) (hv : mA name = none) (h : Q (.ref f, [.ref x]) s) :
    wpAny (model prog w) A (getMethod (.ref x) name pl) Q E s := by
  obtain ⟨od, J, hl⟩ := I.look
  exact PySem.W.method_fn X J (PySem.W.plainGet_of hg).1 (PySem.W.plainGet_of hg).2 hf (beq_iff_eq.mp ht) (by show (PySem.W.lookIn name od).map (·.isSome) = some false; rw [hl, hv]; rfl) h
theorem set_map {ns : List Str} {Q : Unit → Shared → Prop} (X : K.In s.heap) (I : ObjM s.heap x dx C mA)
    (hs : PySem.W.findIn K (.ref C) "__setattr__" = some (some (.builtin "object.__setattr__"))) (hp : PySem.W.plainOver K C = true) (ht : PySem.W.takerIn K C name = some none) (hh : PySem.W.hasDictIn K C = true)
    (hw : PySem.Within mA ns) (hsz : ns.length ≤ sizeLine)
    (h : ∀ h', ObjM h' x dx C (fun y => if y = name then some v else mA y) → Heap.SameBut dx s.heap h' → Q () { s with heap := h', toks := s.toks + 2 }) :
    wpAny (model prog w) A (setAttr (.ref x) name v) Q E s := by
  obtain ⟨od, J, hl⟩ := I.look
  refine PySem.W.set_plain X J hs (PySem.W.osa_open (s := { s with toks := s.toks + 1 }) (r := none) X J hp ht fun b => ?_)
  obtain ⟨cd, hc, hd'⟩ := PySem.W.any_some hh
  have hx : s.heap.get? x = some ⟨.ref C, some dx, .plain, #[]⟩ := I.obj
  refine wpAny_bind (wpAny_pure (wpAny_bind (wpAny_bind (wpAny_loadPart hx (wpAny_bind (PySem.W.Looks.here (s := { s with toks := s.toks + 1 }) (PySem.W.looks_clsIn X hc) ?_))))))
  rw [hd']
  refine wpAny_pure (a := some dx) (wpAny_bind (wpAny_pure (wpAny_bind ?_)))
  refine wpAny_nsSet1 (s := { s with toks := s.toks + 1 }) I.ns fun h' hn2 hs2 => ?_
  obtain ⟨oD, esD, epD, hoD, hdD, hcD⟩ := hn2.count (PySem.Within.cons name v hw)
  refine wpAny_bind (wpAny_lookBehind hoD (by rw [hdD]; exact pastItsLine_dict (Nat.le_trans hcD (by rw [List.length_cons]; lia))) ?_)
  exact wpAny_pure (h _ ⟨(hs2.2 _ (Ne.symm I.ne)).trans I.obj, hn2, I.ne⟩ hs2)
theorem make_map {R : Result → Shared → Prop} {vs : List Value} {kw : List (Str × Value)} (X : K.In s.heap) (hm : PySem.W.makesIn K C = true)
    (hi : PySem.W.findIn K (.ref C) "__init__" = some (some (.ref f))) (hf : PySem.W.typeIn K (.ref f) = some (.type "function"))
    (h : codeAny (model prog w) (A.under (.builtin "type.__call__" ⟨.ref C :: vs, kw⟩)) (.call (.ref f) ⟨.ref (s.heap.objs.size + 1) :: vs, kw⟩) (PySem.W.InitBack (s.heap.objs.size + 1) R)
      { s with heap := (s.heap.push PySem.W.emptyDict).push (PySem.W.instObj C s.heap.objs.size) }) :
    codeAny (model prog w) A (.call (.ref C) ⟨vs, kw⟩) R s := by
  obtain ⟨hh, g, d, t, os⟩ := s
  exact PySem.W.make_core (PySem.W.makes_of X hm) (PySem.W.looks_findIn X hi) (fun self => PySem.W.bind_fn X self hf) (.inl rfl) h
end
noncomputable def putF (f : Str) (v : V) : List (Str × V) → List (Str × V)
  | [] => [(f, v)]
  | (g, x) :: r => if g = f then (g, v) :: r else (g, x) :: putF f v r
theorem lookup_putF (f g : Str) (v : V) : ∀ fs : List (Str × V), (putF f v fs).lookup g = if g = f then some v else fs.lookup g
  | [] => by
    show List.lookup g [(f, v)] = _
    by_cases h : g = f
    · have hb : (g == f) = true := beq_iff_eq.mpr h
      simp only [List.lookup, hb, if_pos h]
    · have hb : (g == f) = false := beq_eq_false_iff_ne.mpr h
      simp only [List.lookup, hb, if_neg h]
  | (k, x) :: r => by
    have ih := lookup_putF f g v r
    rw [show putF f v ((k, x) :: r) = (if k = f then (k, v) :: r else (k, x) :: putF f v r) from rfl]
    by_cases hk : k = f
    · rw [if_pos hk]
      by_cases h : g = k
      · have hb : (g == k) = true := beq_iff_eq.mpr h
        simp only [List.lookup, hb, if_pos (h.trans hk)]
      · have hb : (g == k) = false := beq_eq_false_iff_ne.mpr h
        simp only [List.lookup, hb, if_neg (fun e : g = f => h (e.trans hk.symm))]
    · rw [if_neg hk]
      by_cases h : g = k
      · have hb : (g == k) = true := beq_iff_eq.mpr h
        simp only [List.lookup, hb, if_neg (fun e : g = f => hk (h.symm.trans e))]
      · have hb : (g == k) = false := beq_eq_false_iff_ne.mpr h
        simp only [List.lookup, hb]
        exact ih
theorem keys_putF (f : Str) (v : V) : ∀ fs : List (Str × V), f ∈ (putF f v fs).map (·.1) ∧ ∀ g, g ∈ fs.map (·.1) → g ∈ (putF f v fs).map (·.1)
  | [] => ⟨by simp [putF], fun g h => by simp at h⟩
  | (k, x) :: r => by
    obtain ⟨i1, i2⟩ := keys_putF f v r
    rw [show putF f v ((k, x) :: r) = (if k = f then (k, v) :: r else (k, x) :: putF f v r) from rfl]
    by_cases hk : k = f
    · rw [if_pos hk]
      subst hk
      exact ⟨by simp, fun g h => by simpa using h⟩
    · rw [if_neg hk]
      refine ⟨?_, fun g h => ?_⟩
      · rw [List.map_cons]
        exact List.mem_cons_of_mem _ i1
      · rw [List.map_cons] at h ⊢
        rcases List.mem_cons.mp h with e | e
        · exact List.mem_cons.mpr (.inl e)
        · exact List.mem_cons_of_mem _ (i2 g e)
theorem length_putF (f : Str) (v : V) : ∀ fs : List (Str × V), (putF f v fs).length ≤ fs.length + 1
  | [] => by simp [putF]
  | (k, x) :: r => by
    have ih := length_putF f v r
    rw [show putF f v ((k, x) :: r) = (if k = f then (k, v) :: r else (k, x) :: putF f v r) from rfl]
    by_cases hk : k = f
    · rw [if_pos hk, List.length_cons, List.length_cons]; lia
    · rw [if_neg hk, List.length_cons, List.length_cons]; lia
theorem RelO.some_of {v : V} {o : Option Value} (r : RelO (some v) o) : ∃ u, o = some u ∧ RelV v u := by
  cases o with
  | none => exact (show False from r).elim
  | some u => exact ⟨u, rfl, r⟩
theorem RelO.none_of {o : Option Value} (r : RelO none o) : o = none := by
  cases o with
  | none => rfl
  | some u => exact (show False from r).elim
theorem handed_of {v : V} {u : Value} (r : RelV v u) : PySem.W.handedIn u = true := by
  cases v with
  | non => cases (show u = Value.none from r); rfl
  | bl b => cases (show u = Value.bool b from r); rfl
  | int i => obtain ⟨t, e⟩ := (show ∃ t, u = Value.int i t from r); cases e; rfl
  | str x => obtain ⟨t, e⟩ := (show ∃ t, u = Value.str x t from r); cases e; rfl
  | byt b => obtain ⟨t, e⟩ := (show ∃ t, u = Value.bytes b t from r); cases e; rfl
  | flt b => obtain ⟨t, e⟩ := (show ∃ t, u = Value.float b t from r); cases e; rfl
  | ref a => cases (show u = Value.ref a from r); rfl
  | ty n => cases (show u = Value.type n from r); rfl
section
variable {P : Program} {w : World} {H H' : Hp} {h h' : Heap} {a C dx : Addr} {fs fs' : List (Str × V)}
theorem ins_get (hok : HOk P w H h) (e : H a = some (.ins C dx fs)) : ∃ mA, ObjM h a dx C mA ∧ (∀ f, RelO (fs.lookup f) (mA f)) ∧ PySem.Within mA (fs.map (·.1)) ∧ fs.length ≤ 1000 ∧ H dx = some (.own a) := by
  obtain ⟨d, z, ne, ob, mA, n, r, q⟩ := (show ObjOk P w H h a (.ins C dx fs) from hok a _ e)
  exact ⟨mA, ⟨ob, n, ne⟩, r, q, z, d⟩
end
structure Cls (K : PySem.W.Frag) (C : Addr) : Prop where
  pg : PySem.W.plainGet K C Str.empty = true
  hd : PySem.W.hasDictIn K C = true
  po : PySem.W.plainOver K C = true
  sa : PySem.W.findIn K (.ref C) "__setattr__" = some (some (.builtin "object.__setattr__"))
theorem Cls.get {K : PySem.W.Frag} {C : Addr} (c : Cls K C) (f : Str) : PySem.W.plainGet K C f = true := c.pg
noncomputable def NoAttr (K : PySem.W.Frag) (C : Addr) (f : Str) : Prop := PySem.W.findIn K (.ref C) f = some none
theorem NoAttr.taker {K : PySem.W.Frag} {C : Addr} {f : Str} (n : NoAttr K C f) : PySem.W.takerIn K C f = some none := by
  unfold PySem.W.takerIn
  rw [show PySem.W.findIn K (.ref C) f = some none from n]
  rfl
structure Meth (K : PySem.W.Frag) (C : Addr) (m : Str) (f : Addr) : Prop where
  at_ : PySem.W.findIn K (.ref C) m = some (some (.ref f))
  fn : PySem.W.isFn K (.ref f) = true
  kp : PySem.W.keepIn K (.ref f) = true
section
variable {X : Cx} {pins : List (Addr × Obj)} {σ : St} {H : Hp} {s : Shared} {a C dx : Addr} {fs : List (Str × V)} {f : Str} {v : V} {A : Around} {E : Value → Shared → Prop}
theorem getattr_ok {b : Bool} {Q : Value → Shared → Prop} (I : Inv X pins σ H s) (e : H a = some (.ins C dx fs)) (c : Cls X.K C) (n : NoAttr X.K C f) (l : fs.lookup f = some v)
    (h : ∀ u s', Inv X pins σ H s' → RelV v u → Q u s') : wpAny (model X.prog X.w) A (getAttr (.ref a) f b) Q E s := by
  obtain ⟨mA, O, r, _, _, _⟩ := ins_get I.hok e
  obtain ⟨u, hu, ru⟩ := RelO.some_of (v := v) (o := mA f) (by rw [← l]; exact r f)
  exact get_map I.kIn O (c.get f) c.hd n hu (handed_of ru) (h u _ (I.tok _) ru)
theorem getmeth_ok {m : Str} {g : Addr} {pl : Sem Bool} {Q : Value × List Value → Shared → Prop} (I : Inv X pins σ H s) (e : H a = some (.ins C dx fs)) (c : Cls X.K C) (k : Meth X.K C m g) (l : fs.lookup m = none)
    (h : Q (.ref g, [.ref a]) s) : wpAny (model X.prog X.w) A (getMethod (.ref a) m pl) Q E s := by
  obtain ⟨mA, O, r, _, _, _⟩ := ins_get I.hok e
  have hn : mA m = none := RelO.none_of (by rw [← l]; exact r m)
  exact get_meth I.kIn O (c.get m) k.at_ k.fn hn h
theorem setattr_ok {y : V} {u : Value} {Q : Unit → Shared → Prop} (I : Inv X pins σ H s) (e : H a = some (.ins C dx fs)) (c : Cls X.K C) (n : NoAttr X.K C f) (hl : fs.length < 1000) (ry : RelV y u)
    (h : ∀ s', Inv X pins σ (upd H a (.ins C dx (putF f y fs))) s' → Q () s') : wpAny (model X.prog X.w) A (setAttr (.ref a) f u) Q E s := by
  obtain ⟨mA, O, r, wi, _, ho⟩ := ins_get I.hok e
  have hz : (fs.map (·.1)).length ≤ sizeLine := by rw [List.length_map, sizeLine_eq]; lia
  refine set_map I.kIn O c.sa c.po n.taker c.hd wi hz fun h' O' sb => h _ ?_
  have hd : ∃ o, h'.get? dx = some o := let ⟨o, _, _, e', _⟩ := O'.ns; ⟨o, e'⟩
  refine I.write (x := a) (e := dx) (by rw [e]; exact True.intro) (.inr ho) (fun b q hb z => (sb.2 b hb).trans z) hd ?_
  refine ⟨by rw [upd_ne O.ne]; exact ho, ?_, O.ne, O'.obj, _, O'.ns, fun g => ?_, fun g hg => ?_⟩
  · have := length_putF f y fs; lia
  · show RelO ((putF f y fs).lookup g) (if g = f then some u else mA g)
    rw [lookup_putF]
    by_cases q : g = f
    · rw [if_pos q, if_pos q]; exact ry
    · rw [if_neg q, if_neg q]; exact r g
  · by_cases q : g = f
    · rw [q]; exact (keys_putF f y fs).1
    · refine (keys_putF f y fs).2 g (wi g fun z => hg ?_)
      show (if g = f then some u else mA g) = none
      rw [if_neg q]; exact z
theorem Inv.made (I : Inv X pins σ H s) : Inv X pins σ (upd (upd H s.heap.objs.size (.own (s.heap.objs.size + 1))) (s.heap.objs.size + 1) (.ins C s.heap.objs.size []))
    { s with heap := (s.heap.push PySem.W.emptyDict).push (PySem.W.instObj C s.heap.objs.size) } := by
  have e1 : (s.heap.push PySem.W.emptyDict).get? s.heap.objs.size = some PySem.W.emptyDict := Heap.get?_push_size s.heap rfl
  have e2 : ((s.heap.push PySem.W.emptyDict).push (PySem.W.instObj C s.heap.objs.size)).get? (s.heap.objs.size + 1) = some (PySem.W.instObj C s.heap.objs.size) := by
    have := Heap.get?_push_size (s.heap.push PySem.W.emptyDict) (o := PySem.W.instObj C s.heap.objs.size) rfl
    rwa [Heap.size_push] at this
  have e3 : (s.heap.push PySem.W.emptyDict).Ns s.heap.objs.size (fun _ => none) := ⟨PySem.W.emptyDict, #[], _, e1, rfl, (fun e he => absurd he (by simp)), fun _ => rfl⟩
  have I1 := I.laid (a := s.heap.objs.size) (o := .own (s.heap.objs.size + 1)) (h' := s.heap.push PySem.W.emptyDict) (t' := s.toks) (fun b u q => Heap.get?_push_of_some _ q) (Nat.le_refl _) ⟨_, e1⟩
  refine I1.laid (a := s.heap.objs.size + 1) (o := .ins C s.heap.objs.size []) (t' := s.toks) (fun b u q => Heap.get?_push_of_some _ q) (Nat.le_of_eq (Heap.size_push _ _)) ?_
  have ne : s.heap.objs.size ≠ s.heap.objs.size + 1 := Nat.ne_of_lt (Nat.lt_succ_self _)
  refine ⟨by rw [upd_ne ne, upd_same], Nat.zero_le _, ne, e2, fun _ => none, (Heap.Ns1.of_empty e3).at fun o q => Heap.get?_push_of_some _ q, fun _ => True.intro, fun y hy => absurd rfl hy⟩
theorem attr_of {prog : Program} {w : World} {env : Env} {e : Expr} {f : Str} {pos : Pos} {s : Shared} {Q : Value → Shared → Prop} (hb : attributeBase e f env (eval e env) = eval e env)
    (h : wpAny (model prog w) A (eval e env) (fun o s₁ => wpAny (model prog w) A (getAttr o f true) Q E s₁) E s) : wpAny (model prog w) A (eval (.Attribute e f pos) env) Q E s :=
  Attribute_any_ h (by rw [arm_eval_Attribute, hb])
end
inductive hasF (K : PySem.W.Frag) (f : Str) (Q : VK) (x : V) (H1 : Hp) : Prop
  | mk (a : _) (C : _) (dx : _) (fs : _) (v : _) (c0 : x = .ref a) (c1 : H1 a = some (.ins C dx fs)) (c2 : Cls K C) (c3 : NoAttr K C f) (c4 : fs.lookup f = some v) (c5 : Q v H1) : hasF K f Q x H1
noncomputable def tFld (K : PySem.W.Frag) (ta : TE) (f : Str) : TE := fun σ H Q => ta σ H fun x H1 => hasF K f Q x H1
noncomputable def sFld (K : PySem.W.Frag) (ta tv : TE) (f : Str) : TS := fun D σ H => tv σ H fun y H1 => ta σ H1 fun x H2 => ∃ a C dx fs, x = .ref a ∧ H2 a = some (.ins C dx fs) ∧ Cls K C ∧ NoAttr K C f ∧ fs.length < 1000 ∧
  D.nx σ (upd H2 a (.ins C dx (putF f y fs)))
section
variable {X : Cx} {o e value : Expr} {f : Str} {pos pos' tpos : Pos} {ta tv : TE}
theorem pe_fld (he : PE X e ta) (hb : attributeBase e f X.env (eval e X.env) = eval e X.env) : PE X (.Attribute e f pos) (tFld X.K ta f) := by
  intro pins s σ H Q I h
  refine attr_of hb (thn (he pins s σ H _ I h) fun u s1 hp0 => ?_)
  obtain ⟨x, H1, I1, rx, a, C, dx, fs, v, ex, ea, c, n, l, q⟩ := hp0
  subst ex
  obtain rfl : u = Value.ref a := rx
  exact getattr_ok I1 ea c n l fun u' s2 I2 ru => ⟨v, H1, I2, ru, q⟩
theorem ps_fld (ha : PE X o ta) (hv : PE X value tv) (hs : swapsWith value (some (.Attribute o f pos')) pos.line X.env = pure false) : PS X (.Assign [.Attribute o f pos'] value pos) (sFld X.K ta tv f) := by
  intro pins s σ H D I h
  refine plainObj_wpAny_Assign_Attribute (thn (hv pins s σ H _ I h) fun u s1 hp0 => ?_) hs
  obtain ⟨y, H1, I1, ry, q⟩ := hp0
  refine thn (ha pins s1 σ H1 _ I1 q) fun ov s2 hp1 => ?_
  obtain ⟨x, H2, I2, rx, a, C, dx, fs, ex, ea, c, n, l, q2⟩ := hp1
  subst ex
  obtain rfl : ov = Value.ref a := rx
  exact setattr_ok I2 ea c n l ry fun s3 I3 => ⟨σ, _, I3, q2⟩
end
end L2
namespace L2
open PySem PySem.Spec PyProof.Rows
structure Room (k : Nat) (A : Around) : Prop where
  hd : A.handled = none
  dp : A.depth + 3 * k + 5 < recursionLimit
  un : A.units + 16 * k + 200 < cLine
theorem Room.mono {j k : Nat} {A : Around} (r : Room k A) (h : j ≤ k) : Room j A := ⟨r.hd, by have := r.dp; lia, by have := r.un; lia⟩
theorem Room.deeper {k : Nat} {A : Around} (r : Room (k + 1) A) (env : Env) : Room k (A.deeper env) :=
  ⟨r.hd, by have := r.dp; show A.depth + 1 + 3 * k + 5 < _; lia, by have := r.un; show A.units + 3 + 16 * k + 200 < _; lia⟩
theorem make_depth {A : Around} {C : Addr} {us : List Value} {kw : List (Str × Value)} : (A.under (.builtin "type.__call__" ⟨.ref C :: us, kw⟩)).depth = A.depth + 1 := by
  first | rfl | simp [Around.under, Code.weight, Code.isCreation, Code.isGuard, Code.isCaller, Code.frames, Code.isFrame, guardIds]
theorem make_units {A : Around} {C : Addr} {us : List Value} {kw : List (Str × Value)} : (A.under (.builtin "type.__call__" ⟨.ref C :: us, kw⟩)).units = A.units + 1 := by
  first | rfl | simp [Around.under, Code.cUnits, Code.frames, Code.isFrame]
theorem Room.make {k : Nat} {A : Around} (r : Room (k + 1) A) (C : Addr) (us : List Value) (kw : List (Str × Value)) : Room k (A.under (.builtin "type.__call__" ⟨.ref C :: us, kw⟩)) :=
  ⟨r.hd, by have := r.dp; rw [make_depth]; lia, by have := r.un; rw [make_units]; lia⟩
theorem Room.depth {k : Nat} {A : Around} (r : Room k A) : A.depth < recursionLimit := by have := r.dp; lia
theorem Room.units {k : Nat} {A : Around} (r : Room k A) : A.units + 64 < cLine := by have := r.un; lia
noncomputable def tNil : TA := fun _ H Q => Q [] H
noncomputable def tCons (ta : TE) (tr : TA) : TA := fun σ H Q => ta σ H fun x H1 => tr σ H1 fun xs H2 => Q (x :: xs) H2
section
variable {X : Cx} {e : Expr} {es : List Expr} {te : TE} {t : TA} {pos : Pos}
theorem pa_nil : PA X [] tNil := fun _ _ _ _ H Q I h => Calls.spliced_nil ⟨[], H, I, .nil, h⟩
theorem pa_cons (ha : PE X e te) (hr : PA X es t) (hs : starEach (e :: es) X.env = (false, eval e X.env) :: starEach es X.env := by rfl) : PA X (e :: es) (tCons te t) := by
  intro pos pins s σ H Q I h
  rw [hs]
  show wpAny _ _ (spliced ((false, eval e X.env) :: backTo pos (starEach es X.env))) _ _ s
  refine Calls.spliced_cons (thn (ha pins s σ H _ I h) fun u s1 hp0 => ?_)
  obtain ⟨x, H1, I1, r1, q1⟩ := hp0
  exact thn (hr pos pins s1 σ H1 _ I1 q1) fun us s2 hp0 => by obtain ⟨xs, H2, I2, r2, q2⟩ := hp0; exact ⟨x :: xs, H2, I2, .cons r1 r2, q2⟩
noncomputable def tTup (t : TA) : TE := fun σ H Q => t σ H fun xs H1 => xs.length ≤ sizeLine ∧ ∀ p, H1 p = none → Q (.ref p) (upd H1 p (.tup xs))
noncomputable def tLst (t : TA) : TE := fun σ H Q => t σ H fun xs H1 => xs.length ≤ sizeLine ∧ ∀ p, H1 p = none → Q (.ref p) (upd H1 p (.lst xs))
theorem pe_tup {x1} (h : PA X es t) : PE X (.Tuple es x1 pos) (tTup t) := by
  intro pins s σ H Q I hq
  refine wpAny_Tuple_spliced (thn (h pos pins s σ H _ I hq) fun us s1 hp0 => ?_)
  obtain ⟨xs, H1, I1, r, z, q⟩ := hp0
  refine ⟨by rw [← r.length]; exact z, ?_⟩
  have hf : H1 s1.heap.objs.size = none := I1.hok.fresh (Nat.le_refl _)
  refine ⟨.ref s1.heap.objs.size, upd H1 s1.heap.objs.size (.tup xs), I1.laid (t' := s1.toks) (fun b u e => Heap.get?_push_of_some _ e) (Nat.le_refl _) ?_, rfl, q _ hf⟩
  exact ⟨z, us, r, ⟨_, Heap.get?_push_size _ rfl, rfl, _, rfl⟩⟩
theorem pe_lst (h : PA X es t) : PE X (.List es pos) (tLst t) := by
  intro pins s σ H Q I hq
  refine wpAny_List_spliced (thn (h pos pins s σ H _ I hq) fun us s1 hp0 => ?_)
  obtain ⟨xs, H1, I1, r, z, q⟩ := hp0
  refine ⟨by rw [← r.length]; exact z, ?_⟩
  have hf : H1 s1.heap.objs.size = none := I1.hok.fresh (Nat.le_refl _)
  refine ⟨.ref s1.heap.objs.size, upd H1 s1.heap.objs.size (.lst xs), I1.laid (t' := s1.toks) (fun b u e => Heap.get?_push_of_some _ e) (Nat.le_refl _) ?_, rfl, q _ hf⟩
  exact ⟨z, us, 0, r, Heap.get?_push_size _ rfl⟩
end
noncomputable abbrev Sp := List V → Hp → VK → XK → Prop
noncomputable abbrev CXT := List Env → Hp → Shared → XK → Value → Shared → Prop
structure Env0 (P : Program) (w : World) (K : PySem.W.Frag) (mg : Str → Option Value) (base : Heap) (A : Around) (outer : List Env) (s : Shared) (H : Hp) : Prop where
  frames : A.frames = some outer
  mod : Mod K mg base
  bs : ∀ b o, base.get? b = some o → s.heap.get? b = some o ∧ H b = none
  bsz : base.objs.size ≤ s.heap.objs.size
  funs : s.heap.FunFrames base outer
  frf : ∀ b ∈ frs outer, H b = none
  hok : HOk P w H s.heap
  bare : AllBare s.gens
noncomputable def CE (outer : List Env) (P : Program) (w : World) (H : Hp) (s : Shared) (Q : VK) (u : Value) (s' : Shared) : Prop :=
  ∃ v H', s'.os = s.os ∧ AllBare s'.gens ∧ Un (frs outer) [] H H' s.heap s'.heap ∧ HOk P w H' s'.heap ∧ RelV v u ∧ Q v H'
noncomputable def CR (CX : CXT) (outer : List Env) (P : Program) (w : World) (H : Hp) (s : Shared) (Q : VK) (E : XK) (r : Result) (s' : Shared) : Prop :=
  match r with
  | .ok (.ret u) => CE outer P w H s Q u s'
  | .ok _ => False
  | .error e => CX outer H s E e s'
structure FnOk (P : Program) (w : World) (K : PySem.W.Frag) (mg : Str → Option Value) (base : Heap) (CX : CXT) (k : Nat) (f : Addr) (fd : FuncData) (ps : List Str) (sp : Sp) : Prop where
  len : ∀ vs H Q E, sp vs H Q E → vs.length = ps.length
  run : ∀ (A : Around) (outer : List Env) (s : Shared) (H : Hp) (args : Args) (us : List Value) (vs : List V) (Q : VK) (E : XK), Room k A → Env0 P w K mg base A outer s H → BindsTo s fd args (ps.zip us) → Vals vs us → sp vs H Q E →
    codeAny (model P w) A (.call (.ref f) args) (CR CX outer P w H s Q E) s
theorem FnOk.imp {P : Program} {w : World} {K : PySem.W.Frag} {mg : Str → Option Value} {base : Heap} {CX : CXT} {k : Nat} {f : Addr} {fd : FuncData} {ps : List Str} {sp sp' : Sp} (F : FnOk P w K mg base CX k f fd ps sp)
    (h : ∀ vs H Q E, sp' vs H Q E → sp vs H Q E) : FnOk P w K mg base CX k f fd ps sp' :=
  ⟨fun vs H Q E q => F.len vs H Q E (h _ _ _ _ q), fun A outer s H args us vs Q E hr he hb hv hs => F.run A outer s H args us vs Q E hr he hb hv (h _ _ _ _ hs)⟩
theorem Env0.make {P : Program} {w : World} {K : PySem.W.Frag} {mg : Str → Option Value} {base : Heap} {A : Around} {outer : List Env} {s : Shared} {H : Hp} (e : Env0 P w K mg base A outer s H) (C : Addr) (us : List Value) (kw : List (Str × Value)) :
    Env0 P w K mg base (A.under (.builtin "type.__call__" ⟨.ref C :: us, kw⟩)) outer s H := ⟨by first | exact e.frames | (simpa [Around.under, Code.envs, Code.isFrame, pushEnvs] using e.frames), e.mod, e.bs, e.bsz, e.funs, e.frf, e.hok, e.bare⟩
section
variable {X : Cx} {pins : List (Addr × Obj)} {σ : St} {H : Hp} {s s' : Shared}
theorem Inv.env0 (I : Inv X pins σ H s) : Env0 X.prog X.w X.K X.mg X.base X.A X.stack s H :=
  ⟨I.ok.frames, I.ok.mod, I.bs, Nat.le_trans I.ok.bsz I.sz, I.stack, I.stkFree, I.hok, I.bare⟩
theorem Inv.after {Q : VK} {u : Value} (I : Inv X pins σ H s) (h : CE X.stack X.prog X.w H s Q u s') : EP X pins σ Q u s' := by
  obtain ⟨v, H', os, bare, un, hok, r, q⟩ := h
  obtain ⟨hh, g, d, t, os'⟩ := s'
  obtain rfl : os' = s.os := os
  exact ⟨v, H', I.call (h' := hh) (g' := g) (d' := d) (t' := t) (ch := []) un hok bare (fun b z => absurd z (by simp)), r, q⟩
end
noncomputable def tCall (sp : Sp) (dvs : List V) (E : XK) (t : TA) : TE := fun σ H Q => t σ H fun vs H1 => sp (vs ++ dvs) H1 Q E
inductive isI (C : Addr) (m : Str) (x : V) (H1 : Hp) (R : Prop) : Prop
  | mk (a : _) (dx : _) (fs : _) (c0 : x = .ref a) (c1 : H1 a = some (.ins C dx fs)) (c2 : fs.lookup m = none) (c3 : R) : isI C m x H1 R
noncomputable def tMeth (C : Addr) (m : Str) (sp : Sp) (dvs : List V) (E : XK) (ta : TE) (t : TA) : TE := fun σ H Q => ta σ H fun x H1 => isI C m x H1 (t σ H1 fun vs H2 => sp (x :: (vs ++ dvs)) H2 Q E)
noncomputable def tMake (C : Addr) (sp : Sp) (dvs : List V) (E : XK) (t : TA) : TE := fun σ H Q => t σ H fun vs H1 => ∀ x dx, H1 x = none → H1 dx = none → dx ≠ x →
  sp (.ref x :: (vs ++ dvs)) (upd (upd H1 dx (.own x)) x (.ins C dx [])) (fun v H2 => v = .non ∧ Q (.ref x) H2) E
noncomputable def Binds (K : PySem.W.Frag) (fd : FuncData) (ps : List Str) (ds : List Value) : Prop :=
  ∀ (s : Shared) (us : List Value), K.In s.heap → (us ++ ds).length = ps.length → BindsTo s fd ⟨us, []⟩ (ps.zip (us ++ ds))
theorem Binds.all {K : PySem.W.Frag} {fd : FuncData} {ps : List Str} (h : ∀ us : List Value, us.length = ps.length → bindArgs fd ⟨us, []⟩ = pure (ps.zip us)) : Binds K fd ps [] := fun s us _ hl => by
  rw [List.append_nil] at hl ⊢
  exact .of_eq (h us hl)
noncomputable def Passes (CX : CXT) (X : Cx) (E : XK) : Prop := ∀ (pins : List (Addr × Obj)) (σ : St) (H : Hp) (s : Shared) (e : Value) (s' : Shared), Inv X pins σ H s → CX X.stack H s E e s' → X.xe e s'
section
variable {X : Cx} {CX : CXT} {k : Nat} {f C : Addr} {fd : FuncData} {ps : List Str} {sp : Sp} {dvs : List V} {ds : List Value} {E : XK} {x m : Str} {p pos apos : Pos} {e o : Expr} {es : List Expr} {ta : TE} {t : TA}
theorem run_fn {pins : List (Addr × Obj)} {σ : St} {H : Hp} {s : Shared} {Q : VK} {us : List Value} {vs : List V} (F : FnOk X.prog X.w X.K X.mg X.base CX k f fd ps sp) (hr : Room k X.A) (hb : Binds X.K fd ps ds) (hd : Vals dvs ds) (hx : Passes CX X E)
    (I : Inv X pins σ H s) (r : Vals vs us) (h : sp (vs ++ dvs) H Q E) : wpAny (model X.prog X.w) X.A (call (.ref f) us) (EP X pins σ Q) X.xe s := by
  have r2 : Vals (vs ++ dvs) (us ++ ds) := r.append hd
  have hl : (us ++ ds).length = ps.length := by rw [← r2.length]; exact F.len _ _ _ _ h
  refine wpAny_call (codeAny_mono (F.run X.A X.stack s H ⟨us, []⟩ (us ++ ds) (vs ++ dvs) Q E hr I.env0 (hb s us I.kIn hl) r2 h) fun r s' hq => ?_)
  cases r with
  | error e => exact hx pins σ H s e s' I hq
  | ok fl =>
    cases fl with
    | ret u => exact I.after hq
    | next => exact False.elim hq
    | brk => exact False.elim hq
    | cont => exact False.elim hq
theorem pe_call (F : FnOk X.prog X.w X.K X.mg X.base CX k f fd ps sp) (hr : Room k X.A) (hg : Gl X x) (hm : X.mg x = some (.ref f)) (hk : PySem.W.keepIn X.K (.ref f) = true) (hb : Binds X.K fd ps ds) (hd : Vals dvs ds) (hx : Passes CX X E)
    (ha : PA X (e :: es) t) (hdb : (x == ("__debug__" : Str)) = false := by decide) (he : starEach (e :: es) X.env = (false, eval e X.env) :: starEach es X.env := by rfl) (hpl : (backTo pos (starEach es X.env)).any (·.1) = false := by rfl) :
    PE X (.Call (.Name x p) (e :: es) [] pos) (tCall sp dvs E t) := by
  intro pins s σ H Q I h
  refine wpAny_Call_Name_kw (ld_glob I hg hm ?_ hdb)
  refine PySem.W.callWith_K (h₀ := X.base) I.ok.mod.kin hk (thn (ha pos pins s σ H _ I h) fun us s1 hp0 => ?_) he hpl
  obtain ⟨vs, H1, I1, r, q⟩ := hp0
  refine ⟨I1.kIn, ?_⟩
  exact run_fn F hr hb hd hx I1 r q
theorem pe_meth0 {pl : Sem Bool} (he : PE X o ta) (c : Cls X.K C) (hm : Meth X.K C m f) (F : FnOk X.prog X.w X.K X.mg X.base CX k f fd ps sp) (hr : Room k X.A) (hb : Binds X.K fd ps ds) (hd : Vals dvs ds) (hx : Passes CX X E)
    (ht : eval (.Call (.Attribute o m apos) [] [] pos) X.env = (do
      let ov ← eval o X.env
      standAt apos.atName
      let (f, first) ← holding [ov] (getMethod ov m pl)
      callWith pos f first (backTo pos (starEach [] X.env)) (backToKw pos (keywordEach [] X.env))) := by rfl) :
    PE X (.Call (.Attribute o m apos) [] [] pos) (tMeth C m sp dvs E ta tNil) := by
  intro pins s σ H Q I h
  refine PySem.W.methodCall_KW (pl := pl) (thn (he pins s σ H _ I h) fun u s1 hp0 => ?_) ht
  obtain ⟨x, H1, I1, rx, a, dx, fs, ex, ea, l, q⟩ := hp0
  subst ex
  obtain rfl : u = Value.ref a := rx
  refine getmeth_ok I1 ea c hm l ?_
  exact PySem.W.callWith_K0 (first := [.ref a]) I1.kIn hm.kp (run_fn (us := [.ref a]) (vs := [.ref a]) F hr hb hd hx I1 (.cons rfl .nil) q)
structure Mk (K : PySem.W.Frag) (C f : Addr) : Prop where
  makes : PySem.W.makesIn K C = true
  init : PySem.W.findIn K (.ref C) "__init__" = some (some (.ref f))
  fn : PySem.W.isFn K (.ref f) = true
  kp : PySem.W.keepIn K (.ref C) = true
theorem run_make {pins : List (Addr × Obj)} {σ : St} {H : Hp} {s : Shared} {Q : VK} {us : List Value} {vs : List V} (M : Mk X.K C f) (F : FnOk X.prog X.w X.K X.mg X.base CX k f fd ps sp) (hr : Room (k + 1) X.A) (hb : Binds X.K fd ps ds) (hd : Vals dvs ds)
    (hx : Passes CX X E) (I : Inv X pins σ H s) (r : Vals vs us)
    (h : ∀ x dx, H x = none → H dx = none → dx ≠ x → sp (.ref x :: (vs ++ dvs)) (upd (upd H dx (.own x)) x (.ins C dx [])) (fun v H2 => v = .non ∧ Q (.ref x) H2) E) :
    wpAny (model X.prog X.w) X.A (call (.ref C) us) (EP X pins σ Q) X.xe s := by
  have hq := h (s.heap.objs.size + 1) s.heap.objs.size (I.hok.fresh (Nat.le_succ _)) (I.hok.fresh (Nat.le_refl _)) (Nat.ne_of_lt (Nat.lt_succ_self _))
  have I2 := Inv.made (C := C) I
  have r2 : Vals (V.ref (s.heap.objs.size + 1) :: (vs ++ dvs)) (Value.ref (s.heap.objs.size + 1) :: (us ++ ds)) := .cons rfl (r.append hd)
  have hl : (Value.ref (s.heap.objs.size + 1) :: us ++ ds).length = ps.length := by
    have e := r2.length
    rw [F.len _ _ _ _ hq] at e
    exact e.symm
  refine wpAny_call (make_map (f := f) I.kIn M.makes M.init (beq_iff_eq.mp M.fn) (codeAny_mono (F.run _ X.stack _ _ ⟨Value.ref (s.heap.objs.size + 1) :: us, []⟩ (Value.ref (s.heap.objs.size + 1) :: (us ++ ds)) _ _ E (hr.make C us [])
    (I2.env0.make C us []) (hb _ (Value.ref (s.heap.objs.size + 1) :: us) I2.kIn hl) r2 hq) fun r s' hq' => ?_))
  cases r with
  | error e => exact hx pins σ _ _ e s' I2 hq'
  | ok fl =>
    cases fl with
    | ret u =>
      obtain ⟨v, H', I3, rv, ev, q3⟩ := I2.after hq'
      subst ev
      exact ⟨rv, ⟨V.ref (s.heap.objs.size + 1), H', I3, rfl, q3⟩⟩
    | next => exact False.elim hq'
    | brk => exact False.elim hq'
    | cont => exact False.elim hq'
theorem pe_make (M : Mk X.K C f) (F : FnOk X.prog X.w X.K X.mg X.base CX k f fd ps sp) (hr : Room (k + 1) X.A) (hg : Gl X x) (hm : X.mg x = some (.ref C)) (hb : Binds X.K fd ps ds) (hd : Vals dvs ds) (hx : Passes CX X E)
    (ha : PA X (e :: es) t) (hdb : (x == ("__debug__" : Str)) = false := by decide) (he : starEach (e :: es) X.env = (false, eval e X.env) :: starEach es X.env := by rfl) (hpl : (backTo pos (starEach es X.env)).any (·.1) = false := by rfl) :
    PE X (.Call (.Name x p) (e :: es) [] pos) (tMake C sp dvs E t) := by
  intro pins s σ H Q I h
  refine wpAny_Call_Name_kw (ld_glob I hg hm ?_ hdb)
  refine PySem.W.callWith_K (h₀ := X.base) I.ok.mod.kin M.kp (thn (ha pos pins s σ H _ I h) fun us s1 hp0 => ?_) he hpl
  obtain ⟨vs, H1, I1, r, q⟩ := hp0
  refine ⟨I1.kIn, ?_⟩
  exact run_make M F hr hb hd hx I1 r q
end
structure FnScope (N P : List Str) (sc : Scope) : Prop where
  kind : sc.kind = .function
  co : sc.isCoroutine = false
  gen : sc.isGenerator = false
  nd : N.Nodup
  pre : N.take P.length = P
  par : ∀ x ∈ P, sc.names.lookup x = some .local ∨ sc.names.lookup x = some .cell
  nofree : ∀ y ∈ sc.names, y.2 ≠ .free
theorem bindL_out {kindOf : Str → Option NameKind} {x : Str} : ∀ {binds : List (Str × Value)} {m : Str → Option Value}, (∀ v, (x, v) ∉ binds) → bindL kindOf binds m x = m x
  | [], _, _ => rfl
  | (n, v) :: r, m, h => by
    unfold bindL
    rw [bindL_out fun w hw => h w (List.mem_cons_of_mem _ hw)]
    split
    · have : x ≠ n := by rintro rfl; exact h v List.mem_cons_self
      simp [this]
    · rfl
theorem bindC_out {kindOf : Str → Option NameKind} {x : Str} : ∀ {binds : List (Str × Value)} {m : Str → Option Value}, (∀ v, (x, v) ∉ binds) → bindC kindOf binds m x = m x
  | [], _, _ => rfl
  | (n, v) :: r, m, h => by
    unfold bindC
    rw [bindC_out fun w hw => h w (List.mem_cons_of_mem _ hw)]
    split
    · rfl
    · have : x ≠ n := by rintro rfl; exact h v List.mem_cons_self
      simp [this]
theorem bindL_get {kindOf : Str → Option NameKind} {x : Str} {v : Value} : ∀ {P : List Str} {vs : List Value} {i : Nat} {m : Str → Option Value}, P.Nodup → P[i]? = some x → vs[i]? = some v → kindOf x = some .local →
    bindL kindOf (P.zip vs) m x = some v
  | [], _, _, _, _, h, _, _ => by simp at h
  | _ :: _, [], _, _, _, _, h, _ => by simp at h
  | p :: P, w :: vs, 0, m, nd, h1, h2, hk => by
    simp at h1 h2; subst h1; subst h2
    show bindL kindOf ((p, w) :: P.zip vs) m p = _
    unfold bindL
    rw [bindL_out fun v hv => (List.nodup_cons.mp nd).1 (List.of_mem_zip hv).1, if_pos hk]
    simp
  | p :: P, w :: vs, i + 1, m, nd, h1, h2, hk => by
    show bindL kindOf ((p, w) :: P.zip vs) m x = _
    unfold bindL
    exact bindL_get (i := i) (List.nodup_cons.mp nd).2 (by simpa using h1) (by simpa using h2) hk
theorem bindC_get {kindOf : Str → Option NameKind} {x : Str} {v : Value} : ∀ {P : List Str} {vs : List Value} {i : Nat} {m : Str → Option Value}, P.Nodup → P[i]? = some x → vs[i]? = some v → kindOf x ≠ some .local →
    bindC kindOf (P.zip vs) m x = some v
  | [], _, _, _, _, h, _, _ => by simp at h
  | _ :: _, [], _, _, _, _, h, _ => by simp at h
  | p :: P, w :: vs, 0, m, nd, h1, h2, hk => by
    simp at h1 h2; subst h1; subst h2
    show bindC kindOf ((p, w) :: P.zip vs) m p = _
    unfold bindC
    rw [bindC_out fun v hv => (List.nodup_cons.mp nd).1 (List.of_mem_zip hv).1, if_neg hk]
    simp
  | p :: P, w :: vs, i + 1, m, nd, h1, h2, hk => by
    show bindC kindOf ((p, w) :: P.zip vs) m x = _
    unfold bindC
    exact bindC_get (i := i) (List.nodup_cons.mp nd).2 (by simpa using h1) (by simpa using h2) hk
noncomputable def start (N : List Str) (vs : List V) : St := vs.map some ++ List.replicate (N.length - vs.length) none
noncomputable def cxOf (CX : CXT) (P : Program) (w : World) (K : PySem.W.Frag) (mg : Str → Option Value) (base : Heap) (N : List Str) (qual : Str) (scope : Scope) (f : Addr) (cd : Value) (A : Around) (outer : List Env) (s : Shared) (H : Hp) (E : XK) : Cx where
  prog := P
  w := w
  K := K
  mg := mg
  base := base
  A := A.deeper (envOfC qual scope s.heap.objs.size f cd)
  N := N
  s₀ := s
  H₀ := H
  env := envOfC qual scope s.heap.objs.size f cd
  outer := outer
  stack := envOfC qual scope s.heap.objs.size f cd :: outer
  ex := []
  calm := true
  fn := fun _ => true
  pn := []
  xe := fun e s' => wpAny (model P w) (A.deeper (envOfC qual scope s.heap.objs.size f cd)) (leaving (envOfC qual scope s.heap.objs.size f cd) e) (fun _ s'' => CX outer H s E e s'') (fun e' s'' => CX outer H s E e' s'') s'
theorem cell_has {sc : Scope} {n : Nat} {x : Str} (h : sc.names.lookup x = some .cell) : ∃ c, (cellsFrom n sc.names []).lookup x = some c := by
  have q := PySem.W.cellsFrom_some sc.names n [] (.inl h)
  exact Option.isSome_iff_exists.mp q
theorem inv_start {CX : CXT} {P : Program} {w : World} {K : PySem.W.Frag} {mg : Str → Option Value} {base : Heap} {N ps : List Str} {qual : Str} {scope : Scope} {f : Addr} {cd : Value} {A : Around} {outer : List Env} {s s1 : Shared} {H : Hp} {E : XK} {us : List Value} {vs : List V}
    (S : FnScope N ps scope) (hd : A.handled = none) (e0 : Env0 P w K mg base A outer s H) (hl : vs.length = ps.length) (r : Vals vs us)
    (x : InCallC s s.heap.objs.size (bindL (envOfC qual scope s.heap.objs.size f cd).kindOf (ps.zip us) fun _ => none) (cellsFrom (s.heap.objs.size + 1) scope.names []) (bindC (envOfC qual scope s.heap.objs.size f cd).kindOf (ps.zip us) fun _ => none) s1) :
    Inv (cxOf CX P w K mg base N qual scope f cd A outer s H E) [] (start N vs) H s1 := by
  have hpl : ps.length ≤ N.length := by have := congrArg List.length S.pre; rw [List.length_take] at this; lia
  obtain ⟨h1, tk, rfl, hk⟩ := x.done
  have noA : ∀ b : Addr, b ∉ (cxOf CX P w K mg base N qual scope f cd A outer s H E).ex := fun b z => absurd (show b ∈ ([] : List Addr) from z) (by simp)
  refine ⟨⟨e0.mod, S.kind, rfl, rfl, Nat.le_refl _, fun y z c h1 h2 => ?_, fun y hy => ?_, fun y c _ h => ?_, fun _ => hd, Around.frames_deeper e0.frames, .inr ⟨rfl, rfl⟩, fun b z => absurd z (noA b), e0.bs, e0.bsz, fun b _ _ => noA b, fun b z => absurd z (noA b), e0.funs, e0.frf⟩,
    rfl, e0.bare, Un.kept hk, ⟨_, x.toInCall.ns, fun i y v h1 h2 h3 => ?_⟩, fun y c h => ⟨_, x.cell y c h⟩, e0.hok.fresh (Nat.le_refl _), fun y c h => ?_, fun p hp => absurd (show p ∈ ([] : List (Addr × Obj)) from hp) (by simp), e0.hok.kept hk, ?_⟩
  · exact name_of_addr x.apart (PySem.mem_of_lookup h1) (PySem.mem_of_lookup h2)
  · have hy : scope.names.lookup y = some .cell ∨ scope.names.lookup y = some .free := hy
    rcases hy with hy | hy
    · exact cell_has hy
    · exact absurd rfl (S.nofree _ (PySem.mem_of_lookup hy))
  · exact Nat.le_of_lt (x.above y c (PySem.mem_of_lookup h))
  · have hi : i < vs.length := by
      unfold start at h2
      by_cases hi : i < vs.length
      · exact hi
      · rw [List.getElem?_append_right (by simpa using hi)] at h2
        rw [List.getElem?_replicate] at h2
        split at h2 <;> cases h2
    have ha : vs[i]? = some v := by
      unfold start at h2
      rw [List.getElem?_append_left (by simpa using hi), List.getElem?_map] at h2
      cases e : vs[i]? with
      | none => rw [e] at h2; cases h2
      | some a => rw [e] at h2; cases h2; rfl
    obtain ⟨u, hu, rv⟩ := r.get ha
    have hp : ps[i]? = some y := by
      rw [← S.pre, List.getElem?_take_of_lt (by lia)]; exact h1
    have ndP : ps.Nodup := by rw [← S.pre]; exact S.nd.sublist (List.take_sublist _ _)
    refine ⟨u, rv, ?_⟩
    rcases S.par y (List.mem_of_getElem? hp) with k | k
    · exact .inl ⟨k, bindL_get ndP hp hu k⟩
    · obtain ⟨c, e⟩ := cell_has (n := s.heap.objs.size + 1) k
      refine .inr ⟨.inl k, c, e, ?_⟩
      have q := x.cell y c e
      rw [bindC_get ndP hp hu (by show scope.names.lookup y ≠ _; rw [k]; decide)] at q
      exact q
  · exact e0.hok.fresh (Nat.le_of_lt (x.above y c (PySem.mem_of_lookup h)))
  · unfold start
    show _ = N.length
    rw [List.length_append, List.length_map, List.length_replicate]
    lia
theorem fn_of {CX : CXT} {P : Program} {w : World} {K : PySem.W.Frag} {mg : Str → Option Value} {base : Heap} {k : Nat} {f : Addr} {name qual : Str} {params : Arguments} {body : List Stmt} {scope : Scope} {dV kV doc pm cdv ct oc : Value} {an od : Option Addr}
    {osl : Array (Option Value)} {N ps : List Str} {sp : Sp} (lk : K.lookup f = some ⟨oc, od, .func (PySem.W.fnOf name qual params body scope dV kV doc pm an cdv ct), osl⟩) (hcd : PySem.W.codeIn K cdv qual = true) (S : FnScope N ps scope)
    (len : ∀ vs H Q E, sp vs H Q E → vs.length = ps.length)
    (hbody : ∀ (A : Around) (outer : List Env) (s : Shared) (H : Hp) (vs : List V) (Q : VK) (E : XK), Room k (A.deeper (envOfC qual scope s.heap.objs.size f cdv)) → sp vs H Q E →
      ∃ t, PSs (cxOf CX P w K mg base N qual scope f cdv A outer s H E) body t ∧ t { nx := fun _ H' => Q .non H', rt := Q } (start N vs) H) :
    FnOk P w K mg base CX (k + 1) f (PySem.W.fnOf name qual params body scope dV kV doc pm an cdv ct) ps sp := by
  refine ⟨len, fun A outer s H args us vs Q E hr e0 hb r hsp => ?_⟩
  have hl := len _ _ _ _ hsp
  have KX : K.In s.heap := e0.mod.kin.keeps fun b o e => (e0.bs b o e).1
  have lim : s.heap.NoLimit := e0.mod.nolimit.keeps fun b o e => (e0.bs b o e).1
  have hkind : ∀ y ∈ ps.zip us, scope.names.lookup y.1 = some .local ∨ (scope.names.lookup y.1 = some .cell ∧ ((cellsFrom (s.heap.objs.size + 1) scope.names []).lookup y.1).isSome = true) := fun ⟨n, v⟩ hy => by
    rcases S.par n (List.of_mem_zip hy).1 with q | q
    · exact .inl q
    · exact .inr ⟨q, PySem.W.cellsFrom_some _ _ _ (.inl q)⟩
  refine codeAny_call_function hr.depth (KX _ _ lk) rfl S.co S.gen rfl (PySem.W.codeRec_of KX hcd) (hb _ _ _ _ ?_)
  refine wpAny_newFunctionEnv_cells S.kind hkind fun env he s1 x => ?_
  subst he
  refine ⟨lim.keeps x.toInCall.keep, codeAny_func ?_⟩
  obtain ⟨t, ht, hq⟩ := hbody A outer s H vs Q E (hr.deeper _) hsp
  have I : Inv (cxOf CX P w K mg base N qual scope f cdv A outer s H E) [] (start N vs) H s1 := inv_start S hr.hd e0 hl r x
  refine wpAny_mono (ht [] s1 (start N vs) H _ I hq) (fun fl s' hs => ?_) fun e s' hs => hs
  have fin : ∀ {σ' : St} {H' : Hp} {v : V} {u : Value}, Inv (cxOf CX P w K mg base N qual scope f cdv A outer s H E) [] σ' H' s' → RelV v u → Q v H' → CE outer P w H s Q u s' :=
    fun {σ' H' v u} J rv q => ⟨v, H', J.os, J.bare, J.base, J.hok, rv, q⟩
  cases fl with
  | ret u =>
    obtain ⟨v, σ', H', J, rv, q⟩ := hs
    exact fin J rv q
  | next =>
    obtain ⟨σ', H', J, q⟩ := hs
    exact fin (v := V.non) (u := Value.none) J rfl q
  | brk =>
    obtain ⟨_, _, _, q⟩ := hs
    exact False.elim q
  | cont =>
    obtain ⟨_, _, _, q⟩ := hs
    exact False.elim q
end L2
namespace L2
open PySem PySem.Spec PyProof.Rows
section
variable {X : Cx} {x : Str} {p pos : Pos} {e : Expr} {es : List Expr} {t : TA} {id T : String} {r : List V → Hp → VK → Prop}
noncomputable def tCB (r : List V → Hp → VK → Prop) (t : TA) : TE := fun σ H Q => t σ H fun vs H1 => r vs H1 Q
theorem pe_callB (hc : CallR X (.builtin id) r) (hg : Gl X x) (hm : X.mg x = none) (hv : bootBuiltins x = some (.builtin id)) (ha : PA X (e :: es) t) (hn : x ≠ "__name__" := by decide) (hdb : (x == ("__debug__" : Str)) = false := by decide)
    (he : starEach (e :: es) X.env = (false, eval e X.env) :: starEach es X.env := by rfl) (hpl : (backTo pos (starEach es X.env)).any (·.1) = false := by rfl) : PE X (.Call (.Name x p) (e :: es) [] pos) (tCB r t) := by
  intro pins s σ H Q I h
  refine wpAny_Call_Name_kw (ld_blt I hg hm hv ?_ hn hdb)
  exact PyProof.Rows.callWith_builtin1 (thn (ha pos pins s σ H _ I h) fun us s1 hp0 => by obtain ⟨vs, H1, I1, r1, q1⟩ := hp0; exact hc pins s1 σ H1 vs us Q I1 r1 q1) he hpl
theorem pe_callTy (hc : CallR X (.type T) r) (hg : Gl X x) (hm : X.mg x = none) (hv : bootBuiltins x = some (.type T)) (ha : PA X (e :: es) t) (hn : x ≠ "__name__" := by decide) (hdb : (x == ("__debug__" : Str)) = false := by decide)
    (he : starEach (e :: es) X.env = (false, eval e X.env) :: starEach es X.env := by rfl) (hpl : (backTo pos (starEach es X.env)).any (·.1) = false := by rfl) : PE X (.Call (.Name x p) (e :: es) [] pos) (tCB r t) := by
  intro pins s σ H Q I h
  refine wpAny_Call_Name_kw (ld_blt I hg hm hv ?_ hn hdb)
  exact PyProof.Rows.callWith_type1 (thn (ha pos pins s σ H _ I h) fun us s1 hp0 => by obtain ⟨vs, H1, I1, r1, q1⟩ := hp0; exact hc pins s1 σ H1 vs us Q I1 r1 q1) he hpl
end
end L2
namespace HT
open PySem PyProof.Rows
section
open PySem.SeqAt
open PySem.AutoSeq1 (wpAny_loadPart')
open PySem.MeetsSeq PySem.MeetsSeq2 PySem.MeetsSeq3
end
section
variable {prog : Program} {w : World} {A : Around} {E : Value → Shared → Prop} {s : Shared}
noncomputable def sIx (n d : Nat) : Option Int → Nat
  | none => d
  | some v => if v < 0 then (v + (n : Int)).toNat else min v.toNat n
theorem sIx_none (n d : Nat) : sIx n d none = d := rfl
theorem sIx_nat (n d k : Nat) : sIx n d (some (k : Int)) = min k n := by
  show (if (k : Int) < 0 then ((k : Int) + (n : Int)).toNat else min (k : Int).toNat n) = min k n
  rw [if_neg (by lia), Int.toNat_natCast]
theorem sIx_le (n d : Nat) (hd : d ≤ n) (o : Option Int) : sIx n d o ≤ n := by
  cases o with
  | none => exact hd
  | some v =>
    show (if v < 0 then (v + (n : Int)).toNat else min v.toNat n) ≤ n
    by_cases hv : v < 0
    · rw [if_pos hv]; lia
    · rw [if_neg hv]; exact Nat.min_le_right _ _
theorem clip_eq (v : Int) (n d : Nat) : (if v < 0 then max (v + (n : Int)) 0 else min v (n : Int)) = ((sIx n d (some v) : Nat) : Int) := by
  show (if v < 0 then max (v + (n : Int)) 0 else min v (n : Int)) = (((if v < 0 then (v + (n : Int)).toNat else min v.toNat n) : Nat) : Int)
  by_cases hv : v < 0
  · simp only [if_pos hv]; lia
  · simp only [if_neg hv]; lia
theorem adjust_gen (lo hi : Option Int) (n : Nat) : Builtin.Slice.sliceAdjust lo hi 1 (n : Int) = (((sIx n 0 lo : Nat) : Int), ((sIx n n hi : Nat) : Int)) := by
  have h1 : ¬ ((1 : Int) < 0) := by lia
  unfold Builtin.Slice.sliceAdjust
  simp only [h1, if_false]
  refine Prod.ext ?_ ?_
  · cases lo with
    | none => rfl
    | some v => exact clip_eq v n 0
  · cases hi with
    | none => rfl
    | some v => exact clip_eq v n n
theorem places_gen (i j : Nat) : Builtin.Slice.slicePlaces (i : Int) (j : Int) 1 = j - i := by
  unfold Builtin.Slice.slicePlaces
  have h1 : (1 : Int) > 0 := by lia
  simp only [h1, if_true, Int.ediv_one]
  split <;> lia
theorem slicePart_ {v : Value} {o : Option Int} {Q : Option Int → Shared → Prop} (p : IsPart v o) (h : Q o s) : wpAny (model prog w) A (Builtin.Slice.slicePartIndex v) Q E s := by
  cases p with
  | none => exact slicePart_none h
  | int i t => exact slicePart_int h
theorem sliceApplied_gen {sl : Addr} {vl vu : Value} {lo hi : Option Int} {n : Nat} {Q : Int × Int × Nat → Shared → Prop} (hs : s.heap.IsSliceOf sl vl vu .none) (pl : IsPart vl lo) (pu : IsPart vu hi)
    (h : Q (((sIx n 0 lo : Nat) : Int), 1, sIx n n hi - sIx n 0 lo) s) : wpAny (model prog w) A (Builtin.Slice.sliceApplied (.ref sl) (pure (n : Int))) Q E s := by
  obtain ⟨os, hos, hcs, hds⟩ := id hs
  unfold Builtin.Slice.sliceApplied Builtin.Slice.sliceFields
  refine wpAny_bind (wpAny_bind (wpAny_field hos hds (x := vl) rfl (wpAny_bind (wpAny_field hos hds (x := vu) rfl (wpAny_bind (wpAny_field hos hds (x := .none) rfl (wpAny_pure ?_)))))))
  refine wpAny_bind (slicePart_none ?_)
  show wpAny _ _ (if ((1 : Int) == 0) = true then _ else _) _ _ s
  rw [if_neg (by decide)]
  refine wpAny_bind (slicePart_ pl (wpAny_bind (slicePart_ pu (wpAny_bind (wpAny_pure ?_)))))
  show wpAny _ _ (match Builtin.Slice.sliceAdjust lo hi 1 (n : Int) with | (lo, hi) => pure (lo, (1 : Int), Builtin.Slice.slicePlaces lo hi 1)) _ _ s
  rw [adjust_gen lo hi n]
  show wpAny _ _ (pure (((sIx n 0 lo : Nat) : Int), (1 : Int), Builtin.Slice.slicePlaces ((sIx n 0 lo : Nat) : Int) ((sIx n n hi : Nat) : Int) 1)) _ _ s
  rw [places_gen]
  exact wpAny_pure h
theorem pick_gen (xs : Array Value) (i k : Nat) : ((List.range k).filterMap fun (m : Nat) => xs[((i : Int) + (m : Int) * 1).toNat]?).toArray = ((xs.toList.drop i).take k).toArray := by
  have e : (fun (m : Nat) => xs[((i : Int) + (m : Int) * 1).toNat]?) = fun m => xs[i + m]? := by
    funext m
    have : ((i : Int) + (m : Int) * 1).toNat = i + m := by lia
    rw [this]
  rw [e]
  have := pick_run xs i k
  rw [List.filterMap_map] at this
  have e2 : ((fun x => xs[x]?) ∘ fun x => i + x) = fun m => xs[i + m]? := rfl
  rw [e2] at this
  rw [this]
theorem getItem_tuple_cut {t sl : Addr} {items : Array Value} {vl vu : Value} {lo hi : Option Int} {Q : Value → Shared → Prop} (ht : IsTup s.heap t items) (hs : s.heap.IsSliceOf sl vl vu .none) (pl : IsPart vl lo) (pu : IsPart vu hi)
    (hw : ¬ (sIx items.size 0 lo = 0 ∧ sIx items.size items.size hi = items.size))
    (h : Q (.ref s.heap.objs.size) { s with heap := s.heap.push { cls := .type "tuple", data := .seq ((items.toList.drop (sIx items.size 0 lo)).take (sIx items.size items.size hi - sIx items.size 0 lo)).toArray } })
    (hsz : items.size ≤ sizeLine) : wpAny (model prog w) A (getItem (.ref t) (.ref sl)) Q E s := by
  have htake : sizeOk (.seq ((items.toList.drop (sIx items.size 0 lo)).take (sIx items.size items.size hi - sIx items.size 0 lo)).toArray) := by
    show ((items.toList.drop (sIx items.size 0 lo)).take (sIx items.size items.size hi - sIx items.size 0 lo)).toArray.size ≤ sizeLine
    rw [List.size_toArray, List.length_take, List.length_drop, Array.length_toList]
    lia
  have hj : sIx items.size items.size hi ≤ items.size := sIx_le _ _ (Nat.le_refl _) hi
  obtain ⟨os, hos, hcs, hds⟩ := id hs
  have hTs : s.TypeIs (.ref sl) "slice" := ⟨os, hos, hcs⟩
  unfold getItem
  try with_reducible refine wpAny_holding ?_
  first | refine wpAny_bind (wpAny_pure ?_) | skip
  refine wpAny_bind (wpAny_sequenceKey ht.typeIs (by decide) ?_)
  refine wpAny_bind (wpAny_callSpecial?_slot (name := Str.ofString "__getitem__") ht.typeIs PyProof.Rows.slot_tuple_getitem
    (wpAny_call_entry PyProof.Rows.slot_tuple_getitem ht.typeIs entry_tuple_getitem ?_ (args_tuple_getitem _ _)))
  show wpAny _ _ (Builtin.Tuple.tupleItemsOf (.ref t) >>= _) _ _ s
  refine wpAny_bind (tupleItemsOf_ ht ?_)
  refine wpAny_bind (wpAny_typeOf hTs ?_)
  rw [if_pos (by decide)]
  refine wpAny_bind (sliceApplied_gen hs pl pu ?_)
  have hno : ¬ ((((sIx items.size 0 lo : Nat) : Int) == 0 && (1 : Int) == 1 && (sIx items.size items.size hi - sIx items.size 0 lo) == items.size) = true) := by
    intro q
    rw [Bool.and_eq_true, Bool.and_eq_true] at q
    have q1 : ((sIx items.size 0 lo : Nat) : Int) = 0 := eq_of_beq q.1.1
    have q2 : sIx items.size items.size hi - sIx items.size 0 lo = items.size := eq_of_beq q.2
    exact hw ⟨by lia, by lia⟩
  show wpAny _ _ (if (((sIx items.size 0 lo : Nat) : Int) == 0 && (1 : Int) == 1 && (sIx items.size items.size hi - sIx items.size 0 lo) == items.size) = true then _ else _) _ _ s
  rw [if_neg hno, pick_gen]
  first
    | exact wpAny_bind (m := Builtin.Tuple.tupleExact _) (wpAny_newObj_type (wpAny_pure ⟨_, rfl, wpAny_pure h⟩) htake)
    | exact wpAny_bind (m := Builtin.Tuple.tupleExact _) (wpAny_newObj_type (wpAny_bind (wpAny_pure (wpAny_pure ⟨_, rfl, wpAny_pure h⟩))) htake)
    | exact wpAny_bind (wpAny_bind (m := Builtin.Tuple.tupleExact _) (wpAny_newObj_type (wpAny_pure (wpAny_pure ⟨_, rfl, wpAny_pure h⟩)) htake))
    | exact wpAny_bind (wpAny_bind (m := Builtin.Tuple.tupleExact _) (wpAny_newObj_type (wpAny_pure ⟨_, rfl, wpAny_pure h⟩) htake))
end
end HT
namespace L2
open PySem PySem.Spec PyProof.Rows
noncomputable abbrev TO := St → Hp → (Option Int → Hp → Prop) → Prop
noncomputable def PO (X : Cx) (e : Option Expr) (t : TO) : Prop :=
  ∀ (pins : List (Addr × Obj)) (s : Shared) (σ : St) (H : Hp) (Q : Option Int → Hp → Prop), Inv X pins σ H s → t σ H Q →
    wpAny (model X.prog X.w) X.A (evalPart e X.env) (fun u s' => ∃ o H', Inv X pins σ H' s' ∧ IsPart u o ∧ Q o H') X.xe s
noncomputable def tNoPart : TO := fun _ H Q => Q none H
noncomputable def tPart (t : TE) : TO := fun σ H Q => t σ H fun x H1 => ∃ i, x = .int i ∧ Q (some i) H1
section
variable {X : Cx} {e : Expr} {te : TE} {lo hi : Option Expr} {tl th : TO} {pos p2 : Pos}
theorem po_none : PO X none tNoPart := by
  intro pins s σ H Q I h
  rw [evalPart_none]
  exact wpAny_pure ⟨none, H, I, .none, h⟩
theorem po_some (h : PE X e te) : PO X (some e) (tPart te) := by
  intro pins s σ H Q I hw
  rw [evalPart_some]
  refine thn (h pins s σ H _ I hw) fun u s1 hp0 => ?_
  obtain ⟨x, H1, I1, r1, q1⟩ := hp0
  obtain ⟨i, rfl, q⟩ := q1
  obtain ⟨t, rfl⟩ := r1
  exact ⟨some i, H1, I1, .int i t, q⟩
noncomputable def SlR (X : Cx) (r : V → Option Int → Option Int → Hp → VK → Prop) : Prop :=
  ∀ (pins : List (Addr × Obj)) (s : Shared) (σ : St) (H : Hp) (x : V) (v vl vu : Value) (lo hi : Option Int) (sl : Addr) (Q : VK), Inv X pins σ H s → RelV x v → s.heap.IsSliceOf sl vl vu .none → IsPart vl lo → IsPart vu hi → r x lo hi H Q →
    ∃ T id, typeLookup (.type T) "__getitem__" = pure (some (.builtin id)) ∧ s.TypeIs v T ∧ wpAny (model X.prog X.w) X.A (getItem v (.ref sl)) (EP X pins σ Q) X.xe s
noncomputable def tSl (r : V → Option Int → Option Int → Hp → VK → Prop) (te : TE) (tl th : TO) : TE := fun σ H Q => te σ H fun x H1 => tl σ H1 fun l H2 => th σ H2 fun u H3 => r x l u H3 Q
theorem pe_slice {r : V → Option Int → Option Int → Hp → VK → Prop} (hr : SlR X r) (he : PE X e te) (hl : PO X lo tl) (hu : PO X hi th) : PE X (.Subscript e (.Slice lo hi none p2) pos) (tSl r te tl th) := by
  intro pins s σ H Q I h
  refine Subscript_ (thn (he pins s σ H _ I h) fun v s1 hp0 => ?_)
  obtain ⟨x, H1, I1, r1, q1⟩ := hp0
  refine wpAny_Slice (thn (hl pins s1 σ H1 _ I1 q1) fun vl s2 hp0 => ?_)
  obtain ⟨l, H2, I2, pl, q2⟩ := hp0
  refine thn (hu pins s2 σ H2 _ I2 q2) fun vu s3 hp1 => ?_
  obtain ⟨u, H3, I3, pu, q3⟩ := hp1
  rw [evalPart_none]
  refine wpAny_pure ?_
  have I4 : Inv X pins σ H3 { s3 with heap := s3.heap.push { cls := .type "slice", data := .fields #[vl, vu, .none] } } := I3.kept (t' := s3.toks) fun b ob q => Heap.get?_push_of_some _ q
  obtain ⟨T, id, hT, ht, hg⟩ := hr pins { s3 with heap := s3.heap.push { cls := .type "slice", data := .fields #[vl, vu, .none] } } σ H3 x v vl vu l u s3.heap.objs.size Q I4 r1 (Heap.IsSliceOf.new ..) pl pu q3
  show wpAny (model X.prog X.w) X.A (subscriptTail e (.Slice lo hi none p2) v (.ref s3.heap.objs.size)) (EP X pins σ Q) X.xe { s3 with heap := s3.heap.push { cls := .type "slice", data := .fields #[vl, vu, .none] } }
  exact tail_any (ops := [.ref s3.heap.objs.size, v]) ht hT hg (by with_unfolding_all rfl)
noncomputable def cutV (xs : List V) (lo hi : Option Int) : List V := (xs.drop (HT.sIx xs.length 0 lo)).take (HT.sIx xs.length xs.length hi - HT.sIx xs.length 0 lo)
theorem cutV_length (xs : List V) (lo hi : Option Int) : (cutV xs lo hi).length ≤ xs.length := by
  unfold cutV
  rw [List.length_take, List.length_drop]
  lia
noncomputable def rSlT (K : PySem.W.Frag) : V → Option Int → Option Int → Hp → VK → Prop := fun x lo hi H Q => ∃ a xs, x = .ref a ∧ SqT K H a xs ∧
  ¬ (HT.sIx xs.length 0 lo = 0 ∧ HT.sIx xs.length xs.length hi = xs.length) ∧ ∀ p, H p = none → Q (.ref p) (upd H p (.tup (cutV xs lo hi)))
theorem sl_tup : SlR X (rSlT X.K) := by
  intro pins s σ H x v vl vu lo hi sl Q I rx hs pl pu h
  obtain ⟨a, xs, rfl, hx, hw, q⟩ := h
  cases rx
  obtain ⟨its, r, ht, hz⟩ := I.tuple hx
  have hlen : its.toArray.size = xs.length := by rw [List.size_toArray]; exact r.length.symm
  refine ⟨"tuple", _, PyProof.Rows.slot_tuple_getitem.lookup, ht.typeIs, ?_⟩
  refine HT.getItem_tuple_cut ht hs pl pu (by rw [hlen]; exact hw) ?_ (by rw [hlen]; exact hz)
  rw [hlen]
  refine ⟨.ref s.heap.objs.size, _, I.laid (t' := s.toks) (o := .tup (cutV xs lo hi)) (fun b ob q => Heap.get?_push_of_some _ q) (Nat.le_refl _) ?_, rfl, q _ (I.hok.fresh (Nat.le_refl _))⟩
  exact ⟨Nat.le_trans (cutV_length xs lo hi) hz, _, (r.drop (HT.sIx xs.length 0 lo)).take (HT.sIx xs.length xs.length hi - HT.sIx xs.length 0 lo), IsTup.new _ _⟩
end
end L2
namespace L2
open PySem PySem.Spec PyProof.Rows
noncomputable def ixN (n : Nat) (i : Int) : Option Nat := if 0 ≤ i then (if i < n then some i.toNat else none) else if -(n : Int) ≤ i then some (i + n).toNat else none
noncomputable def atI {α : Type} (xs : List α) (i : Int) : Option α := (ixN xs.length i).bind fun j => xs[j]?
theorem ixN_seq {n : Nat} {i : Int} {j : Nat} (h : ixN n i = some j) : seqIndex? i n = some j ∧ j < n ∧ -(n : Int) ≤ i ∧ i < n := by
  unfold ixN at h
  by_cases h0 : 0 ≤ i
  · rw [if_pos h0] at h
    by_cases h1 : i < n
    · rw [if_pos h1] at h
      have e : i.toNat = j := Option.some.inj h
      exact ⟨by rw [seqIndex_of h0 h1, e], by lia, by lia, h1⟩
    · rw [if_neg h1] at h; cases h
  · rw [if_neg h0] at h
    by_cases h1 : -(n : Int) ≤ i
    · rw [if_pos h1] at h
      have e : (i + n).toNat = j := Option.some.inj h
      exact ⟨by rw [seqIndex_neg (by lia) h1, e], by lia, h1, by lia⟩
    · rw [if_neg h1] at h; cases h
theorem atI_get {α : Type} {xs : List α} {i : Int} {v : α} (h : atI xs i = some v) : ∃ j, seqIndex? i xs.length = some j ∧ xs[j]? = some v ∧ j < xs.length ∧ -(xs.length : Int) ≤ i ∧ i < xs.length := by
  unfold atI at h
  cases e : ixN xs.length i with
  | none => rw [e] at h; cases h
  | some j =>
    rw [e] at h
    obtain ⟨h1, h2, h3, h4⟩ := ixN_seq e
    exact ⟨j, h1, h, h2, h3, h4⟩
theorem atI_nat {α : Type} {xs : List α} {j : Nat} {v : α} (h : xs[j]? = some v) : atI xs (j : Int) = some v := by
  have hj : j < xs.length := (List.getElem?_eq_some_iff.mp h).1
  have e : ixN xs.length (j : Int) = some j := by
    unfold ixN
    rw [if_pos (by lia), if_pos (by lia)]; simp
  unfold atI; rw [e]; exact h
noncomputable def PlainIx (b : Expr) : Prop := ∀ o i, subscripted b false o i = operate [o, i] (getItem o i)
noncomputable def IxR (X : Cx) (r : R2) : Prop :=
  ∀ (value slice : Expr) (pins : List (Addr × Obj)) (s : Shared) (σ : St) (H : Hp) (x y : V) (v u : Value) (Q : VK), Inv X pins σ H s → RelV x v → RelV y u → r x y H Q →
    subscripted slice false v u = operate [v, u] (getItem v u) → wpAny (model X.prog X.w) X.A (subscriptTail value slice v u) (EP X pins σ Q) X.xe s
noncomputable def MtR (X : Cx) (id : String) (r : V → List V → Hp → VK → Prop) : Prop :=
  ∀ (pins : List (Addr × Obj)) (s : Shared) (σ : St) (H : Hp) (x : V) (xs : List V) (v : Value) (us : List Value) (Q : VK), Inv X pins σ H s → RelV x v → Vals xs us → r x xs H Q →
    wpAny (model X.prog X.w) X.A (call (.builtin id) (v :: us)) (EP X pins σ Q) X.xe s
section
variable {X : Cx} {a b : Expr} {ta tb : TE} {pos : Pos}
theorem pe_ix {r : R2} (hr : IxR X r) (ha : PE X a ta) (hb : PE X b tb) (hs : PlainIx b) : PE X (.Subscript a b pos) (tOp r ta tb) := by
  intro pins s σ H Q I h
  exact Subscript_ (binT ha hb I h fun v u s2 x y H2 I2 rx ry q => hr a b pins s2 σ H2 x y v u Q I2 rx ry q (hs _ _))
inductive rIxL (K : PySem.W.Frag) (x : V) (y : V) (H : Hp) (Q : VK) : Prop
  | mk (p : _) (xs : _) (i : _) (v : _) (c0 : x = .ref p) (c1 : y = .int i) (c2 : SqL K H p xs) (c3 : atI xs i = some v) (c4 : Q v H) : rIxL K x y H Q
inductive rIxT (K : PySem.W.Frag) (x : V) (y : V) (H : Hp) (Q : VK) : Prop
  | mk (p : _) (xs : _) (i : _) (v : _) (c0 : x = .ref p) (c1 : y = .int i) (c2 : SqT K H p xs) (c3 : atI xs i = some v) (c4 : Q v H) : rIxT K x y H Q
noncomputable def rIxS : R2 := fun x y H Q => ∃ z i c, x = .str z ∧ y = .int i ∧ z.length ≤ sizeLine ∧ atI z.cps.toList i = some c ∧ Q (.str ⟨#[c]⟩) H
theorem ix_list : IxR X (rIxL X.K) := by
  intro value slice pins s σ H x y v u Q I rx ry h hs
  obtain ⟨p, xs, i, z, rfl, rfl, hq, he, q⟩ := h
  cases rx
  obtain ⟨t, rfl⟩ := ry
  obtain ⟨its, r, pl, hz⟩ := I.list hq
  obtain ⟨j, h1, h2, h3, h4, h5⟩ := atI_get he
  obtain ⟨w, ew, rw'⟩ := r.get h2
  have hl := r.length
  have hn := line63
  have fin : EP X pins σ Q w s := ⟨z, H, I, rw', q⟩
  by_cases h0 : 0 ≤ i
  · have hj : i.toNat = j := by
      rw [seqIndex_of h0 h5] at h1
      exact Option.some.inj h1
    exact item_listR pl.isList h0 (by lia) (by rw [hj]; simpa using ew) fin hs
  · have hj : (i + (its.toArray.size : Int)).toNat = j := by
      rw [seqIndex_neg (by lia) h4] at h1
      rw [List.size_toArray, ← hl]
      exact Option.some.inj h1
    exact subscriptTail_builtinR (x := w) pl.isList.typeIs slot_list_getitem.lookup
      (wpAny_getItem_list_neg (Q := fun r s' => r = w ∧ EP X pins σ Q r s') pl.isList (by lia) (by rw [List.size_toArray] <;> lia) (by lia) (by rw [hj]; simpa using ew) ⟨rfl, fin⟩) hs
theorem ix_tup : IxR X (rIxT X.K) := by
  intro value slice pins s σ H x y v u Q I rx ry h hs
  obtain ⟨p, xs, i, z, rfl, rfl, hq, he, q⟩ := h
  cases rx
  obtain ⟨t, rfl⟩ := ry
  obtain ⟨its, r, pl, hz⟩ := I.tuple hq
  obtain ⟨j, h1, h2, h3, h4, h5⟩ := atI_get he
  obtain ⟨w, ew, rw'⟩ := r.get h2
  have hl := r.length
  have hn := line63
  have fin : EP X pins σ Q w s := ⟨z, H, I, rw', q⟩
  exact subscriptTail_builtinR (x := w) pl.typeIs slot_tuple_getitem.lookup
    (getItem_tuple (j := j) (Q := fun r s' => r = w ∧ EP X pins σ Q r s') pl (by lia) (by lia) (by rw [List.size_toArray, ← hl]; exact h1) (by simpa using ew) ⟨rfl, fin⟩) hs
theorem ix_str : IxR X rIxS := by
  intro value slice pins s σ H x y v u Q I rx ry h hs
  obtain ⟨z, i, c, rfl, rfl, hz, he, q⟩ := h
  obtain ⟨t, rfl⟩ := rx
  obtain ⟨t', rfl⟩ := ry
  obtain ⟨j, h1, h2, h3, h4, h5⟩ := atI_get he
  have hl : z.cps.toList.length = z.length := by simp [Str.length]
  rw [hl] at h1 h4 h5
  have hn := line63
  exact tail_any (typeIs_str s z t) slot_str_getitem.lookup (getItem_str (c := c) (by
    have e1 : decide (i < -(2 ^ 63 : Int)) = false := decide_eq_false (by lia)
    have e2 : decide (i ≥ 2 ^ 63) = false := decide_eq_false (by lia)
    rw [e1, e2, Bool.or_false]) (by rw [h1]; simpa using h2) ⟨.str ⟨#[c]⟩, H, I.tok _, ⟨_, rfl⟩, q⟩) hs
theorem slice_bounds (lo hi : Option Int) (n : Nat) : (sliceBounds lo hi none n).1 = ((HT.sIx n 0 lo : Nat) : Int) ∧ (sliceBounds lo hi none n).2.1 = ((HT.sIx n n hi : Nat) : Int) ∧ (sliceBounds lo hi none n).2.2 = 1 := by
  refine ⟨?_, ?_, rfl⟩
  · cases lo with
    | none => simp [sliceBounds, HT.sIx]
    | some i =>
      simp only [sliceBounds, HT.sIx, Option.getD_none, show (1 : Int) > 0 by decide, if_true]
      by_cases h : i < 0
      · simp only [h, if_true] <;> lia
      · simp only [h, if_false] <;> lia
  · cases hi with
    | none => simp [sliceBounds, HT.sIx]
    | some i =>
      simp only [sliceBounds, HT.sIx, Option.getD_none, show (1 : Int) > 0 by decide, if_true]
      by_cases h : i < 0
      · simp only [h, if_true] <;> lia
      · simp only [h, if_false] <;> lia
theorem slicePick_cut (its : List Value) (lo hi : Option Int) : slicePick its.toArray lo hi none = ((its.drop (HT.sIx its.length 0 lo)).take (HT.sIx its.length its.length hi - HT.sIx its.length 0 lo)).toArray := by
  obtain ⟨h1, h2, h3⟩ := slice_bounds lo hi its.toArray.size
  unfold slicePick
  rw [h1, h2, h3]
  simp only [sliceRange_one, pick_run, List.size_toArray] <;> rfl
noncomputable def rSlL (K : PySem.W.Frag) : V → Option Int → Option Int → Hp → VK → Prop := fun x lo hi H Q => ∃ a xs, x = .ref a ∧ SqL K H a xs ∧ ∀ p, H p = none → Q (.ref p) (upd H p (.lst (cutV xs lo hi)))
theorem sl_list : SlR X (rSlL X.K) := by
  intro pins s σ H x v vl vu lo hi sl Q I rx hs pl pu h
  obtain ⟨a, xs, rfl, hx, q⟩ := h
  cases rx
  obtain ⟨its, r, ht, hz⟩ := I.list hx
  have hlen := r.length
  refine ⟨"list", _, slot_list_getitem.lookup, ht.isList.typeIs, ?_⟩
  refine wpAny_getItem_list_slice ht.isList hs pl pu .none (by simp) ?_ (by rw [List.size_toArray] <;> lia)
  rw [slicePick_cut, ← hlen]
  refine ⟨.ref s.heap.objs.size, _, I.laid (t' := s.toks) (o := .lst (cutV xs lo hi)) (fun b ob q => Heap.get?_push_of_some _ q) (Nat.le_refl _) ?_, rfl, q _ (I.hok.fresh (Nat.le_refl _))⟩
  exact ⟨Nat.le_trans (cutV_length xs lo hi) hz, _, 0, (r.drop (HT.sIx xs.length 0 lo)).take (HT.sIx xs.length xs.length hi - HT.sIx xs.length 0 lo), Heap.get?_push_size _ rfl⟩
noncomputable def flatV : V → Bool
  | .non => true
  | .bl _ => true
  | .int _ => true
  | .str _ => true
  | _ => false
noncomputable def eqV : V → V → Bool
  | .non, .non => true
  | .bl a, .bl b => a == b
  | .bl a, .int b => (if a then 1 else 0) == b
  | .int a, .bl b => a == (if b then 1 else 0)
  | .int a, .int b => a == b
  | .str a, .str b => a == b
  | _, _ => false
theorem eqAt_V {A : Around} {s : Shared} {y x : V} {u v : Value} (ry : RelV y u) (rx : RelV x v) (fy : flatV y = true) (fx : flatV x = true) : SeqAt.EqAt A s u v (eqV y x) := by
  cases y with
  | non =>
    cases ry
    cases x with
    | non => cases rx; exact SeqAt.EqAt.same _
    | bl b => cases rx; exact SeqAt.EqAt.none_bool b
    | int b => obtain ⟨t, rfl⟩ := rx; exact SeqAt.EqAt.none_int b t
    | str b => obtain ⟨t, rfl⟩ := rx; exact SeqAt.EqAt.none_str b t
    | _ => exact absurd (show false = true from fx) Bool.false_ne_true
  | bl a =>
    cases ry
    cases x with
    | non => cases rx; exact SeqAt.EqAt.bool_none a
    | bl b => cases rx; exact SeqAt.EqAt.bool_bool a b
    | int b => obtain ⟨t, rfl⟩ := rx; exact SeqAt.EqAt.bool_int a b t
    | str b => obtain ⟨t, rfl⟩ := rx; exact SeqAt.EqAt.bool_str a b t
    | _ => exact absurd (show false = true from fx) Bool.false_ne_true
  | int a =>
    obtain ⟨t', rfl⟩ := ry
    cases x with
    | non => cases rx; exact SeqAt.EqAt.int_none a t'
    | bl b => cases rx; exact SeqAt.EqAt.int_bool a t' b
    | int b => obtain ⟨t, rfl⟩ := rx; exact SeqAt.EqAt.int_int a t' b t
    | str b => obtain ⟨t, rfl⟩ := rx; exact SeqAt.EqAt.int_str a t' b t
    | _ => exact absurd (show false = true from fx) Bool.false_ne_true
  | str a =>
    obtain ⟨t', rfl⟩ := ry
    cases x with
    | non => cases rx; exact SeqAt.EqAt.str_none a t'
    | bl b => cases rx; exact SeqAt.EqAt.str_bool a t' b
    | int b => obtain ⟨t, rfl⟩ := rx; exact SeqAt.EqAt.str_int a t' b t
    | str b => obtain ⟨t, rfl⟩ := rx; exact SeqAt.EqAt.str_str a t' b t
    | _ => exact absurd (show false = true from fx) Bool.false_ne_true
  | _ => exact absurd (show false = true from fy) Bool.false_ne_true
noncomputable def eqU (x : V) (u : Value) : Bool := match u with
  | .none => eqV .non x
  | .bool b => eqV (.bl b) x
  | .int i _ => eqV (.int i) x
  | .str z _ => eqV (.str z) x
  | _ => false
theorem eqU_of {x y : V} {u : Value} (r : RelV y u) (f : flatV y = true) : eqU x u = eqV y x := by
  cases y with
  | non => cases r; rfl
  | bl b => cases r; rfl
  | int i => obtain ⟨t, rfl⟩ := r; rfl
  | str z => obtain ⟨t, rfl⟩ := r; rfl
  | _ => exact absurd (show false = true from f) Bool.false_ne_true
theorem any_eqU {x : V} : ∀ {xs : List V} {us : List Value}, Vals xs us → xs.all flatV = true → us.any (eqU x) = xs.any fun y => eqV y x
  | _, _, .nil, _ => rfl
  | y :: xs, u :: us, .cons r t, f => by
    rw [List.all_cons, Bool.and_eq_true] at f
    rw [List.any_cons, List.any_cons, eqU_of r f.1, any_eqU t f.2]
theorem mem_eqAt {A : Around} {s : Shared} {x : V} {v : Value} (rx : RelV x v) (fx : flatV x = true) : ∀ {xs : List V} {us : List Value}, Vals xs us → xs.all flatV = true → ∀ u ∈ us, SeqAt.EqAt A s u v (eqU x u)
  | _, _, .nil, _ => fun u hu => by cases hu
  | y :: xs, u :: us, .cons r t, f => fun u' hu => by
    rw [List.all_cons, Bool.and_eq_true] at f
    rcases List.mem_cons.mp hu with rfl | hu
    · rw [eqU_of r f.1]; exact eqAt_V r rx f.1 fx
    · exact mem_eqAt rx fx t f.2 u' hu
noncomputable def inV (x : V) (xs : List V) : Bool := xs.any fun y => eqV y x
inductive rIn (K : PySem.W.Frag) (neg : Bool) (x : V) (y : V) (H : Hp) (Q : VK) : Prop
  | mk (p : _) (xs : _) (c0 : y = .ref p) (c1 : (SqL K H p xs ∨ SqT K H p xs)) (c2 : flatV x = true) (c3 : xs.all flatV = true) (c4 : Q (.bl (if neg then !inV x xs else inV x xs)) H) : rIn K neg x y H Q
theorem op_in_seq : OpR X (compareOp .In) (rIn X.K false) := by
  intro pins s σ H x y v u Q I rx ry h
  obtain ⟨p, xs, rfl, hq, fx, fs, q⟩ := h
  cases ry
  rcases hq with hq | hq
  · obtain ⟨its, r, pl, hz⟩ := I.list hq
    refine SeqAt.in_listAt (eqU x) pl.isList (fun w hw => mem_eqAt rx fx r fs w (by simpa using hw)) ⟨.bl _, H, I, rfl, ?_⟩
    rw [show its.toArray.any (eqU x) = its.any (eqU x) by simp, any_eqU r fs]
    exact q
  · obtain ⟨its, r, pl, hz⟩ := I.tuple hq
    refine SeqAt.in_tupleAt (eqU x) pl (fun w hw => mem_eqAt rx fx r fs w (by simpa using hw)) ⟨.bl _, H, I, rfl, ?_⟩
    rw [show its.toArray.any (eqU x) = its.any (eqU x) by simp, any_eqU r fs]
    exact q
theorem op_notIn_seq : OpR X (compareOp .NotIn) (rIn X.K true) := by
  intro pins s σ H x y v u Q I rx ry h
  obtain ⟨p, xs, rfl, hq, fx, fs, q⟩ := h
  cases ry
  rcases hq with hq | hq
  · obtain ⟨its, r, pl, hz⟩ := I.list hq
    refine SeqAt.notIn_listAt (eqU x) pl.isList (fun w hw => mem_eqAt rx fx r fs w (by simpa using hw)) ⟨.bl _, H, I, rfl, ?_⟩
    rw [show its.toArray.any (eqU x) = its.any (eqU x) by simp, any_eqU r fs]
    exact q
  · obtain ⟨its, r, pl, hz⟩ := I.tuple hq
    refine SeqAt.notIn_tupleAt (eqU x) pl (fun w hw => mem_eqAt rx fx r fs w (by simpa using hw)) ⟨.bl _, H, I, rfl, ?_⟩
    rw [show its.toArray.any (eqU x) = its.any (eqU x) by simp, any_eqU r fs]
    exact q
theorem call_list_of : CallR X (.type "list") (fun xs H Q => ∃ p ys, xs = [.ref p] ∧ (SqL X.K H p ys ∨ SqT X.K H p ys) ∧ ∀ l, H l = none → Q (.ref l) (upd H l (.lst ys))) := by
  intro pins s σ H xs us Q I r h
  obtain ⟨p, ys, rfl, hq, q⟩ := h
  obtain ⟨u, rfl, rx⟩ := vals1 r
  cases rx
  have fin : ∀ (its : List Value), Vals ys its → ys.length ≤ sizeLine → ∀ (h' : Heap) (c' : Nat), (∀ b o', s.heap.get? b = some o' → h'.get? b = some o') →
      h'.get? s.heap.objs.size = some { cls := .type "list", dict := none, data := .seq its.toArray c', slots := #[] } → EP X pins σ Q (.ref s.heap.objs.size) { s with heap := h' } := fun its r' hz h' c' kp e =>
    ⟨.ref s.heap.objs.size, _, I.laid (t' := s.toks) kp (Nat.le_refl _) (show ObjOk X.prog X.w _ h' _ (.lst ys) from ⟨hz, its, c', r', e⟩), rfl, q _ (I.hok.fresh (Nat.le_refl _))⟩
  rcases hq with hq | hq
  · obtain ⟨its, r', pl, hz⟩ := I.list hq
    have hlen := r'.length
    obtain ⟨o, ho, hc, n, hd⟩ := pl.isList
    exact call_list_seq p (.inl rfl) ho hc hd (fun h' c' kp e => fin its r' hz h' c' kp e) (by simp only [List.size_toArray] <;> lia)
  · obtain ⟨its, r', pl, hz⟩ := I.tuple hq
    have hlen := r'.length
    obtain ⟨o, ho, hc, n, hd⟩ := pl
    exact call_list_seq p (.inr rfl) ho hc hd (fun h' c' kp e => fin its r' hz h' c' kp e) (by simp only [List.size_toArray] <;> lia)
theorem call_tuple_of : CallR X (.type "tuple") (fun xs H Q => ∃ p ys, xs = [.ref p] ∧ ((SqL X.K H p ys ∧ ∀ l, H l = none → Q (.ref l) (upd H l (.tup ys))) ∨ (SqT X.K H p ys ∧ Q (.ref p) H))) := by
  intro pins s σ H xs us Q I r h
  obtain ⟨p, ys, rfl, h⟩ := h
  obtain ⟨u, rfl, rx⟩ := vals1 r
  cases rx
  rcases h with ⟨hq, q⟩ | ⟨hq, q⟩
  · obtain ⟨its, r', pl, hz⟩ := I.list hq
    have hlen := r'.length
    refine call_tuple_list pl.isList (fun h' kp => ?_) (by simp only [List.size_toArray] <;> lia)
    have I1 : Inv X pins σ H { s with heap := h' } := I.kept (t' := s.toks) kp
    have I2 : Inv X pins σ (upd H h'.objs.size (.tup ys)) { s with heap := h'.push { cls := .type "tuple", data := .seq its.toArray } } :=
      I1.laid (t' := s.toks) (fun b o e => Heap.get?_push_of_some _ e) (Nat.le_refl _) (show ObjOk X.prog X.w _ _ _ (.tup ys) from ⟨hz, its, r', IsTup.new _ _⟩)
    exact ⟨.ref h'.objs.size, _, I2, rfl, q _ (I1.hok.fresh (Nat.le_refl _))⟩
  · obtain ⟨its, r', pl, hz⟩ := I.tuple hq
    exact call_tuple_same pl ⟨.ref p, H, I, rfl, q⟩
noncomputable def tyV (K : PySem.W.Frag) (T : String) (x : V) (H : Hp) : Prop := match x with
  | .str _ => T = "str"
  | .int _ => T = "int"
  | .ref p => (T = "list" ∧ ∃ xs, SqL K H p xs) ∨ (T = "tuple" ∧ ∃ o, K.lookup p = some o ∧ o.cls = .type "tuple" ∧ o.dict = none) ∨
      (T = "dict" ∧ ((∃ kvs, H p = some (.dK kvs)) ∨ ∃ kvs, H p = some (.dT kvs))) ∨ (T = "set" ∧ ∃ S n, H p = some (.set S n))
  | _ => False
theorem tyV_is {pins : List (Addr × Obj)} {σ : St} {H : Hp} {s : Shared} {T : String} {x : V} {v : Value} (I : Inv X pins σ H s) (r : RelV x v) (ty : tyV X.K T x H) :
    s.TypeIs v T ∧ ∀ a, v = .ref a → ∃ ob, s.heap.get? a = some ob ∧ ob.dict = none := by
  cases x with
  | str z =>
    obtain ⟨t, rfl⟩ := r
    cases (show T = "str" from ty)
    exact ⟨typeIs_str s z t, fun _ e => nomatch e⟩
  | int i =>
    obtain ⟨t, rfl⟩ := r
    cases (show T = "int" from ty)
    exact ⟨typeIs_int s i t, fun _ e => nomatch e⟩
  | ref p =>
    cases r
    rcases ty with ⟨rfl, xs, hq⟩ | ⟨rfl, o, hk, hc, hd⟩ | ⟨rfl, hk⟩ | ⟨rfl, S, n, hk⟩
    · obtain ⟨its, _, pl, _⟩ := I.list hq
      refine ⟨pl.isList.typeIs, fun a e => ?_⟩
      cases e
      obtain ⟨o, n, e, c, hd, _⟩ := pl
      exact ⟨o, e, hd⟩
    · refine ⟨⟨o, I.kIn p o hk, hc⟩, fun a e => ?_⟩
      cases e
      exact ⟨o, I.kIn _ o hk, hd⟩
    · have z : ∃ o, s.heap.get? p = some o ∧ o.ExactDict := by
        rcases hk with ⟨kvs, hk⟩ | ⟨kvs, hk⟩
        · obtain ⟨_, _, _, _, o, _, _, e, ex, _⟩ := I.hok p _ hk
          exact ⟨o, e, ex⟩
        · obtain ⟨_, _, _, _, o, _, _, e, ex, _⟩ := I.hok p _ hk
          exact ⟨o, e, ex⟩
      obtain ⟨o, e, ex⟩ := z
      refine ⟨⟨o, e, ex.1⟩, fun a e2 => ?_⟩
      cases e2
      exact ⟨o, e, ex.2.1⟩
    · obtain ⟨o, _, _, _, e, ex, _⟩ := I.hok p _ hk
      refine ⟨⟨o, e, ex.1⟩, fun a e2 => ?_⟩
      cases e2
      exact ⟨o, e, ex.2.1⟩
  | _ => exact False.elim ty
noncomputable def tBM0 (K : PySem.W.Frag) (T : String) (r : V → List V → Hp → VK → Prop) (to : TE) : TE := fun σ H Q => to σ H fun x H1 => tyV K T x H1 ∧ r x [] H1 Q
noncomputable def tBM (K : PySem.W.Frag) (T : String) (r : V → List V → Hp → VK → Prop) (to : TE) (t : TA) : TE := fun σ H Q => to σ H fun x H1 => tyV K T x H1 ∧ t σ H1 fun xs H2 => r x xs H2 Q
variable {o e : Expr} {es : List Expr} {to : TE} {t : TA} {name : Str} {apos cpos : Pos} {T id : String} {r : V → List V → Hp → VK → Prop}
theorem pe_bm0 (pa : PlainAttrs T) (slot : Slot T name id) (hty : typeOf (.builtin id) = pure (.type "method_descriptor")) (hm : MtR X id r) (ho : PE X o to)
    (hbase : attributeBase o name X.env (eval o X.env) = eval o X.env := by rfl) (hline : (apos.endLine == cpos.line) = true := by rfl) : PE X (.Call (.Attribute o name apos) [] [] cpos) (tBM0 X.K T r to) := by
  intro pins s σ H Q I h
  refine wpAny_Call_method0_late hbase hline (thn (ho pins s σ H _ I h) fun v s1 hp0 => ?_)
  obtain ⟨x, H1, I1, r1, ty, q1⟩ := hp0
  obtain ⟨h1, h2⟩ := tyV_is I1 r1 ty
  exact ⟨T, id, pa, slot, hty, h1, h2, Calls.callWith_builtin rfl (PySem.evalArgs_none (hm pins s1 σ H1 x [] v [] Q I1 r1 .nil q1))⟩
theorem pe_bm (pa : PlainAttrs T) (slot : Slot T name id) (hty : typeOf (.builtin id) = pure (.type "method_descriptor")) (hm : MtR X id r) (ho : PE X o to) (ha : PA X (e :: es) t)
    (hbase : attributeBase o name X.env (eval o X.env) = eval o X.env := by rfl)
    (hfew : ((backTo cpos (starEach (e :: es) X.env)).all (fun x => !x.1) && (backToKw cpos (keywordEach [] X.env)).all (fun x => x.1.isSome)
      && decide ((e :: es).length + ([] : List Keyword).length + (if ([] : List Keyword).isEmpty then 0 else 1) < 30)) = true := by rfl)
    (hline : (apos.endLine == cpos.line) = true := by rfl) (hs : starEach (e :: es) X.env = (false, eval e X.env) :: starEach es X.env := by rfl) (hplain : (backTo cpos (starEach es X.env)).any (·.1) = false := by rfl) :
    PE X (.Call (.Attribute o name apos) (e :: es) [] cpos) (tBM X.K T r to t) := by
  intro pins s σ H Q I h
  refine wpAny_Call_method_late hbase hfew hline rfl (thn (ho pins s σ H _ I h) fun v s1 hp0 => ?_)
  obtain ⟨x, H1, I1, r1, ty, q1⟩ := hp0
  obtain ⟨h1, h2⟩ := tyV_is I1 r1 ty
  refine ⟨T, id, pa, slot, hty, h1, h2, ?_⟩
  have hA := ha cpos pins s1 σ H1 _ I1 q1
  rw [hs] at hA ⊢
  refine Calls.callWith_builtin (by show (false || (backTo cpos (starEach es X.env)).any (·.1)) = false; rw [hplain] <;> rfl) (Calls.evalArgs_plain ?_)
  exact thn hA fun us s2 hp0 => by obtain ⟨vs, H2, I2, r2, q2⟩ := hp0; exact hm pins s2 σ H2 x vs v us Q I2 r1 r2 q2
end
end L2
namespace L2
open PySem PySem.Spec PyProof.Rows
noncomputable def MtM (X : Cx) (id : String) (r : V → List V → Hp → VK → Prop) : Prop :=
  ∀ (pins : List (Addr × Obj)) (s : Shared) (σ : St) (H : Hp) (x : V) (xs : List V) (v : Value) (us : List Value) (Q : VK), Inv X pins σ H s → RelV x v → Vals xs us → r x xs H Q →
    wpAny (model X.prog X.w) X.A (call (.builtin id) (v :: us)) (EP X pins σ Q) X.xe s
theorem Vals.one : ∀ {x : V} {us : List Value}, Vals [x] us → ∃ u, us = [u] ∧ RelV x u
  | _, _, .cons r .nil => ⟨_, rfl, r⟩
theorem Vals.zero : ∀ {us : List Value}, Vals [] us → us = []
  | _, .nil => rfl
theorem Vals.reverse {xs : List V} {us : List Value} (h : Vals xs us) : Vals xs.reverse us.reverse := by
  induction h with
  | nil => exact .nil
  | cons r t ih => rw [List.reverse_cons, List.reverse_cons]; exact Vals.append ih (.cons r .nil)
section
variable {X : Cx} {pins : List (Addr × Obj)} {σ : St} {H : Hp} {s : Shared} {l b : Addr} {xs ys zs : List V}
theorem Inv.lset {its its' : List Value} {n : Nat} {f : Array Value → Array Value} {t' : Nat} (I : Inv X pins σ H s) (hH : H l = some (.lst xs))
    (e : s.heap.get? l = some { cls := .type "list", data := .seq its.toArray n }) (hf : f its.toArray = its'.toArray) (hv : Vals ys its') (hz : ys.length ≤ sizeLine) :
    Inv X pins σ (upd H l (.lst ys)) { s with heap := s.heap.update l (Obj.mapSeq f), toks := t' } := by
  have q := PySem.IsL.update e f
  rw [hf] at q
  refine I.write (x := l) (e := l) (by rw [hH]; exact trivial) (.inl rfl) (fun b' u hb hu => (Heap.get?_update_other s.heap (Obj.mapSeq f) (Ne.symm hb)).trans hu) ⟨_, q⟩ ?_
  exact ⟨hz, its', _, hv, q⟩
theorem Inv.lnew {its : List Value} {t' : Nat} (I : Inv X pins σ H s) (hv : Vals ys its) (hz : ys.length ≤ sizeLine) :
    Inv X pins σ (upd H s.heap.objs.size (.lst ys)) { s with heap := s.heap.push { cls := .type "list", data := .seq its.toArray }, toks := t' } :=
  I.laid (fun _ _ q => Heap.get?_push_of_some _ q) (Nat.le_refl _) ⟨hz, its, 0, hv, Heap.get?_push_size _ rfl⟩
theorem Inv.fresh (I : Inv X pins σ H s) : H s.heap.objs.size = none := I.hok.fresh (Nat.le_refl _)
theorem Inv.lstM (I : Inv X pins σ H s) (hH : H l = some (.lst xs)) : xs.length ≤ sizeLine ∧ ∃ (its : List Value) (n : Nat), Vals xs its ∧ xs.length = its.length ∧ s.heap.get? l = some { cls := .type "list", data := .seq its.toArray n } := by
  obtain ⟨z, its, n, r, e⟩ := I.hok l _ hH
  exact ⟨z, its, n, r, r.length, e⟩
end
section
variable {X : Cx}
noncomputable def rAppend : V → List V → Hp → VK → Prop := fun x vs H Q => ∃ l xs y, x = .ref l ∧ vs = [y] ∧ H l = some (.lst xs) ∧ xs.length < sizeLine ∧ Q .non (upd H l (.lst (xs ++ [y])))
theorem mt_append : MtM X "list.append" rAppend := by
  intro pins s σ H x vs v us Q I rx rv h
  obtain ⟨l, xs, y, rfl, rfl, hH, hz, q⟩ := h
  cases rx
  obtain ⟨u, rfl, ru⟩ := rv.one
  obtain ⟨z, its, n, r, hl, e⟩ := I.lstM hH
  refine call_meets F.slot_list_append ⟨_, e, rfl⟩ F.entry_list_append (F.args_list_append_2 _ _) (PySem.list_append l its.toArray n u (by rw [List.size_toArray]; lia)) ⟨e, ?_⟩
  refine ⟨.non, _, I.lset (its' := its ++ [u]) hH e (by simp) (r.append (.cons ru .nil)) ?_, rfl, q⟩
  rw [List.length_append, List.length_singleton]
  lia
noncomputable def rReverse : V → List V → Hp → VK → Prop := fun x vs H Q => ∃ l xs, x = .ref l ∧ vs = [] ∧ H l = some (.lst xs) ∧ Q .non (upd H l (.lst xs.reverse))
theorem mt_reverse : MtM X "list.reverse" rReverse := by
  intro pins s σ H x vs v us Q I rx rv h
  obtain ⟨l, xs, rfl, rfl, hH, q⟩ := h
  cases rx
  have hus := rv.zero
  subst hus
  obtain ⟨z, its, n, r, hl, e⟩ := I.lstM hH
  refine call_meets F.slot_list_reverse ⟨_, e, rfl⟩ F.entry_list_reverse (F.args_list_reverse_1 _) (AutoSeq1.list_reverse_list_0 l its.toArray n (by rw [List.size_toArray]; lia)) ⟨e, ?_⟩
  refine ⟨.non, _, I.lset (its' := its.reverse) hH e (by simp) r.reverse ?_, rfl, q⟩
  rw [List.length_reverse]
  lia
noncomputable def rCat : R2 := fun x y H Q => ∃ l b xs zs, x = .ref l ∧ y = .ref b ∧ H l = some (.lst xs) ∧ H b = some (.lst zs) ∧ xs.length + zs.length ≤ sizeLine ∧ ∀ p, H p = none → Q (.ref p) (upd H p (.lst (xs ++ zs)))
theorem op_cat : OpR X (binaryOp .Add) rCat := by
  intro pins s σ H x y v u Q I rx ry h
  obtain ⟨l, b, xs, zs, rfl, rfl, hH, hB, hz, q⟩ := h
  cases rx
  cases ry
  obtain ⟨z, its, n, r, hl, e⟩ := I.lstM hH
  obtain ⟨z2, its2, n2, r2, hl2, e2⟩ := I.lstM hB
  refine PySem.P.add_list e e2 ?_ (by rw [List.size_toArray, List.size_toArray]; lia)
  have ea : its.toArray ++ its2.toArray = (its ++ its2).toArray := by simp
  rw [ea]
  exact ⟨.ref _, _, I.lnew (t' := s.toks) (r.append r2) (by rw [List.length_append]; lia), rfl, q _ I.fresh⟩
end
end L2
namespace L2
open PySem PySem.Spec PyProof.Rows
section
variable {κ : Type} [DecidableEq κ]
noncomputable def valV (kvs : List (κ × V)) (k : κ) : Option V := (kvs.find? fun kv => decide (kv.1 = k)).map (·.2)
noncomputable def putK (kvs : List (κ × V)) (k : κ) (v : V) : List (κ × V) :=
  if (kvs.any fun kv => decide (kv.1 = k)) = true then kvs.map (fun kv => if kv.1 = k then (kv.1, v) else kv) else kvs ++ [(k, v)]
theorem valV_pos {p : κ × V} {r : List (κ × V)} {k : κ} (e : p.1 = k) : valV (p :: r) k = some p.2 := by simp [valV, List.find?_cons, e]
theorem valV_neg {p : κ × V} {r : List (κ × V)} {k : κ} (e : ¬ p.1 = k) : valV (p :: r) k = valV r k := by simp [valV, List.find?_cons, e]
theorem valV_any (k : κ) : ∀ kvs : List (κ × V), (kvs.any fun kv => decide (kv.1 = k)) = (valV kvs k).isSome
  | [] => rfl
  | p :: r => by
    rw [List.any_cons]
    by_cases e : p.1 = k
    · simp only [valV_pos e, decide_eq_true e, Bool.true_or, Option.isSome_some]
    · rw [valV_neg e, decide_eq_false e, Bool.false_or]; exact valV_any k r
theorem valV_map (k j : κ) (y : V) : ∀ kvs : List (κ × V), valV (kvs.map fun kv => if kv.1 = k then (kv.1, y) else kv) j = (valV kvs j).map fun x => if j = k then y else x
  | [] => rfl
  | p :: r => by
    have ih := valV_map k j y r
    rw [List.map_cons]
    by_cases h : p.1 = k
    · rw [if_pos h]
      by_cases e : p.1 = j
      · rw [valV_pos (p := (p.1, y)) e, valV_pos e, Option.map_some, if_pos (e.symm.trans h)]
      · rw [valV_neg (p := (p.1, y)) e, valV_neg e, ih]
    · rw [if_neg h]
      by_cases e : p.1 = j
      · rw [valV_pos (p := p) e, valV_pos e, Option.map_some, if_neg (fun z => h (e.trans z))]
      · rw [valV_neg (p := p) e, valV_neg e, ih]
theorem valV_snoc (k j : κ) (y : V) : ∀ kvs : List (κ × V), valV kvs k = none → valV (kvs ++ [(k, y)]) j = if j = k then some y else valV kvs j
  | [], _ => by
    by_cases e : k = j
    · rw [if_pos e.symm]; exact valV_pos (p := (k, y)) e
    · rw [if_neg (fun z => e z.symm)]; exact valV_neg (p := (k, y)) e
  | p :: r, hn => by
    rw [List.cons_append]
    have hk : ¬ p.1 = k := fun z => by rw [valV_pos z] at hn; cases hn
    rw [valV_neg hk] at hn
    have ih := valV_snoc k j y r hn
    by_cases e : p.1 = j
    · rw [valV_pos e, valV_pos e, if_neg (fun z => hk (e.trans z))]
    · rw [valV_neg e, valV_neg e, ih]
theorem valV_put (kvs : List (κ × V)) (k j : κ) (y : V) : valV (putK kvs k y) j = if j = k then some y else valV kvs j := by
  unfold putK
  by_cases a : (kvs.any fun kv => decide (kv.1 = k)) = true
  · rw [if_pos a, valV_map]
    rw [valV_any] at a
    by_cases e : j = k
    · obtain ⟨x, hx⟩ := Option.isSome_iff_exists.mp a
      rw [if_pos e, e, hx, Option.map_some, if_pos rfl]
    · rw [if_neg e]
      cases valV kvs j with
      | none => rfl
      | some x => rw [Option.map_some, if_neg e]
  · rw [if_neg a]
    refine valV_snoc k j y kvs ?_
    rw [valV_any] at a
    cases q : valV kvs k with
    | none => rfl
    | some x => rw [q] at a; exact (a rfl).elim
theorem length_putK (kvs : List (κ × V)) (k : κ) (v : V) : (putK kvs k v).length ≤ kvs.length + 1 := by
  unfold putK
  split
  · rw [List.length_map]; lia
  · rw [List.length_append, List.length_cons, List.length_nil]; lia
theorem putK_new {kvs : List (κ × V)} {k : κ} (v : V) (h : valV kvs k = none) : putK kvs k v = kvs ++ [(k, v)] := by
  unfold putK
  rw [valV_any, h]
  exact if_neg (by decide)
theorem RelO.isSome_eq {o : Option V} {u : Option Value} (r : RelO o u) : o.isSome = u.isSome := by
  cases o with
  | none => cases u with
    | none => rfl
    | some _ => exact (show False from r).elim
  | some _ => cases u with
    | none => exact (show False from r).elim
    | some _ => rfl
theorem KV.val {kvs : List (κ × V)} {vs : List (κ × Value)} (r : KV kvs vs) (k : κ) : RelO (valV kvs k) (valueAt vs k) := by
  unfold KV at r
  induction r with
  | nil => exact True.intro
  | @cons p q ps qs h t ih =>
    obtain ⟨h1, h2⟩ := h
    by_cases e : p.1 = k
    · have e' : q.1 = k := h1.symm.trans e
      have b : valueAt (q :: qs) k = some q.2 := by simp [valueAt, List.find?_cons, e']
      rw [valV_pos e, b]; exact h2
    · have e' : ¬ q.1 = k := fun z => e (h1.trans z)
      have b : valueAt (q :: qs) k = valueAt qs k := by simp [valueAt, List.find?_cons, e']
      rw [valV_neg e, b]; exact ih
theorem KV.any {kvs : List (κ × V)} {vs : List (κ × Value)} (r : KV kvs vs) (k : κ) : (kvs.any fun kv => decide (kv.1 = k)) = vs.any fun kv => decide (kv.1 = k) := by
  unfold KV at r
  induction r with
  | nil => rfl
  | cons h t ih => rw [List.any_cons, List.any_cons, ih, h.1]
theorem KV.repl {kvs : List (κ × V)} {vs : List (κ × Value)} (r : KV kvs vs) (k : κ) {y : V} {u : Value} (ry : RelV y u) :
    KV (kvs.map fun kv => if kv.1 = k then (kv.1, y) else kv) (vs.map fun kv => if kv.1 = k then (kv.1, u) else kv) := by
  unfold KV at r ⊢
  induction r with
  | nil => exact .nil
  | @cons p q ps qs h t ih =>
    rw [List.map_cons, List.map_cons]
    refine .cons ?_ ih
    obtain ⟨h1, h2⟩ := h
    by_cases e : p.1 = k
    · rw [if_pos e, if_pos (h1.symm.trans e)]; exact ⟨h1, ry⟩
    · rw [if_neg e, if_neg (fun z => e (h1.trans z))]; exact ⟨h1, h2⟩
theorem KV.put {kvs : List (κ × V)} {vs : List (κ × Value)} (r : KV kvs vs) (k : κ) {y : V} {u : Value} (ry : RelV y u) : KV (putK kvs k y) (stored vs k u) := by
  unfold putK stored
  rw [r.any k]
  by_cases e : (vs.any fun kv => decide (kv.1 = k)) = true
  · rw [if_pos e, if_pos e]; exact r.repl k ry
  · rw [if_neg e, if_neg e]; exact Paired.snoc r ⟨rfl, ry⟩
theorem KV.length {kvs : List (κ × V)} {vs : List (κ × Value)} (r : KV kvs vs) : kvs.length = vs.length := Paired.length r
end
theorem kV_is {P : Program} {w : World} {k : Key} {u : Value} (r : RelV (kV k) u) : (mixKind P w).is k u = true := by
  cases k with
  | inl i => obtain ⟨t, e⟩ := (show ∃ t, u = Value.int i t from r); subst e; exact mixKind_int P w i t
  | inr x => obtain ⟨t, e⟩ := (show ∃ t, u = Value.str x t from r); subst e; exact mixKind_str P w x t
theorem items_are {P : Program} {w : World} : ∀ {ks : List Key} {us : List Value}, Vals (ks.map kV) us → ItemsAre (mixKind P w) ks us
  | [], _, r => by rw [List.map_nil] at r; cases r; exact .nil
  | k :: ks, _, r => by
    rw [List.map_cons] at r
    cases r with
    | cons h t => exact .cons (kV_is h) (items_are t)
noncomputable abbrev KT (H : Hp) : List (List Key × V) → List (List Key × Addr × Value) → Prop := Paired fun p q => p.1 = q.1 ∧ H q.2.1 = some (.tup (p.1.map kV)) ∧ RelV p.2 q.2.2
theorem KT.val {H : Hp} {kvs : List (List Key × V)} {xs : List (List Key × Addr × Value)} (r : KT H kvs xs) (k : List Key) : RelO (valV kvs k) ((atKey xs k).map (·.2)) := by
  induction r with
  | nil => exact True.intro
  | @cons p q ps qs h t ih =>
    obtain ⟨h1, _, h2⟩ := h
    by_cases e : p.1 = k
    · have e' : q.1 = k := h1.symm.trans e
      have b : atKey (q :: qs) k = some q.2 := by simp [atKey, List.find?_cons, e']
      rw [valV_pos e, b]; exact h2
    · have e' : ¬ q.1 = k := fun z => e (h1.trans z)
      have b : atKey (q :: qs) k = atKey qs k := by simp [atKey, List.find?_cons, e']
      rw [valV_neg e, b]; exact ih
theorem KT.repl {H : Hp} {kvs : List (List Key × V)} {xs : List (List Key × Addr × Value)} (r : KT H kvs xs) (k : List Key) {y : V} {u : Value} (ry : RelV y u) :
    KT H (kvs.map fun kv => if kv.1 = k then (kv.1, y) else kv) (xs.map (putAt k u)) := by
  induction r with
  | nil => exact .nil
  | @cons p q ps qs h t ih =>
    rw [List.map_cons, List.map_cons]
    refine .cons ?_ ih
    obtain ⟨h1, h2, h3⟩ := h
    unfold putAt
    by_cases e : p.1 = k
    · rw [if_pos e, if_pos (h1.symm.trans e)]; exact ⟨h1, h2, ry⟩
    · rw [if_neg e, if_neg (fun z => e (h1.trans z))]; exact ⟨h1, h2, h3⟩
theorem KT.put {H : Hp} {kvs : List (List Key × V)} {xs : List (List Key × Addr × Value)} (r : KT H kvs xs) (k : List Key) {b : Addr} {y : V} {u : Value} (hb : H b = some (.tup (k.map kV))) (ry : RelV y u) :
    KT H (putK kvs k y) (storedH xs k b u) := by
  have e : (kvs.any fun kv => decide (kv.1 = k)) = (atKey xs k).isSome := by
    rw [valV_any, (r.val k).isSome_eq, Option.isSome_map]
  unfold putK storedH
  rw [e]
  by_cases q : (atKey xs k).isSome = true
  · rw [if_pos q, if_pos q]; exact r.repl k ry
  · rw [if_neg q, if_neg q]; exact Paired.snoc r ⟨rfl, hb, ry⟩
theorem KT.keeps {H H' : Hp} {kvs : List (List Key × V)} {xs : List (List Key × Addr × Value)} (r : KT H kvs xs) (ht : ∀ b ys, H b = some (.tup ys) → H' b = some (.tup ys)) : KT H' kvs xs :=
  Paired.mapP r fun _ _ z => ⟨z.1, ht _ _ z.2.1, z.2.2⟩
section
variable {P : Program} {w : World} {H : Hp} {h : Heap} {a : Addr}
theorem rd_of {u : HO} (ok : HOk P w H h) (e : Rd H a u) : ObjOk P w H h a u := e.ok ok
theorem dk_rd {kvs : List (Key × V)} (ok : HOk P w H h) (e : Rd H a (.dK kvs)) : kvs.length ≤ sizeLine ∧ (a == sysModules) = false ∧ ∃ vs, KV kvs vs ∧ h.DictOf (mixKind P w) a vs :=
  show ObjOk P w H h a (.dK kvs) from rd_of ok e
theorem dk_of {kvs : List (Key × V)} (ok : HOk P w H h) (e : H a = some (.dK kvs)) : kvs.length ≤ sizeLine ∧ (a == sysModules) = false ∧ ∃ vs, KV kvs vs ∧ h.DictOf (mixKind P w) a vs := dk_rd ok (.inl e)
theorem key_of {ks : List Key} (ok : HOk P w H h) (e : H a = some (.tup (ks.map kV))) : (tupleKind (mixKind P w)).is h ks a := by
  obtain ⟨_, its, r, o, h1, h2, n, h3⟩ := (show ObjOk P w H h a (.tup (ks.map kV)) from ok a _ e)
  exact ⟨o, its.toArray, n, h1, h2, h3, by simpa using items_are r⟩
theorem dt_rd {kvs : List (List Key × V)} (ok : HOk P w H h) (e : Rd H a (.dT kvs)) : kvs.length ≤ sizeLine ∧ (a == sysModules) = false ∧
    ∃ xs, KT H kvs xs ∧ h.DictOfH (tupleKind (mixKind P w)) a xs := by
  obtain ⟨z, y, xs, r, o, es, ep, h1, h2, h3, h4, h5⟩ := (show ObjOk P w H h a (.dT kvs) from rd_of ok e)
  refine ⟨z, y, xs, r, o, es, ep, h1, h2, h3, h4, fun x hx => ?_, h5⟩
  have all : ∀ {l : List (List Key × V)} {m : List (List Key × Addr × Value)}, KT H l m → ∀ x ∈ m, (tupleKind (mixKind P w)).is h x.1 x.2.1 := by
    intro l m q
    induction q with
    | nil => intro x hx; exact nomatch hx
    | @cons p q ps qs hq t ih =>
      intro x hx
      rcases List.mem_cons.mp hx with e | hx
      · subst e
        exact key_of ok (by rw [← hq.1]; exact hq.2.1)
      · exact ih x hx
  exact all r x hx
theorem dt_of {kvs : List (List Key × V)} (ok : HOk P w H h) (e : H a = some (.dT kvs)) : kvs.length ≤ sizeLine ∧ (a == sysModules) = false ∧
    ∃ xs, KT H kvs xs ∧ h.DictOfH (tupleKind (mixKind P w)) a xs := dt_rd ok (.inl e)
end
noncomputable def DGet (H : Hp) (a : Addr) (y : V) (r : Option V) : Prop :=
  (∃ kvs k, Rd H a (.dK kvs) ∧ y = kV k ∧ r = valV kvs k) ∨ ∃ kvs k b, Rd H a (.dT kvs) ∧ y = .ref b ∧ H b = some (.tup (k.map kV)) ∧ r = valV kvs k
noncomputable def DPut (H : Hp) (a : Addr) (y v : V) (H' : Hp) : Prop :=
  (∃ kvs k, H a = some (.dK kvs) ∧ y = kV k ∧ kvs.length < sizeLine ∧ H' = upd H a (.dK (putK kvs k v))) ∨
  ∃ kvs k b, H a = some (.dT kvs) ∧ y = .ref b ∧ H b = some (.tup (k.map kV)) ∧ kvs.length < sizeLine ∧ H' = upd H a (.dT (putK kvs k v))
theorem DGet.k {H : Hp} {a : Addr} {kvs : List (Key × V)} {k : Key} (e : H a = some (.dK kvs)) : DGet H a (kV k) (valV kvs k) := .inl ⟨kvs, k, .inl e, rfl, rfl⟩
theorem DPut.k {H : Hp} {a : Addr} {kvs : List (Key × V)} {k : Key} {v : V} (e : H a = some (.dK kvs)) (hl : kvs.length < sizeLine) : DPut H a (kV k) v (upd H a (.dK (putK kvs k v))) := .inl ⟨kvs, k, e, rfl, hl, rfl⟩
section
variable {X : Cx} {pins : List (Addr × Obj)} {σ : St} {H : Hp} {s : Shared} {a : Addr} {y v : V} {u r : Value} {o : Option V} {A : Around} {E : Value → Shared → Prop}
theorem Inv.big (I : Inv X pins σ H s) : sysModules < s.heap.objs.size := by
  have h : mainGlobals < s.heap.objs.size := (I.mod.glob.keeps I.bk).lt
  exact Nat.lt_trans (by decide) h
theorem d_getItem {Q : Value → Shared → Prop} (hu : A.units + 1 < cLine) (I : Inv X pins σ H s) (g : DGet H a y (some v)) (ry : RelV y u) (h : ∀ w' s', Inv X pins σ H s' → RelV v w' → Q w' s') :
    wpAny (model X.prog X.w) A (getItem (.ref a) u) Q E s := by
  rcases g with ⟨kvs, k, e, ey, l⟩ | ⟨kvs, k, b, e, ey, eb, l⟩
  · subst ey
    obtain ⟨z, hd, vs, rel, dd⟩ := dk_rd I.hok e
    obtain ⟨w', hw, rw'⟩ := RelO.some_of (v := v) (o := valueAt vs k) (by rw [l]; exact rel.val k)
    exact wpAny_getItem_of (kV_is ry) dd.mapOf hw (h w' _ (I.tok _) rw')
  · subst ey
    cases (show u = Value.ref b from ry)
    obtain ⟨z, hd, xs, rel, dd⟩ := dt_rd I.hok e
    obtain ⟨w', hw, rw'⟩ := RelO.some_of (v := v) (o := (atKey xs k).map (·.2)) (by rw [l]; exact rel.val k)
    obtain ⟨p, hp, hp2⟩ := Option.map_eq_some_iff.mp hw
    refine wpAny_getItem_heap (tupleKind_room_in1 hu) (key_of I.hok eb) dd hp ?_
    rw [hp2]
    exact h w' _ (I.tok _) rw'
theorem d_in {Q : Value → Shared → Prop} (hu : A.units + 1 < cLine) (I : Inv X pins σ H s) (g : DGet H a y o) (ry : RelV y u) (h : ∀ s', Inv X pins σ H s' → Q (.bool o.isSome) s') :
    wpAny (model X.prog X.w) A (compareOp .In u (.ref a)) Q E s := by
  rcases g with ⟨kvs, k, e, ey, l⟩ | ⟨kvs, k, b, e, ey, eb, l⟩
  · subst ey
    obtain ⟨z, hd, vs, rel, dd⟩ := dk_rd I.hok e
    refine wpAny_in_of (kV_is ry) hd dd.mapOf ?_
    rw [← (rel.val k).isSome_eq, ← l]
    exact h _ (I.tok _)
  · subst ey
    cases (show u = Value.ref b from ry)
    obtain ⟨z, hd, xs, rel, dd⟩ := dt_rd I.hok e
    refine wpAny_in_heap (tupleKind_room_in1 hu) (key_of I.hok eb) hd dd ?_
    have q := (rel.val k).isSome_eq
    rw [Option.isSome_map] at q
    rw [← q, ← l]
    exact h _ (I.tok _)
theorem d_notIn {Q : Value → Shared → Prop} (hu : A.units + 1 < cLine) (I : Inv X pins σ H s) (g : DGet H a y o) (ry : RelV y u) (h : ∀ s', Inv X pins σ H s' → Q (.bool (!o.isSome)) s') :
    wpAny (model X.prog X.w) A (compareOp .NotIn u (.ref a)) Q E s := by
  rcases g with ⟨kvs, k, e, ey, l⟩ | ⟨kvs, k, b, e, ey, eb, l⟩
  · subst ey
    obtain ⟨z, hd, vs, rel, dd⟩ := dk_rd I.hok e
    refine wpAny_notIn_of (kV_is ry) hd dd.mapOf ?_
    rw [← (rel.val k).isSome_eq, ← l]
    exact h _ (I.tok _)
  · subst ey
    cases (show u = Value.ref b from ry)
    obtain ⟨z, hd, xs, rel, dd⟩ := dt_rd I.hok e
    refine wpAny_notIn_heap (tupleKind_room_in1 hu) (key_of I.hok eb) hd dd ?_
    have q := (rel.val k).isSome_eq
    rw [Option.isSome_map] at q
    rw [← q, ← l]
    exact h _ (I.tok _)
theorem d_write {h' : Heap} {t' : Nat} {ob : HO} (I : Inv X pins σ H s) (mu : Mut (H a)) (hs : Heap.SameBut a s.heap h') (he : ∃ q, h'.get? a = some q) (new : ObjOk X.prog X.w (upd H a ob) h' a ob) :
    Inv X pins σ (upd H a ob) { s with heap := h', toks := t' } :=
  I.write (x := a) (e := a) mu (.inl rfl) (fun b q hb z => (hs.2 b hb).trans z) he new
theorem dk_new {P : Program} {w : World} {H' : Hp} {h' : Heap} {kvs : List (Key × V)} {vs : List (Key × Value)} (z : kvs.length ≤ sizeLine) (hd : (a == sysModules) = false) (rel : KV kvs vs) (dd : h'.DictOf (mixKind P w) a vs) :
    ObjOk P w H' h' a (.dK kvs) := ⟨z, hd, vs, rel, dd⟩
theorem d_setItem {H' : Hp} {Q : Unit → Shared → Prop} (hu : A.units + 1 < cLine) (I : Inv X pins σ H s) (g : DPut H a y v H') (ry : RelV y u) (rv : RelV v r) (h : ∀ s', Inv X pins σ H' s' → Q () s') :
    wpAny (model X.prog X.w) A (setItem (.ref a) u r) Q E s := by
  rcases g with ⟨kvs, k, e, ey, l, eH⟩ | ⟨kvs, k, b, e, ey, eb, l, eH⟩
  · subst ey eH
    obtain ⟨z, hd, vs, rel, dd⟩ := dk_of I.hok e
    have hz : vs.length ≤ sizeLine := by rw [← rel.length]; exact z
    have hl : (putK kvs k v).length ≤ sizeLine := by have := length_putK kvs k v; lia
    refine wpAny_setItem_pairs (hsz := hz) (kV_is ry) dd fun h' dd' hs => h _ ?_
    have he : ∃ q, h'.get? a = some q := let ⟨q, _, _, hq, _⟩ := dd'; ⟨q, hq⟩
    exact d_write I (by rw [e]; exact True.intro) hs he (dk_new hl hd (rel.put k rv) dd')
  · subst ey eH
    cases (show u = Value.ref b from ry)
    obtain ⟨z, hd, xs, rel, dd⟩ := dt_of I.hok e
    have hz : xs.length ≤ sizeLine := by rw [← Paired.length rel]; exact z
    have hl : (putK kvs k v).length ≤ sizeLine := by have := length_putK kvs k v; lia
    refine wpAny_setItem_heap (hsz := hz) (tupleKind_room_in1 hu) (key_of I.hok eb) dd fun h' dd' hs => h _ ?_
    obtain ⟨q, es, ep, hq, h2, h3, h4, _, h5⟩ := dd'
    refine d_write I (by rw [e]; exact True.intro) hs ⟨q, hq⟩ ⟨hl, hd, _, (rel.put k eb rv).keeps fun c ys ec => ?_, q, es, ep, hq, h2, h3, h4, h5⟩
    rw [upd_ne (ne_of ec e (fun z => nomatch z))]
    exact ec
end
section
variable {X : Cx} {pins : List (Addr × Obj)} {σ : St} {H : Hp} {s : Shared} {a : Addr} {kvs : List (Key × V)} {k : Key} {u : Value} {A : Around} {E : Value → Shared → Prop}
theorem d_len {Q : Value → Shared → Prop} (I : Inv X pins σ H s) (e : Rd H a (.dK kvs)) (h : ∀ t s', Inv X pins σ H s' → Q (.int kvs.length t) s') : wpAny (model X.prog X.w) A (call (.builtin "len") [.ref a]) Q E s := by
  obtain ⟨z, hd, vs, rel, dd⟩ := dk_rd I.hok e
  refine call_len_dict hd dd (by rw [← rel.length]; rw [sizeLine_eq] at z; lia) ?_
  rw [← rel.length]
  exact h _ _ (I.tok _)
end
noncomputable def NoSl (i : Expr) : Prop := ∀ ov iv, subscripted i false ov iv = operate [ov, iv] (getItem ov iv)
theorem subD_of {prog : Program} {w : World} {A : Around} {E : Value → Shared → Prop} {s : Shared} {env : Env} {value slice : Expr} {pos : Pos} {T id : String} {Q : Value → Shared → Prop}
    (hl : typeLookup (.type T) "__getitem__" = pure (some (.builtin id))) (hs : NoSl slice)
    (h : wpAny (model prog w) A (eval value env) (fun o s₁ => wpAny (model prog w) A (eval slice env) (fun i s₂ => s₂.TypeIs o T ∧ wpAny (model prog w) A (getItem o i) Q E s₂) E s₁) E s) :
    wpAny (model prog w) A (eval (.Subscript value slice pos) env) Q E s := by
  refine Subscript_ (wpAny_mono h (fun o s₁ h₁ => wpAny_mono h₁ (fun i s₂ h₂ => ?_) fun _ _ x => x) fun _ _ x => x)
  obtain ⟨hT, h₂⟩ := h₂
  unfold subscriptTail
  refine wpAny_bind ?_
  rw [getitemInPython_of_ne hT.not_modules]
  refine wpAny_bind (wpAny_specialOf hT hl ?_)
  have fin : wpAny (model prog w) A (subscripted slice false o i) (fun r s₃ => wpAny (model prog w) A (letTemporaryGo value o r >>= fun _ => pure r) Q E s₃) E s₂ := by
    rw [hs o i]
    exact wpAny_operating (wpAny_mono h₂ (fun r s₃ h₃ => wpAny_bind (wpAny_letTemporaryGo (wpAny_pure h₃))) fun _ _ x => x)
  first
    | exact wpAny_pure (wpAny_bind fin)
    | exact wpAny_bind (wpAny_pure (wpAny_bind fin))
    | exact wpAny_bind fin
theorem dict_typeIs {X : Cx} {pins : List (Addr × Obj)} {σ : St} {H : Hp} {s : Shared} {a : Addr} {y : V} {o : Option V} (I : Inv X pins σ H s) (g : DGet H a y o) : s.TypeIs (.ref a) "dict" := by
  rcases g with ⟨kvs, k, e, _, _⟩ | ⟨kvs, k, b, e, _, _, _⟩
  · obtain ⟨_, _, vs, _, dd⟩ := dk_rd I.hok e
    exact dd.typeIs
  · obtain ⟨_, _, xs, _, dd⟩ := dt_rd I.hok e
    exact dd.typeIs
inductive hasD (Q : VK) (x y : V) (H2 : Hp) : Prop
  | mk (a : _) (v : _) (c0 : x = .ref a) (c1 : DGet H2 a y (some v)) (c2 : Q v H2) : hasD Q x y H2
noncomputable def tDGet (td ty : TE) : TE := fun σ H Q => td σ H fun x H1 => ty σ H1 fun y H2 => hasD Q x y H2
inductive inD (Q : VK) (x y : V) (H2 : Hp) : Prop
  | mk (a : _) (o : _) (c0 : x = .ref a) (c1 : DGet H2 a y o) (c2 : Q (.bl o.isSome) H2) : inD Q x y H2
noncomputable def tDIn (ty td : TE) : TE := fun σ H Q => ty σ H fun y H1 => td σ H1 fun x H2 => inD Q x y H2
noncomputable def tDNotIn (ty td : TE) : TE := fun σ H Q => ty σ H fun y H1 => td σ H1 fun x H2 => ∃ a o, x = .ref a ∧ DGet H2 a y o ∧ Q (.bl (!o.isSome)) H2
noncomputable def sDPut (td ty tv : TE) : TS := fun D σ H => tv σ H fun v H1 => td σ H1 fun x H2 => ty σ H2 fun y H3 => ∃ a H4, x = .ref a ∧ DPut H3 a y v H4 ∧ D.nx σ H4
section
variable {X : Cx} {o i e value : Expr} {pos pos' tpos : Pos} {td ty tv : TE}
theorem pe_dget (hu : X.A.units + 1 < cLine) (ho : PE X o td) (hi : PE X i ty) (hs : NoSl i) : PE X (.Subscript o i pos) (tDGet td ty) := by
  intro pins s σ H Q I h
  refine subD_of PySem.F.slot_dict_getitem.lookup hs (thn (ho pins s σ H _ I h) fun u s1 hp0 => ?_)
  obtain ⟨x, H1, I1, rx, q1⟩ := hp0
  refine thn (hi pins s1 σ H1 _ I1 q1) fun iv s2 hp1 => ?_
  obtain ⟨y, H2, I2, ry, a, v, ex, g, q2⟩ := hp1
  subst ex
  obtain rfl : u = Value.ref a := rx
  exact ⟨dict_typeIs I2 g, d_getItem hu I2 g ry fun w' s3 I3 rw' => ⟨v, H2, I3, rw', q2⟩⟩
theorem pc_din (hu : X.A.units + 1 < cLine) (hi : PE X i ty) (ho : PE X o td) : PC X .In i o (tDIn ty td) := by
  intro pins s σ H Q I h
  refine thn (hi pins s σ H _ I h) fun iv s1 hp0 => ?_
  obtain ⟨y, H1, I1, ry, q1⟩ := hp0
  refine thn (ho pins s1 σ H1 _ I1 q1) fun u s2 hp1 => ?_
  obtain ⟨x, H2, I2, rx, a, ov, ex, g, q2⟩ := hp1
  subst ex
  obtain rfl : u = Value.ref a := rx
  exact d_in hu I2 g ry fun s3 I3 => ⟨.bl ov.isSome, H2, I3, rfl, q2⟩
theorem pc_dnotin (hu : X.A.units + 1 < cLine) (hi : PE X i ty) (ho : PE X o td) : PC X .NotIn i o (tDNotIn ty td) := by
  intro pins s σ H Q I h
  refine thn (hi pins s σ H _ I h) fun iv s1 hp0 => ?_
  obtain ⟨y, H1, I1, ry, q1⟩ := hp0
  refine thn (ho pins s1 σ H1 _ I1 q1) fun u s2 hp1 => ?_
  obtain ⟨x, H2, I2, rx, a, ov, ex, g, q2⟩ := hp1
  subst ex
  obtain rfl : u = Value.ref a := rx
  exact d_notIn hu I2 g ry fun s3 I3 => ⟨.bl (!ov.isSome), H2, I3, rfl, q2⟩
theorem ps_dput (hu : X.A.units + 1 < cLine) (ho : PE X o td) (hi : PE X i ty) (hv : PE X value tv) (hs : swapsWith value (some (.Subscript o i pos')) pos.line X.env = pure false) :
    PS X (.Assign [.Subscript o i pos'] value pos) (sDPut td ty tv) := by
  intro pins s σ H D I h
  refine wpAny_Assign_Subscript (thn (hv pins s σ H _ I h) fun r s1 hp0 => ?_) hs
  obtain ⟨v, H1, I1, rv, q1⟩ := hp0
  refine thn (ho pins s1 σ H1 _ I1 q1) fun u s2 hp1 => ?_
  obtain ⟨x, H2, I2, rx, q2⟩ := hp1
  refine thn (hi pins s2 σ H2 _ I2 q2) fun iv s3 hp2 => ?_
  obtain ⟨y, H3, I3, ry, a, H4, ex, g, q3⟩ := hp2
  subst ex
  obtain rfl : u = Value.ref a := rx
  exact d_setItem hu I3 g ry rv fun s4 I4 => ⟨σ, H4, I4, q3⟩
end
theorem dk_empty {P : Program} {w : World} {H : Hp} (h : Heap) (hb : sysModules < h.objs.size) : ObjOk P w H (h.push { cls := .type "dict", data := .dict #[] }) h.objs.size (.dK []) :=
  ⟨Nat.zero_le _, beq_eq_false_iff_ne.mpr (Ne.symm (Nat.ne_of_lt hb)), [], .nil, Heap.DictOf.new h⟩
noncomputable def tDNewK : TE := fun _ H Q => ∀ p, H p = none → Q (.ref p) (upd H p (.dK []))
section
variable {X : Cx} {pos : Pos}
theorem pe_dnewK : PE X (.Dict [] [] pos) tDNewK := fun pins s σ H Q I h =>
  wpAny_Dict_empty ⟨.ref s.heap.objs.size, _, I.laid (a := s.heap.objs.size) (o := .dK []) (t' := s.toks) (fun _ _ q => Heap.get?_push_of_some _ q) (Nat.le_refl _) (dk_empty s.heap I.big), rfl, h _ (I.hok.fresh (Nat.le_refl _))⟩
end
noncomputable def tPairs : List (TE × TE) → St → Hp → (List (V × V) → Hp → Prop) → Prop
  | [], _, H, Q => Q [] H
  | (tk, tv) :: r, σ, H, Q => tk σ H fun x H1 => tv σ H1 fun y H2 => tPairs r σ H2 fun ps H3 => Q ((x, y) :: ps) H3
noncomputable abbrev VV : List (V × V) → List (Value × Value) → Prop := Paired fun p q => RelV p.1 q.1 ∧ RelV p.2 q.2
noncomputable def PPs (X : Cx) (pos : Pos) (keys : List (Option Expr)) (values : List Expr) (trs : List (TE × TE)) : Prop :=
  ∀ (pins : List (Addr × Obj)) (s : Shared) (σ : St) (H : Hp) (Q : List (V × V) → Hp → Prop), Inv X pins σ H s → tPairs trs σ H Q →
    wpAny (model X.prog X.w) X.A (evalPairs (pairTrees keys values X.env pos)) (fun vs s' => ∃ ps H', Inv X pins σ H' s' ∧ VV ps vs ∧ Q ps H') X.xe s
theorem pps_nil {X : Cx} {pos : Pos} : PPs X pos [] [] [] := fun pins s σ H Q I h => pairTrees_nil_walk ⟨[], H, I, .nil, h⟩
theorem pps_cons {X : Cx} {pos : Pos} {k v : Expr} {ks : List (Option Expr)} {vs : List Expr} {tk tv : TE} {trs : List (TE × TE)} (hk : PE X k tk) (hv : PE X v tv) (hr : PPs X pos ks vs trs) :
    PPs X pos (some k :: ks) (v :: vs) ((tk, tv) :: trs) := fun pins s σ H Q I h =>
  pairTrees_cons_walk (thn (hk pins s σ H _ I h) fun u s1 ⟨x, H1, I1, rx, q1⟩ => thn (hv pins s1 σ H1 _ I1 q1) fun w2 s2 ⟨y, H2, I2, ry, q2⟩ =>
    thn (hr pins s2 σ H2 _ I2 q2) fun ws s3 hp0 => by obtain ⟨ps, H3, I3, rel, q3⟩ := hp0; exact ⟨(x, y) :: ps, H3, I3, .cons ⟨rx, ry⟩ rel, q3⟩)
noncomputable def mergeK (kvs more : List (Key × V)) : List (Key × V) := more.foldl (fun acc kv => putK acc kv.1 kv.2) kvs
theorem KV.merge : ∀ {more : List (Key × V)} {rs : List (Key × Value)} {kvs : List (Key × V)} {vs : List (Key × Value)}, KV more rs → KV kvs vs → KV (mergeK kvs more) (merged vs rs) := by
  intro more rs kvs vs r
  unfold KV at r
  induction r generalizing kvs vs with
  | nil => intro q; exact q
  | @cons p q ps qs h t ih =>
    intro r0
    have e : KV (putK kvs p.1 p.2) (stored vs q.1 q.2) := by
      have := r0.put p.1 h.2
      rw [← h.1]; exact this
    exact ih e
theorem length_mergeK : ∀ (more kvs : List (Key × V)), (mergeK kvs more).length ≤ kvs.length + more.length
  | [], kvs => by show kvs.length ≤ kvs.length + 0; lia
  | p :: r, kvs => by
    have h1 := length_mergeK r (putK kvs p.1 p.2)
    have h2 := length_putK kvs p.1 p.2
    show (mergeK (putK kvs p.1 p.2) r).length ≤ _
    rw [List.length_cons]; lia
theorem carries_of {P : Program} {w : World} : ∀ {kvs : List (Key × V)} {ws : List (Value × Value)}, VV (kvs.map fun kv => (kV kv.1, kv.2)) ws → ∃ rs, Carries (mixKind P w) ws rs ∧ KV kvs rs
  | [], _, r => by rw [List.map_nil] at r; cases r; exact ⟨[], True.intro, .nil⟩
  | p :: kvs, _, r => by
    rw [List.map_cons] at r
    cases r with
    | @cons a b as bs h t =>
      obtain ⟨rs, c, q⟩ := carries_of (P := P) (w := w) t
      obtain ⟨b1, b2⟩ := b
      exact ⟨(p.1, b2) :: rs, ⟨kV_is h.1, rfl, c⟩, .cons ⟨rfl, h.2⟩ q⟩
noncomputable def tDisp (trs : List (TE × TE)) : TE := fun σ H Q => ∀ p, H p = none → tPairs trs σ (upd H p (.dK [])) fun ps H2 => H2 p = some (.dK []) ∧ ∃ kvs : List (Key × V), ps = kvs.map (fun kv => (kV kv.1, kv.2)) ∧ kvs.length ≤ 15 ∧ Q (.ref p) (upd H2 p (.dK (mergeK [] kvs)))
theorem pe_disp {X : Cx} {pos : Pos} {keys : List (Option Expr)} {values : List Expr} {trs : List (TE × TE)} (h : PPs X pos keys values trs) (hall : keys.all (·.isSome) = true) (hl : keys.length = values.length) (h0 : keys ≠ [])
    (h15 : keys.length ≤ 15) : PE X (.Dict keys values pos) (tDisp trs) := by
  intro pins s σ H Q I q
  have hn := I.hok.fresh (Nat.le_refl s.heap.objs.size)
  have I1 := I.laid (a := s.heap.objs.size) (o := .dK []) (h' := s.heap.push { cls := .type "dict", data := .dict #[] }) (t' := s.toks) (fun _ _ q => Heap.get?_push_of_some _ q) (Nat.le_refl _) (dk_empty s.heap I.big)
  refine wpAny_Dict_walk (knd := mixKind X.prog X.w) hall hl h0 h15 (thn (h pins _ σ _ _ I1 (q _ hn)) fun ws s2 hp0 => ?_)
  obtain ⟨ps, H2, I2, rel, e, kvs, ep, lk, q2⟩ := hp0
  subst ep
  obtain ⟨rs, c, rk⟩ := carries_of (P := X.prog) (w := X.w) rel
  obtain ⟨z, hd, vs0, r0, dd⟩ := dk_of I2.hok e
  cases r0
  refine ⟨rs, c, dd, fun h' dd' hs => ⟨.ref s.heap.objs.size, _, ?_, rfl, q2⟩⟩
  have hz : (mergeK [] kvs).length ≤ sizeLine := by
    have h1 := length_mergeK kvs []
    rw [List.length_nil] at h1
    rw [sizeLine_eq]; lia
  have he : ∃ q, h'.get? s.heap.objs.size = some q := let ⟨q, _, _, hq, _⟩ := dd'; ⟨q, hq⟩
  exact d_write I2 (by rw [e]; exact True.intro) hs he (dk_new hz hd (rk.merge .nil) dd')
end L2
namespace Att
open PySem PySem.W PySem.Calls PyProof.Rows
theorem ints_of_wellAll {P : Params} {h : Heap} : ∀ (ns : List Int) (vs : List Value), WellAll P h vs (ns.map WData.int) → IntsAre vs ns := by
  intro ns
  induction ns with
  | nil =>
    intro vs w
    rw [List.map_nil] at w
    cases w
    exact .nil
  | cons n ns ih =>
    intro vs w
    rw [List.map_cons] at w
    cases w with
    | cons a b =>
      cases a
      exact .cons _ _ (ih _ b)
theorem script_of {l : OpenLaw} {n : Nat} (hn : l.most = some n) {P : Params} {h : Heap} {args : List WData} {vals : List Value}
    (hpre : l.row.toRowW.claim.pre args = true) (hwl : WellAll P h vals args) :
    ∃ a vs ns, vals = [Value.ref a] ∧ args = [WData.list (ns.map WData.int)] ∧ h.get? a = some { cls := .type "list", data := .seq vs.toArray } ∧ IntsAre vs ns ∧ ns.length ≤ n := by
  have hsh : WShape.hasAll [] args [.list .int] = true := (pre_splitW hpre).1
  have hc : l.pre.holds [] { args := args } = true := (pre_splitW hpre).2
  obtain ⟨d, r, rfl, h1, h2⟩ := hasAllW_cons hsh
  obtain rfl := hasAllW_nil h2
  obtain ⟨xs, rfl, h3⟩ := hasW_list h1
  obtain ⟨ns, rfl⟩ := items_int h3
  have hlen : ns.length ≤ n := by
    unfold OpenLaw.pre at hc
    have h4 : (WTm.not (.lt (.lit (.int (n : Int))) (.len (.arg 0)))).holds [] { args := [.list (ns.map .int)] } = true := by
      have h4 := (holds_andW hc).1
      rw [hn] at h4
      exact h4
    have h5 := condW_of h4 (w_not (w_lt w_lit (w_len_list (w_arg rfl))))
    rw [List.length_map] at h5
    refine Nat.le_of_not_lt fun q => ?_
    have q' : (n : Int) < ((ns.length : Nat) : Int) := by lia
    first
      | (rw [decide_eq_true q'] at h5; exact absurd h5 (by decide))
      | (simp at h5; lia)
  cases hwl with
  | cons w1 w2 =>
    cases w2
    cases w1 with
    | list ho hall => exact ⟨_, _, ns, rfl, rfl, ho, ints_of_wellAll ns _ hall, hlen⟩
theorem post_true (l : OpenLaw) (args : List WData) : l.row.toRowW.claim.post args (.bool true) args = true :=
  postW_of (r := l.row.toRowW) (X := (true == true))
    (show WShape.has [] (.bool true) .bool = true by first | rfl | decide | simp [WShape.has, WShape.arms, WShape.armsAll])
    (show (WTm.eq .res (.lit (.bool true))).value [] { args := args, res := some (.bool true), after := args } = some (.bool (true == true)) from w_eq_bool (w_res rfl) w_lit) rfl
theorem attach_call {l : OpenLaw} {n : Nat} {q : Program} {loose : List Str} {XP : (Str → Option Value) → Heap → Prop} {YP : World → Heap → Prop} {d : DefRec}
    (hn : l.most = some n) (hdf : d.params.defaults = [])
    (call : ∀ (w : World) (s₀ s₁ : Shared) (mg mb : Str → Option Value) (fa : Addr) (o : Obj) (pm cd doc : Value) (a : Addr) (vs : List Value) (ns : List Int),
      Ground q loose [] XP w s₀ mg mb s₁.heap → YP w s₁.heap →
      s₁.heap.get? fa = some o → o.data = .func (docDef d.name d.params d.body d.scope pm cd doc) → s₁.heap.CodeRec cd d.name → mg d.name = some (.ref fa) →
      s₁.heap.get? a = some { cls := .type "list", data := .seq vs.toArray } → IntsAre vs ns → ns.length ≤ n → s₁.gens = #[] →
      codeAny (model l.prog w) callerA (.call (.ref fa) ⟨[.ref a], []⟩) (fun r s' => r = .ok (.ret (.bool true)) ∧ OldK s₁.heap s'.heap ∧ s'.os = s₁.os ∧ AllBare s'.gens) s₁) :
    WalkO q loose XP YP l.row.toRowW d [] (fun f vs => PySem.call f vs) := by
  intro w s₀ s₁ mg mb G Y fa o pm cd doc dV kV ho hd hcd hD hmg hg args vals as hpre hlay hrd hwl hlo
  obtain rfl : dV = .none := Dflts.none hD hdf
  obtain rfl : kV = .none := Dflts.noKw hD
  obtain ⟨a, vs, ns, rfl, rfl, hobj, hints, hlen⟩ := script_of hn hpre hwl
  refine enter_call (codeAny_mono (call w s₀ s₁ mg mb fa o pm cd doc a vs ns G Y ho (fd_plain hd) hcd hmg hobj hints hlen hg) fun r s' hq => ?_)
  obtain ⟨rfl, h2, h3, h4⟩ := hq
  exact ⟨.inl ⟨.bool true, .bool true, [], rfl, fun _ => rfl, .bool true, post_true l _, fun _ => ⟨List.Pairwise.nil, fun _ hm => (nomatch hm)⟩⟩, h2, h3, h4⟩
end Att
namespace L2
open PySem PySem.Spec PyProof.Rows
theorem vals_ints : ∀ {vs : List Value} {ns : List Int}, IntsAre vs ns → Vals (ns.map V.int) vs
  | _, _, .nil => .nil
  | _, _, .cons n t h => .cons ⟨t, rfl⟩ (vals_ints h)
noncomputable def Only (H : Hp) : Prop := ∀ b, H b = none ∨ ∃ o xs, H b = some (.frz o (.lst xs))
theorem law_call {P : Program} {w : World} {K : PySem.W.Frag} {mg mb : Str → Option Value} {CX : CXT} {k : Nat} {fa a : Addr} {fd : FuncData} {x : Str} {sp : Sp} {s₁ : Shared} {vs : List Value} {ns : List Int}
    (KX : K.In s₁.heap) (hns : s₁.heap.Ns mainGlobals mg) (hb : s₁.heap.Ns builtinsNs mb) (hbb : ∀ x : Str, x ≠ "__name__" → mb x = bootBuiltins x) (hlim : s₁.heap.NoLimit) (hg : s₁.gens = #[])
    (ha : s₁.heap.get? a = some { cls := .type "list", data := .seq vs.toArray }) (hi : IntsAre vs ns) (hl : ns.length ≤ sizeLine) (hr : Room k callerA)
    (F : ∀ base : Heap, K.In base → base.Ns mainGlobals mg → FnOk P w K mg base CX k fa fd [x] sp) (hbind : ∀ (s : Shared) (u : Value), BindsTo s fd ⟨[u], []⟩ [(x, u)])
    (hsp : ∀ H : Hp, Only H → SqL K H a (ns.map V.int) → sp [.ref a] H (fun v _ => v = .bl true) fun _ _ _ => False)
    (hCX : ∀ H e s', CX [] H s₁ (fun _ _ _ => False) e s' → False) :
    codeAny (model P w) callerA (.call (.ref fa) ⟨[.ref a], []⟩) (fun r s' => r = .ok (.ret (.bool true)) ∧ OldK s₁.heap s'.heap ∧ s'.os = s₁.os ∧ AllBare s'.gens) s₁ := by
  have rv := vals_ints hi
  have lenV := hi.length
  -- from an abstract heap in which nothing but the script may be tracked
  have core : ∀ H : Hp, Only H → SqL K H a (ns.map V.int) → HOk P w H s₁.heap → (∀ b, H b ≠ none → b = a) → (H a ≠ none → K.lookup a = none) →
      codeAny (model P w) callerA (.call (.ref fa) ⟨[.ref a], []⟩) (fun r s' => r = .ok (.ret (.bool true)) ∧ OldK s₁.heap s'.heap ∧ s'.os = s₁.os ∧ AllBare s'.gens) s₁ := by
    intro H hO hS hok hA hK
    have base_of : ∀ {b : Addr} {o : Obj}, s₁.heap.get? b = some o → H b = none → (hidT s₁.heap H).get? b = some o := fun e n => hidT_get e n
    have noA : ∀ {b : Addr} {o : Obj} {es : Array DictEntry} {ep : Nat}, s₁.heap.get? b = some o → o.data = .dict es ep → H b = none := fun {b o es ep} e d => by
      cases q : H b with
      | none => rfl
      | some u =>
        have e' : b = a := hA b (by rw [q]; simp)
        subst e'
        rw [ha] at e; cases e
        have d' : Data.seq vs.toArray _ = Data.dict es ep := d
        cases d'
    have nsK : ∀ {b : Addr} {m : Str → Option Value}, s₁.heap.Ns b m → (hidT s₁.heap H).Ns b m := fun {b m} ⟨o, es, ep, e, d, r⟩ => ⟨o, es, ep, base_of e (noA e d), d, r⟩
    have hKb : K.In (hidT s₁.heap H) := fun b o e => base_of (KX b o e) (by
      cases q : H b with
      | none => rfl
      | some u =>
        have e' : b = a := hA b (by rw [q]; simp)
        subst e'
        rw [hK (by rw [q]; simp)] at e; cases e)
    have hM : Mod K mg (hidT s₁.heap H) := ⟨hKb, nsK hns, ⟨mb, nsK hb, hbb⟩, let ⟨mc, h1, h2⟩ := hlim; ⟨mc, nsK h1, h2⟩⟩
    have e0 : Env0 P w K mg (hidT s₁.heap H) callerA [] s₁ H := ⟨rfl, hM, fun b o e => of_hidT e, Nat.le_of_eq (hidT_size _ _), trivial, fun b hb => absurd (show b ∈ ([] : List Addr) from hb) (by simp), hok, .of_eq hg⟩
    refine codeAny_mono ((F _ hKb (nsK hns)).run callerA [] s₁ H ⟨[.ref a], []⟩ [.ref a] [.ref a] _ _ hr e0 (hbind s₁ (.ref a)) (.cons rfl .nil) (hsp H hO hS)) fun r s' h => ?_
    cases r with
    | error e => exact (hCX H e s' h).elim
    | ok fl =>
      cases fl with
      | next => exact False.elim h
      | brk => exact False.elim h
      | cont => exact False.elim h
      | ret u =>
        obtain ⟨v, H', os, bare, un, hok', r', q⟩ := h
        have q' : v = .bl true := q
        subst q'
        obtain rfl : u = Value.bool true := r'
        refine ⟨rfl, OldK.of_keep fun b o e => ?_, os, bare⟩
        cases q : H b with
        | none => exact un.keep b o e q (by intro z; exact absurd (show b ∈ ([] : List Addr) from z) (by simp)) (by simp)
        | some u =>
          rcases hO b with z | ⟨ob, xs, z⟩
          · rw [q] at z; cases z
          · have z2 := un.frzs b ob _ z
            obtain ⟨e1, _⟩ := hok b _ z
            obtain ⟨e2, _⟩ := hok' b _ z2
            rw [e] at e1; cases e1
            exact e2
  cases hk : K.lookup a with
  | some o =>
    -- the script is one of the module's own objects
    have e := KX a o hk
    rw [ha] at e
    cases e
    refine core (fun _ => none) (fun _ => .inl rfl) (.inr ⟨_, vs.toArray, _, hk, rfl, rfl, rfl, by rw [List.size_toArray, lenV]; exact hl, by simpa using rv⟩) (fun b u z => by have z' : (none : Option HO) = some u := z; cases z') (fun b z => absurd rfl z) fun z => absurd rfl z
  | none =>
    refine core (fun b => if b = a then some (.frz { cls := .type "list", data := .seq vs.toArray } (.lst (ns.map V.int))) else none) (fun b => ?_) (.inl (.inr ⟨{ cls := .type "list", data := .seq vs.toArray }, if_pos rfl⟩)) (fun b u z => ?_) (fun b z => ?_) fun _ => hk
    · by_cases hb : b = a
      · exact .inr ⟨_, _, if_pos hb⟩
      · exact .inl (if_neg hb)
    · by_cases hb : b = a
      · have z' := (if_pos hb).symm.trans z
        cases z'
        subst hb
        exact ⟨ha, by rw [List.length_map]; exact hl, vs, _, rv, ha⟩
      · have z' := (if_neg hb).symm.trans z
        cases z'
    · by_cases hb : b = a
      · exact hb
      · exact absurd (if_neg hb) z
end L2
namespace L2
open PySem PySem.Spec PyProof.Rows
theorem walk_of {l : PySem.W.OpenLaw} {n k : Nat} {q : Program} {loose : List Str} {XP : (Str → Option Value) → Heap → Prop} {YP : World → Heap → Prop} {d : DefRec} {K : Params → PySem.W.Frag} {CX : World → CXT} {sp : World → Sp} {x : Str}
    (hn : l.most = some n) (hn2 : n ≤ sizeLine) (hdf : d.params.defaults = []) (hr : Room k callerA)
    (hY : ∀ (w : World) (h : Heap), YP w h → (K w.params).In h)
    (F : ∀ (w : World) (mg : Str → Option Value) (fa : Addr) (h : Heap), (K w.params).In h → h.Ns mainGlobals mg → mg d.name = some (.ref fa) →
      ∃ fd : FuncData, (∀ (s : Shared) (u : Value), BindsTo s fd ⟨[u], []⟩ [(x, u)]) ∧
        ∀ base : Heap, (K w.params).In base → base.Ns mainGlobals mg → FnOk l.prog w (K w.params) mg base (CX w) k fa fd [x] (sp w))
    (hsp : ∀ (w : World) (H : Hp) (a : Addr) (ns : List Int), ns.length ≤ n → Only H → SqL (K w.params) H a (ns.map V.int) → sp w [.ref a] H (fun v _ => v = .bl true) fun _ _ _ => False)
    (hCX : ∀ (w : World) (H : Hp) (s : Shared) (e : Value) (s' : Shared), CX w [] H s (fun _ _ _ => False) e s' → False) :
    PySem.W.WalkO q loose XP YP l.row.toRowW d [] (fun f vs => PySem.call f vs) := by
  refine Att.attach_call hn hdf fun w s₀ s₁ mg mb fa o pm cd doc a vs ns G Y ho hd hcd hmg hobj hints hlen hg => ?_
  have KX := hY w _ Y
  obtain ⟨fd, hb, hF⟩ := F w mg fa _ KX G.T.g hmg
  exact law_call KX G.T.g G.T.b G.T.builtins G.T.nolimit hg hobj hints (Nat.le_trans hlen hn2) hr hF hb (fun H hO hS => hsp w H a ns hlen hO hS) fun H e s' => hCX w H s₁ e s'
end L2
namespace L2
open PySem PySem.Spec PyProof.Rows
noncomputable def inClass (s : Stmt) (j : Nat) : Stmt := match s with
  | .ClassDef _ _ _ body _ _ _ _ _ _ _ => body.getD j (.Pass ⟨0, 0, 0, 0⟩)
  | _ => .Pass ⟨0, 0, 0, 0⟩
noncomputable def defArgs (s : Stmt) : Arguments := match s with
  | .FunctionDef _ a _ _ _ _ _ _ _ _ => a
  | _ => { posonlyargs := [], args := [], vararg := none, kwonlyargs := [], kw_defaults := [], kwarg := none, defaults := [] }
noncomputable def defBody (s : Stmt) : List Stmt := match s with
  | .FunctionDef _ _ b _ _ _ _ _ _ _ => b
  | _ => []
noncomputable def defScope (s : Stmt) : Scope := match s with
  | .FunctionDef _ _ _ _ _ _ sc _ _ _ => sc
  | _ => { kind := .function, names := [], isGenerator := false, isCoroutine := false }
noncomputable abbrev CX0 : CXT := fun _ _ _ _ _ _ => False
noncomputable abbrev E0 : XK := fun _ _ _ => False
theorem pass0 {X : Cx} : Passes CX0 X E0 := fun _ _ _ _ _ _ _ h => h.elim
structure Fun (K : PySem.W.Frag) (x qual : Str) (st : Stmt) (f : Addr) (fd : FuncData) : Prop where
  ex : ∃ (oc : Value) (od : Option Addr) (kV doc pm : Value) (an : Option Addr) (cdv ct : Value) (osl : Array (Option Value)),
    fd = PySem.W.fnOf x qual (defArgs st) (defBody st) (defScope st) .none kV doc pm an cdv ct ∧ K.lookup f = some ⟨oc, od, .func fd, osl⟩ ∧ PySem.W.codeIn K cdv qual = true
  kp : PySem.W.keepIn K (.ref f) = true
section
variable {P : Program} {w : World} {K : PySem.W.Frag} {mg : Str → Option Value} {base : Heap}
theorem Fun.ok {x qual : Str} {st : Stmt} {f : Addr} {fd : FuncData} {N ps : List Str} {k : Nat} {sp : Sp} (F : Fun K x qual st f fd) (S : FnScope N ps (defScope st)) (len : ∀ vs H Q E, sp vs H Q E → vs.length = ps.length)
    (hbody : ∀ (cdv : Value) (A : Around) (outer : List Env) (s : Shared) (H : Hp) (vs : List V) (Q : VK) (E : XK), Room k (A.deeper (envOfC qual (defScope st) s.heap.objs.size f cdv)) → sp vs H Q E →
      ∃ t, PSs (cxOf CX0 P w K mg base N qual (defScope st) f cdv A outer s H E).nox (defBody st) t ∧ t { nx := fun _ H' => Q .non H', rt := Q } (start N vs) H) : FnOk P w K mg base CX0 (k + 1) f fd ps sp := by
  obtain ⟨oc, od, kV, doc, pm, an, cdv, ct, osl, rfl, lk, hcd⟩ := F.ex
  refine fn_of lk hcd S len fun A outer s H vs Q E hr hsp => ?_
  obtain ⟨t, h, q⟩ := hbody cdv A outer s H vs Q E hr hsp
  exact ⟨t, h.nox, q⟩
theorem Fun.binds {x qual : Str} {st : Stmt} {f : Addr} {fd : FuncData} {ps : List Str} (F : Fun K x qual st f fd)
    (h : ∀ (kV doc pm : Value) (an : Option Addr) (cdv ct : Value) (us : List Value), us.length = ps.length → bindArgs (PySem.W.fnOf x qual (defArgs st) (defBody st) (defScope st) .none kV doc pm an cdv ct) ⟨us, []⟩ = pure (ps.zip us)) : Binds K fd ps [] := by
  obtain ⟨oc, od, kV, doc, pm, an, cdv, ct, osl, rfl, lk, hcd⟩ := F.ex
  exact .all (h kV doc pm an cdv ct)
theorem fun_mk {x qual : Str} {st : Stmt} {f : Addr} {oc : Value} {od an : Option Addr} {osl : Array (Option Value)} {kV doc pm cdv ct : Value} (l : K.lookup f = some ⟨oc, od, .func (PySem.W.fnOf x qual (defArgs st) (defBody st) (defScope st) .none kV doc pm an cdv ct), osl⟩)
    (c : PySem.W.codeIn K cdv qual = true) (k : PySem.W.keepIn K (.ref f) = true) : Fun K x qual st f (PySem.W.fnOf x qual (defArgs st) (defBody st) (defScope st) .none kV doc pm an cdv ct) := ⟨⟨oc, od, kV, doc, pm, an, cdv, ct, osl, rfl, l, c⟩, k⟩
end
theorem hu_of {A : Around} {k : Nat} (hr : Room k A) : A.units + 1 < cLine := Nat.lt_of_le_of_lt (Nat.add_le_add_left (by decide : 1 ≤ 64) _) hr.units
section
variable {X : Cx}
theorem pv (i : Nat) {x : Str} {pos : Pos} (hN : X.N[i]? = some x := by rfl) (hv : Vis X.env.scope x := by first | exact Or.inl rfl | exact Or.inr (Or.inl rfl) | exact Or.inr (Or.inr rfl)) (hd : (x == ("__debug__" : Str)) = false := by decide)
    (hcd : (x == ("__classdict__" : Str)) = false := by decide) : PE X (.Name x pos) (tVar i) := pe_var hN hv hd hcd
theorem call_lenD : CallR X (.builtin "len") (fun xs H Q => ∃ a kvs, xs = [V.ref a] ∧ H a = some (.dK kvs) ∧ Q (.int kvs.length) H) := by
  intro pins s σ H xs us Q I r h
  obtain ⟨a, kvs, rfl, ha, q⟩ := h
  obtain ⟨u, rfl, ru⟩ := vals1 r
  cases ru
  exact d_len I (.inl ha) fun t s' I' => ⟨.int kvs.length, H, I', ⟨t, rfl⟩, q⟩
end
theorem iteF {A B : Prop} (h : B) : if false = true then A else B := by
  rw [if_neg Bool.false_ne_true]
  exact h
theorem iteT {A B : Prop} (h : A) : if true = true then A else B := by
  rw [if_pos rfl]
  exact h
theorem ite2 {c A B : Prop} [Decidable c] (h1 : c → A) (h2 : ¬ c → B) : if c then A else B := by
  by_cases h : c
  · rw [if_pos h]
    exact h1 h
  · rw [if_neg h]
    exact h2 h
noncomputable def Same (H H' : Hp) : Prop := ∀ b o, H b = some o → H' b = some o
theorem Same.refl (H : Hp) : Same H H := fun _ _ h => h
theorem Same.trans {H H1 H2 : Hp} (a : Same H H1) (b : Same H1 H2) : Same H H2 := fun c o h => b c o (a c o h)
theorem Same.free {H H' : Hp} (e : Same H H') {l : Addr} (h : H' l = Option.none) : H l = Option.none := by
  cases q : H l with
  | none => rfl
  | some o =>
    rw [e l o q] at h
    cases h
theorem Same.seq {K : PySem.W.Frag} {H H' : Hp} {a : Addr} {xs : List V} (e : Same H H') (h : SqL K H a xs) : SqL K H' a xs := by
  rcases h with (h | ⟨o, h⟩) | h
  · exact .inl (.inl (e _ _ h))
  · exact .inl (.inr ⟨o, e _ _ h⟩)
  · exact .inr h
section
variable {κ : Type} [DecidableEq κ]
theorem valV_in {kvs : List (κ × V)} {k : κ} {v : V} (h : valV kvs k = some v) : k ∈ kvs.map (·.1) := by
  have q : (kvs.any fun kv => decide (kv.1 = k)) = true := by
    rw [valV_any, h]
    all_goals rfl
  obtain ⟨p, hp, e⟩ := List.any_eq_true.mp q
  exact List.mem_map.mpr ⟨p, hp, of_decide_eq_true e⟩
end
end L2
namespace L2
open PySem PySem.Spec PyProof.Rows
noncomputable def clos (cells : List (Str × Addr)) : List (Str × NameKind) → List (Str × Addr) → List (Str × Addr)
  | [], cs => cs
  | (n, k) :: r, cs => clos cells r (if k == NameKind.free then (n, (cells.lookup n).getD 0) :: cs else cs)
theorem clos_go {env : Env} : ∀ (ns : List (Str × NameKind)) (cs : List (Str × Addr)), (∀ y ∈ ns, y.2 = NameKind.free → (env.cells.lookup y.1).isSome = true) →
    (forIn ns cs fun (p : Str × NameKind) (r : List (Str × Addr)) =>
      if (p.2 == NameKind.free) = true then (do let a ← cellOf env p.1; pure (ForInStep.yield ((p.1, a) :: r)) : Sem _) else pure (ForInStep.yield r)) = (pure (clos env.cells ns cs) : Sem _)
  | [], cs, _ => by simp [clos]
  | (n, k) :: r, cs, h => by
    have ih := fun cs' => clos_go r cs' fun y hy => h y (List.mem_cons_of_mem _ hy)
    rw [List.forIn_cons]
    by_cases hk : k = NameKind.free
    · subst hk
      have hs := h (n, NameKind.free) List.mem_cons_self rfl
      cases e : env.cells.lookup n with
      | none => rw [e] at hs; cases hs
      | some c =>
        have e1 : cellOf env n = pure c := by unfold cellOf; rw [e]
        have e2 : clos env.cells ((n, NameKind.free) :: r) cs = clos env.cells r ((n, c) :: cs) := by simp [clos, e]
        rw [e2, ← ih ((n, c) :: cs)]
        (simp only [beq_self_eq_true, if_true])
        rw [e1]
        rfl
    · have hb : (k == NameKind.free) = false := by simpa using hk
      have e2 : clos env.cells ((n, k) :: r) cs = clos env.cells r cs := by simp [clos, hb]
      rw [e2, ← ih cs]
      (simp only [hb, Bool.false_eq_true, if_false])
      rfl
theorem closureFor_is {scope : Scope} {env : Env} (h : ∀ y ∈ scope.names, y.2 = NameKind.free → (env.cells.lookup y.1).isSome = true) : closureFor scope env = pure (clos env.cells scope.names []) := by
  have e := clos_go (env := env) scope.names [] h
  unfold closureFor
  simp only [bind_pure]
  exact e
theorem clos_sub {cells : List (Str × Addr)} {x : Str} {c : Addr} : ∀ {ns : List (Str × NameKind)} {cs : List (Str × Addr)}, (∀ y ∈ ns, y.2 = NameKind.free → (cells.lookup y.1).isSome = true) → (cs.lookup x = some c → cells.lookup x = some c) →
    (clos cells ns cs).lookup x = some c → cells.lookup x = some c
  | [], _, _, h, e => h e
  | (n, k) :: r, cs, hn, h, e => by
    refine clos_sub (ns := r) (fun y hy => hn y (List.mem_cons_of_mem _ hy)) ?_ e
    by_cases hk : k = NameKind.free
    · subst hk
      (simp only [beq_self_eq_true, if_true])
      intro q
      rw [List.lookup_cons] at q
      by_cases hx : x = n
      · subst hx
        have hs := hn (x, NameKind.free) List.mem_cons_self rfl
        simp only [beq_self_eq_true] at q
        cases e1 : cells.lookup x with
        | none => rw [e1] at hs; cases hs
        | some d => rw [e1] at q; exact q
      · have hb : (x == n) = false := by simpa using hx
        rw [hb] at q
        exact h q
    · have hb : (k == NameKind.free) = false := by simpa using hk
      (simp only [hb, Bool.false_eq_true, if_false])
      exact h
theorem clos_keep {cells : List (Str × Addr)} {x : Str} : ∀ {ns : List (Str × NameKind)} {cs : List (Str × Addr)}, (cs.lookup x).isSome = true → ((clos cells ns cs).lookup x).isSome = true
  | [], _, h => h
  | (n, k) :: r, cs, h => by
    refine clos_keep (ns := r) ?_
    split
    · rw [List.lookup_cons]
      split
      · rfl
      · exact h
    · exact h
theorem clos_has {cells : List (Str × Addr)} {x : Str} : ∀ {ns : List (Str × NameKind)} {cs : List (Str × Addr)}, (x, NameKind.free) ∈ ns → ((clos cells ns cs).lookup x).isSome = true
  | [], _, h => nomatch h
  | (n, k) :: r, cs, h => by
    rcases List.mem_cons.mp h with e | e
    · cases e
      refine clos_keep (ns := r) ?_
      simp
    · exact clos_has (ns := r) e
theorem relab_free {env : Env} {x : Str} {k : NameKind} : ∀ {ns : List (Str × NameKind)}, (∀ y ∈ ns, y.2 ≠ NameKind.cell) → k = NameKind.cell ∨ k = NameKind.free →
    (ns.map fun (p : Str × NameKind) => if (p.2 == NameKind.free && env.scope.kind == .function && env.kindOf p.1 == some .cell) then (p.1, NameKind.cell) else (p.1, p.2)).lookup x = some k → (x, NameKind.free) ∈ ns
  | [], _, _, e => by simp at e
  | (n, j) :: r, hn, hk, e => by
    rw [List.map_cons] at e
    by_cases hx : x = n
    · subst hx
      have hj : j = NameKind.free := by
        by_cases hc : (j == NameKind.free && env.scope.kind == .function && env.kindOf x == some .cell) = true
        · simp only [Bool.and_eq_true, beq_iff_eq] at hc
          exact hc.1.1
        · simp only [hc] at e
          simp at e
          subst e
          rcases hk with q | q
          · exact absurd q (hn (x, j) List.mem_cons_self)
          · exact q
      subst hj
      exact List.mem_cons_self
    · refine List.mem_cons_of_mem _ (relab_free (env := env) (fun y hy => hn y (List.mem_cons_of_mem _ hy)) hk ?_)
      by_cases hc : (j == NameKind.free && env.scope.kind == .function && env.kindOf n == some .cell) = true
      · simp only [hc, if_true] at e
        rw [List.lookup_cons] at e
        have hb : (x == n) = false := by simpa using hx
        rw [hb] at e
        exact e
      · simp only [hc] at e
        simp at e
        rw [List.lookup_cons] at e
        have hb : (x == n) = false := by simpa using hx
        rw [hb] at e
        simpa using e
noncomputable def lcCx (X : Cx) (N : List Str) (scope : Scope) (C : Addr) (s : Shared) (H : Hp) (fp : List Addr) : Cx where
  prog := X.prog
  w := X.w
  K := X.K
  mg := X.mg
  base := X.base
  A := X.A
  N := N
  s₀ := s
  H₀ := H
  env := compEnvC scope (clos X.env.cells scope.names []) C X.env
  outer := X.stack
  stack := X.stack
  ex := fp
  fn := fun _ => false
  calm := X.calm
  pn := []
  xe := fun _ _ => False
noncomputable def caps (n : Nat) (js : List Nat) (σ : St) : St := List.replicate n none ++ js.map fun j => (σ[j]?).getD none
structure LcOk (X : Cx) (N : List Str) (sc scope : Scope) (own : List Str) (fr : List Str) (js : List Nat) : Prop where
  around : X.env.scope = sc
  names : N = own ++ fr
  kind : scope.kind = .function
  okind : sc.kind = .function
  nocell : ∀ y ∈ scope.names, y.2 ≠ NameKind.cell
  free : ∀ y ∈ scope.names, y.2 = NameKind.free → sc.names.lookup y.1 = some NameKind.cell
  loc : ∀ y ∈ scope.names, y.2 = NameKind.local → scope.names.lookup y.1 = some NameKind.local
  at' : js.map (fun j => X.N[j]?) = fr.map some
  cap : ∀ x ∈ fr, sc.names.lookup x = some NameKind.cell ∧ scope.names.lookup x = some NameKind.free
theorem relab_cell {env : Env} {x : Str} (hk : env.scope.kind = .function) (hx : env.kindOf x = some NameKind.cell) : ∀ {ns : List (Str × NameKind)}, ns.lookup x = some NameKind.free →
    (ns.map fun (p : Str × NameKind) => if (p.2 == NameKind.free && env.scope.kind == .function && env.kindOf p.1 == some .cell) then (p.1, NameKind.cell) else (p.1, p.2)).lookup x = some NameKind.cell
  | [], e => by simp at e
  | (n, j) :: r, e => by
    rw [List.map_cons]
    rw [List.lookup_cons] at e
    by_cases hn : x = n
    · subst hn
      simp only [beq_self_eq_true] at e
      cases e
      have hc : (NameKind.free == NameKind.free && env.scope.kind == .function && env.kindOf x == some .cell) = true := by rw [hk, hx]; rfl
      simp only [hc, if_true]
      rw [List.lookup_cons]
      simp
    · have hb : (x == n) = false := by simpa using hn
      rw [hb] at e
      have ih := relab_cell hk hx (ns := r) e
      by_cases hc : (j == NameKind.free && env.scope.kind == .function && env.kindOf n == some .cell) = true
      · simp only [hc, if_true]
        rw [List.lookup_cons, hb]
        exact ih
      · rw [if_neg hc, List.lookup_cons, hb]
        exact ih
theorem LcOk.cellAt {X : Cx} {N : List Str} {sc scope : Scope} {own fr : List Str} {js : List Nat} (L : LcOk X N sc scope own fr js) (ok : X.Ok) : ∀ y ∈ scope.names, y.2 = NameKind.free → (X.env.cells.lookup y.1).isSome = true := fun y hy hf => by
  obtain ⟨c, e⟩ := ok.has y.1 (.inl (show X.env.scope.names.lookup y.1 = _ by rw [L.around]; exact L.free y hy hf))
  rw [e]
  rfl
theorem LcOk.sub {X : Cx} {N : List Str} {sc scope : Scope} {own fr : List Str} {js : List Nat} (L : LcOk X N sc scope own fr js) (ok : X.Ok) {x : Str} {c : Addr} (e : (clos X.env.cells scope.names []).lookup x = some c) : X.env.cells.lookup x = some c :=
  clos_sub (L.cellAt ok) (fun z => by simp at z) e
theorem LcOk.len {X : Cx} {N : List Str} {sc scope : Scope} {own fr : List Str} {js : List Nat} (L : LcOk X N sc scope own fr js) : js.length = fr.length := by
  have := congrArg List.length L.at'
  simpa using this
theorem lc_ctx {X : Cx} {N : List Str} {sc scope : Scope} {own fr : List Str} {js : List Nat} {pins : List (Addr × Obj)} {σ : St} {H : Hp} {s : Shared} {fp : List Addr} (L : LcOk X N sc scope own fr js) (I : Inv X pins σ H s) (hf : ∀ b ∈ fp, FpOk X pins H b)
    (ho : ∀ b ∈ fp, b < s.heap.objs.size) {C : Addr} (hC : s.heap.objs.size ≤ C) : (lcCx X N scope C s H fp).Ok where
  mod := I.mod
  kind := L.kind
  glob := I.ok.glob
  blt := I.ok.blt
  above := hC
  inj := fun x y c e1 e2 => I.ok.inj x y c (L.sub I.ok e1) (L.sub I.ok e2)
  has := fun x hx => by
    have hm : (x, NameKind.free) ∈ scope.names := by
      rcases hx with q | q
      · exact relab_free L.nocell (.inl rfl) q
      · exact relab_free L.nocell (.inr rfl) q
    have := clos_has (cells := X.env.cells) (cs := []) hm
    cases e : (clos X.env.cells scope.names []).lookup x with
    | none => rw [e] at this; cases this
    | some c => exact ⟨c, e⟩
  cab := fun _ _ z _ => nomatch z
  hd := I.ok.hd
  frames := I.ok.frames
  stk := .inl rfl
  exf := fun b hb => ⟨Nat.ne_of_lt (Nat.lt_of_lt_of_le (ho b hb) hC), fun x c e => (hf b hb).2.2.2.2.1 x c (L.sub I.ok e)⟩
  bs := I.bs
  bsz := Nat.le_trans I.ok.bsz I.sz
  noex := fun b o e hb => by
    rcases (hf b hb).2.2.2.1 with q | q
    · exact I.ok.noex b o e q
    · exact absurd (Nat.lt_of_lt_of_le (Heap.lt_size (I.ok.bs b o e).1) q) (Nat.lt_irrefl _)
  exfs := fun b hb hs => by
    rcases List.mem_cons.mp (I.stkSub b hs) with q | q
    · exact (hf b hb).2.1 q
    · exact (hf b hb).2.2.1 q
  funs := I.stack
  frf := I.stkFree
theorem getD_none {o : Option (Option V)} {v : V} (h : o.getD none = some v) : o = some (some v) := by
  cases o with
  | none => cases h
  | some u => cases u with
    | none => cases h
    | some w => cases h; rfl
theorem caps_get {n : Nat} {js : List Nat} {σ : St} {i : Nat} {v : V} (e : (caps n js σ)[i]? = some (some v)) : ∃ k j, i = n + k ∧ js[k]? = some j ∧ σ[j]? = some (some v) := by
  unfold caps at e
  by_cases hi : i < n
  · rw [List.getElem?_append_left (by simpa using hi)] at e
    rw [List.getElem?_replicate] at e
    split at e <;> cases e
  · rw [List.getElem?_append_right (by simpa using hi)] at e
    simp only [List.length_replicate, List.getElem?_map] at e
    cases q : js[i - n]? with
    | none => rw [q] at e; cases e
    | some j =>
      rw [q] at e
      exact ⟨i - n, j, by lia, q, getD_none (Option.some.inj e)⟩
theorem lc_start {X : Cx} {N : List Str} {sc scope : Scope} {own fr : List Str} {js : List Nat} {pins : List (Addr × Obj)} {σ : St} {H : Hp} {s : Shared} {fp : List Addr} (L : LcOk X N sc scope own fr js) (I : Inv X pins σ H s) (hf : ∀ b ∈ fp, FpOk X pins H b)
    (ho : ∀ b ∈ fp, b < s.heap.objs.size) {h' : Heap} {m : Str → Option Value} {tk : Nat} (hn : h'.Ns (s.heap.objs.size + 1) m) (hk : ∀ b o, s.heap.get? b = some o → h'.get? b = some o)
    (hl : h'.get? s.heap.objs.size = some { cls := .type "list", data := .seq ([] : List Value).toArray }) :
    Inv (lcCx X N scope (s.heap.objs.size + 1) s H fp) [] (caps own.length js σ) (upd H s.heap.objs.size (.lst [])) { s with heap := h', toks := tk } := by
  have fresh : ∀ a, s.heap.objs.size ≤ a → H a = none := fun a ha => I.hok.fresh ha
  have cellAt : ∀ x c, (clos X.env.cells scope.names []).lookup x = some c → ∃ v, s.heap.IsCell c v := fun x c e => I.cell x c (L.sub I.ok e)
  refine ⟨lc_ctx L I hf ho (Nat.le_succ _), rfl, I.bare, Un.laid hk (Nat.le_refl _) (fresh _ (Nat.le_refl _)), ⟨m, hn, fun i x v e1 e2 e3 => ?_⟩, fun x c e => ?_, ?_, fun x c e => ?_, fun p hp => ?_, I.hok.laid hk (Nat.le_refl _) ?_, ?_⟩
  · obtain ⟨k, j, rfl, hj, hv⟩ := caps_get e2
    have hN : (own ++ fr)[own.length + k]? = some x := by
      have e1' : N[own.length + k]? = some x := e1
      rw [L.names] at e1'
      exact e1'
    rw [List.getElem?_append_right (by lia), Nat.add_sub_cancel_left] at hN
    have hx : x ∈ fr := List.mem_of_getElem? hN
    have hjx : X.N[j]? = some x := by
      have := congrArg (fun l => l[k]?) L.at'
      simp only [List.getElem?_map, hj, hN, Option.map_some] at this
      exact Option.some.inj this
    obtain ⟨kc', kr'⟩ := L.cap x hx
    have kc : X.env.kindOf x = some NameKind.cell := by show X.env.scope.names.lookup x = _; rw [L.around]; exact kc'
    have kr : (relabel scope X.env).names.lookup x = some NameKind.cell := relab_cell (by rw [L.around]; exact L.okind) kc kr'
    obtain ⟨m0, _, hl0⟩ := I.loc
    obtain ⟨u, r, l⟩ := hl0 j x v hjx hv (.inr (.inl kc))
    refine ⟨u, r, .inr ⟨.inl kr, ?_⟩⟩
    rcases l with ⟨kk, _⟩ | ⟨_, c, hc, z⟩
    · rw [kc] at kk; cases kk
    · have hs : ((clos X.env.cells scope.names []).lookup x).isSome = true := clos_has (relab_free L.nocell (.inl rfl) kr)
      cases e : (clos X.env.cells scope.names []).lookup x with
      | none => rw [e] at hs; cases hs
      | some d =>
        have ed := L.sub I.ok e
        rw [hc] at ed
        cases ed
        obtain ⟨o, ho', hd⟩ := z
        exact ⟨c, e, o, hk c o ho', hd⟩
  · obtain ⟨v, o, ho', hd⟩ := cellAt x c e
    exact ⟨v, o, hk c o ho', hd⟩
  · show upd H s.heap.objs.size _ (s.heap.objs.size + 1) = none
    rw [upd_ne (Nat.succ_ne_self _)]
    exact fresh _ (Nat.le_succ _)
  · obtain ⟨v, o, ho', hd⟩ := cellAt x c e
    rw [upd_ne (Nat.ne_of_lt (Heap.lt_size ho'))]
    exact I.freeC x c (L.sub I.ok e)
  · exact nomatch hp
  · exact ⟨Nat.zero_le _, [], 0, .nil, hl⟩
  · show (caps own.length js σ).length = N.length
    rw [L.names]
    simp [caps, L.len]
noncomputable def PIf (X : Cx) (ifs : List Expr) (t : TT) : Prop :=
  ∀ (pins : List (Addr × Obj)) (s : Shared) (σ : St) (H : Hp) (Q : Bool → Hp → Prop), Inv X pins σ H s → t σ H Q →
    wpAny (model X.prog X.w) X.A (forIn ifs true fun c r => if r = true then do let ok ← isTrue c X.env (eval c X.env); pure (ForInStep.yield ok) else pure (ForInStep.yield r)) (TP X pins σ Q) X.xe s
noncomputable def tYes : TT := fun _ H Q => Q true H
theorem pif_nil {X : Cx} : PIf X [] tYes := fun _ _ _ H _ I h => wpAny_tests_nil ⟨H, I, h⟩
theorem pif_one {X : Cx} {c : Expr} {t : TT} (h : PT X c t) : PIf X [c] t := fun pins s σ H Q I q => wpAny_tests_one (h pins s σ H Q I q)
theorem lc_loop {prog : Program} {w : World} {A : Around} {R : Result → Shared → Prop} {s : Shared} {elt tg iter : Expr} {ifs : List Expr} {scope : Scope} {pos : Pos} {it acc : Value} {env : Env} (J : Nat → Shared → Prop)
    (turn : ∀ n s, J n s → wpAny (model prog w) A (pyNext it) (fun r s1 => match r with
      | none => R (.ok .next) s1
      | some v => wpAny (model prog w) A (letOwnedTupleGo tg it v) (fun _ s2 => wpAny (model prog w) A (assign tg env v) (fun _ s3 =>
          wpAny (model prog w) A (forIn ifs true fun c r => if r = true then do let ok ← isTrue c env (eval c env); pure (ForInStep.yield ok) else pure (ForInStep.yield r)) (fun ok s4 =>
            if ok = true then wpAny (model prog w) A (eval elt env) (fun x s5 => wpAny (model prog w) A (call (.builtin "list.append") [acc, x]) (fun _ s6 => ∃ m, m < n ∧ J m s6) (fun _ _ => False) s5) (fun _ _ => False) s4
            else ∃ m, m < n ∧ J m s4) (fun _ _ => False) s3) (fun _ _ => False) s2) (fun _ _ => False) s1) (fun _ _ => False) s)
    (n : Nat) (h : J n s) : codeAny (model prog w) A (.compLoop (.ListComp elt [⟨tg, iter, ifs, 0⟩] scope pos) 0 it acc env) R s := by
  refine codeAny_loop rfl J (fun n s hJ => ?_) n h
  show wpAny _ A ((compTurn (.ListComp elt [⟨tg, iter, ifs, 0⟩] scope pos) 0 it acc env).onRaise (fun x => do noteFrame x env; theTreesLotGoes x)) _ _ s
  refine wpAny_noted ?_
  rw [compTurn_list]
  refine wpAny_bind (wpAny_standAt (wpAny_bind (wpAny_mono (turn n s hJ) (fun r s1 h1 => ?_) fun _ _ f => f.elim)))
  cases r with
  | none => exact wpAny_pure h1
  | some v =>
    refine wpAny_bind (wpAny_mono h1 (fun _ s2 h2 => wpAny_bind (wpAny_mono h2 (fun _ s3 h3 => wpAny_bind (wpAny_mono h3 (fun ok s4 h4 => ?_) fun _ _ f => f.elim)) fun _ _ f => f.elim)) fun _ _ f => f.elim)
    cases ok with
    | false => exact wpAny_pure ⟨rfl, h4⟩
    | true =>
      exact wpAny_bind (wpAny_bind (wpAny_mono h4 (fun x s5 h5 => wpAny_bind (wpAny_mono h5 (fun _ s6 h6 => wpAny_pure (wpAny_pure ⟨rfl, h6⟩)) fun _ _ f => f.elim)) fun _ _ f => f.elim))
noncomputable def tLcB (J : It) (D : Addr) (σ0 : St) (g : TG) (tc : TT) (te : TE) (fin : Hp → Prop) (W : Nat → Nat → List V → Hp → Prop) : Prop :=
  ∀ i m ys H, W i m ys H → (J.stop i H ∧ fin H) ∨ (J.go i H ∧ ∃ N : List V → Hp → Prop, (∀ ys' H', N ys' H' → ∃ m', m' < m ∧ W (i + 1) m' ys' H') ∧
    ∀ x H1, J.yld i H x H1 → g x σ0 H1 fun σ2 H2 => (σ2.length = σ0.length ∧ ∀ (i : Nat) v, σ0[i]? = some (some v) → σ2[i]? = some (some v)) ∧
      tc σ2 H2 fun b H3 => if b = true then te σ2 H3 fun y H4 => ∃ zs, H4 D = some (.lst zs) ∧ zs.length < sizeLine ∧ N (zs ++ [y]) (upd H4 D (.lst (zs ++ [y]))) else N ys H3)
theorem lc_block {X : Cx} {N : List Str} {sc scope : Scope} {own fr : List Str} {js : List Nat} {pins : List (Addr × Obj)} {σ : St} {H : Hp} {s : Shared} {fp : List Addr} {tg iter elt : Expr} {ifs : List Expr} {pos : Pos} {J : It} {it : Addr} {tn : Nat → Heap → Prop}
    {g : TG} {tc : TT} {te : TE} {RR : Value → Addr → Result → Shared → Prop} {E : Value → Shared → Prop} {fin : Addr → Hp → Prop}
    (L : LcOk X N sc scope own fr js) (hc : X.calm = true) (I : Inv X pins σ H s) (T : Turn X.prog X.w X.K tg J fp it tn) (st : tn 0 s.heap) (hf : ∀ b ∈ fp, FpOk X pins H b)
    (hg : ∀ C s H fp, PG (lcCx X N scope C s H fp) tg g) (hi : ∀ C s H fp, PIf (lcCx X N scope C s H fp) ifs tc) (he : ∀ C s H fp, PE (lcCx X N scope C s H fp) elt te)
    (h : ∀ D, H D = none → ∃ W : Nat → Nat → List V → Hp → Prop, (∃ m, W 0 m [] (upd H D (.lst []))) ∧ tLcB J D (caps own.length js σ) g tc te (fin D) W)
    (hRR : ∀ D C s' H', (∃ m, s'.heap.Ns C m) → Inv X pins σ H' s' → FpOk X pins H' C → fin D H' → RR (.ref D) C (.ok .next) s') :
    wpAny (model X.prog X.w) X.A (newList []) (fun acc s3 => wpAny (model X.prog X.w) X.A (newFunctionEnv scope X.env.globals (clos X.env.cells scope.names []) [] X.env.qual none .none (some X.env)) (fun cenv s4 =>
      codeAny (model X.prog X.w) X.A (.compStart (.ListComp elt [⟨tg, iter, ifs, 0⟩] scope pos) 0 (.ref it) acc { cenv with scope := relabel scope X.env }) (RR acc cenv.locals) s4) E s3) E s := by
  have hlt : ∀ b ∈ fp, b < s.heap.objs.size := fun b hb => by
    obtain ⟨o, e, _⟩ := T.obj 0 _ st b hb
    exact Heap.lt_size e
  refine wpAny_newObj_type (wpAny_newFunctionEnv L.nocell (fun _ z => nomatch z) (fun h1 n1 b1 => ?_) L.kind)
  dsimp only at n1 b1 ⊢
  have hsz : (s.heap.push { cls := .type "list", dict := none, data := .seq ([] : List Value).toArray }).objs.size = s.heap.objs.size + 1 := Heap.size_push ..
  rw [hsz] at n1 b1
  rw [hsz]
  have kept : ∀ b o, s.heap.get? b = some o → h1.get? b = some o := fun b o e => b1.extBut b o (Nat.ne_of_lt (Nat.lt_succ_of_lt (Heap.lt_size e))) (Heap.get?_push_of_some _ (Heap.get?_push_of_some _ e))
  have isl : h1.get? s.heap.objs.size = some { cls := .type "list", data := .seq ([] : List Value).toArray } := b1.extBut _ _ (Nat.ne_of_lt (Nat.lt_succ_self _)) (Heap.get?_push_of_some _ (Heap.get?_push_size _ rfl))
  have IY := lc_start (tk := s.toks + ([] : List (Str × Value)).length) L I hf hlt n1 kept isl
  have fresh : H s.heap.objs.size = none := I.hok.fresh (Nat.le_refl _)
  obtain ⟨W, ⟨m0, w0⟩, turn⟩ := h s.heap.objs.size fresh
  -- the iterator's records through the loop
  have stat : ∀ {H' : Hp}, (∀ b ∈ fp, H' b = none) → ∀ b ∈ fp, FpOk (lcCx X N scope (s.heap.objs.size + 1) s H fp) [] H' b := fun hn b hb =>
    ⟨hn b hb, Nat.ne_of_lt (Nat.lt_succ_of_lt (hlt b hb)), fun z => by
      rcases List.mem_cons.mp (I.stkSub b z) with q | q
      · exact (hf b hb).2.1 q
      · exact (hf b hb).2.2.1 q, .inl hb, fun x c e => (hf b hb).2.2.2.2.1 x c (L.sub I.ok e), fun _ z => nomatch z⟩
  have st1 : tn 0 h1 := T.keep 0 _ _ st fun b _ o e => kept b o e
  have loop : ∀ s2 : Shared, s2 = { s with heap := h1, toks := s.toks + ([] : List (Str × Value)).length } →
      codeAny (model X.prog X.w) X.A (.compLoop (.ListComp elt [⟨tg, iter, ifs, 0⟩] scope pos) 0 (.ref it) (.ref s.heap.objs.size) (lcCx X N scope (s.heap.objs.size + 1) s H fp).env) (RR (.ref s.heap.objs.size) (s.heap.objs.size + 1)) s2 := by
    rintro s2 rfl
    refine lc_loop (fun n s' => ∃ i ys H', Inv (lcCx X N scope (s.heap.objs.size + 1) s H fp) [] (caps own.length js σ) H' s' ∧ tn i s'.heap ∧ (∀ b ∈ fp, H' b = none) ∧ W i n ys H') ?_ m0
      ⟨0, [], _, IY, st1, fun b hb => by rw [upd_ne (Nat.ne_of_lt (hlt b hb))]; exact (hf b hb).1, w0⟩
    rintro n s3 ⟨i, ys, H3, I3, st3, fr3, w3⟩
    rcases turn i n ys H3 w3 with ⟨stop, qn⟩ | ⟨go, Nx, hN, step⟩
    · refine thn (T.done (lcCx X N scope (s.heap.objs.size + 1) s H fp) rfl rfl rfl hc i [] s3 _ H3 _ I3 (stat fr3) st3 stop) fun r s4 hp0 => ?_
      obtain ⟨hr, I4⟩ := hp0
      subst hr
      have IX : Inv X pins σ H3 s4 := I.call' (ch := fp) I4.os I4.base I4.hok I4.bare fun b hb => ⟨(hf b hb).2.2.2.1, (hf b hb).2.1, (hf b hb).2.2.2.2.1, (hf b hb).2.2.2.2.2⟩
      obtain ⟨m, hm, _⟩ := I4.loc
      exact hRR _ _ s4 H3 ⟨m, hm⟩ IX (I.fpOk (Nat.le_succ _) I4.free) qn
    · refine thn (T.item (lcCx X N scope (s.heap.objs.size + 1) s H fp) rfl rfl rfl hc i [] s3 _ H3 _ I3 (stat fr3) st3 go) fun r s4 hp0 => ?_
      obtain ⟨u, hr, h4⟩ := hp0
      subst hr
      refine thn h4 fun _ s5 hp0 => ?_
      obtain ⟨x, H5, I5, r5, y5, st5, fr5⟩ := hp0
      have I5' := I5.pinned (stat fr5) (T.obj _ _ st5)
      refine thn (hg _ _ _ _ _ s5 _ H5 x u _ I5' r5 (step x H5 y5)) fun _ s6 hp0 => ?_
      obtain ⟨σ6, H6, I6, ⟨hl6, hs6⟩, q6⟩ := hp0
      have next : ∀ {s7 : Shared} {H7 : Hp} {zs : List V}, Inv (lcCx X N scope (s.heap.objs.size + 1) s H fp) ([] ++ pinsAt fp s5.heap) σ6 H7 s7 → Nx zs H7 →
          ∃ m, m < n ∧ ∃ i ys H', Inv (lcCx X N scope (s.heap.objs.size + 1) s H fp) [] (caps own.length js σ) H' s7 ∧ tn i s7.heap ∧ (∀ b ∈ fp, H' b = none) ∧ W i m ys H' := fun {s7 H7 zs} I7 n7 => by
        obtain ⟨m', hm, w7⟩ := hN zs H7 n7
        refine ⟨m', hm, i + 1, zs, H7, I7.unpinned.weak hl6.symm hs6, T.keep _ _ _ st5 fun b hb o e => (I7.pin (b, o) (List.mem_append_right _ (List.mem_append_right _ (mem_pinsAt hb e)))).1, fun b hb => ?_, w7⟩
        obtain ⟨o, e, d⟩ := T.obj _ _ st5 b hb
        exact (I7.pin (b, o) (List.mem_append_right _ (List.mem_append_right _ (mem_pinsAt hb e)))).2.1
      refine thn (hi _ _ _ _ _ s6 σ6 H6 _ I6 q6) fun ok s7 hp0 => ?_
      obtain ⟨H7, I7, q7⟩ := hp0
      cases ok with
      | false =>
        rw [if_neg Bool.false_ne_true] at q7
        exact next I7 q7
      | true =>
        rw [if_pos rfl] at q7
        rw [if_pos rfl]
        refine thn (he _ _ _ _ _ s7 σ6 H7 _ I7 q7) fun y s8 hp0 => ?_
        obtain ⟨v8, H8, I8, r8, zs, hz, hzl, q8⟩ := hp0
        refine thn (mt_append _ s8 σ6 H8 (.ref s.heap.objs.size) [v8] _ [y] (fun _ H9 => Nx (zs ++ [v8]) H9) I8 rfl (.cons r8 .nil) ⟨_, zs, v8, rfl, rfl, hz, hzl, q8⟩) fun _ s9 hp0 => ?_
        obtain ⟨_, H9, I9, _, q9⟩ := hp0
        exact next I9 q9
  exact codeAny_compStart_list (loop _ rfl) (T.self X.A 0 _ _ _ st1 (loop _ rfl))
noncomputable def tLc (wi : TI) (n : Nat) (js : List Nat) (g : TG) (tc : TT) (te : TE) : TE := fun σ H Q => wi σ H fun J H1 => ∀ D, H1 D = none →
  ∃ W : Nat → Nat → List V → Hp → Prop, (∃ m, W 0 m [] (upd H1 D (.lst []))) ∧ tLcB J D (caps n js σ) g tc te (fun H2 => Q (.ref D) H2) W
theorem pe_lc {X : Cx} {N : List Str} {sc scope : Scope} {own fr : List Str} {js : List Nat} {tg iter elt : Expr} {ifs : List Expr} {pos : Pos} {wi : TI} {g : TG} {tc : TT} {te : TE}
    (L : LcOk X N sc scope own fr js) (hc : X.calm = true) (hI : PI X tg iter wi)
    (hg : ∀ C s H fp, PG (lcCx X N scope C s H fp) tg g) (hi : ∀ C s H fp, PIf (lcCx X N scope C s H fp) ifs tc) (he : ∀ C s H fp, PE (lcCx X N scope C s H fp) elt te)
    (hs : ∀ x, foldedSetIterable iter X.env x = pure x := by intro _; rfl) : PE X (.ListComp elt [⟨tg, iter, ifs, 0⟩] scope pos) (tLc wi own.length js g tc te) := by
  intro pins s σ H Q I h
  rw [eval_ListComp]
  refine wpAny_comprehension_free (use := none) rfl hs (closureFor_is (L.cellAt I.ok)) L.kind L.loc ?_
  refine thn (hI pins s σ H _ I h) fun v s1 h1 => thn h1 fun itv s2 h2 => ?_
  obtain ⟨it, fp, tn, J, H2, e, I2, T, st, f2, q⟩ := h2
  subst e
  refine lc_block (RR := fun acc C => compPost (model X.prog X.w) X.A X.xe none (EP X pins σ Q) acc C) (fin := fun D H' => Q (.ref D) H') L hc I2 T st f2 hg hi he q ?_
  intro D C s' H' hm IX fC q'
  obtain ⟨m, hm⟩ := hm
  obtain ⟨f0, f1, _, f3, f4, f5⟩ := fC
  exact ⟨m, hm, fun h' sb => ⟨.ref D, H', IX.turned (t' := s'.toks) (fun b o hb e => (sb.2 b hb).trans e) f0 f1 f3 f4 f5, rfl, q'⟩⟩
noncomputable def tLcS (i : Nat) (wi : TI) (n : Nat) (js : List Nat) (g : TG) (tc : TT) (te : TE) : TS := fun E σ H => wi σ H fun J H1 => ∀ D, H1 D = none →
  ∃ W : Nat → Nat → List V → Hp → Prop, (∃ m, W 0 m [] (upd H1 D (.lst []))) ∧ tLcB J D (caps n js σ) g tc te (fun H2 => E.nx (σ.set i (some (.ref D))) H2) W
theorem ps_lc {X : Cx} {N : List Str} {sc scope : Scope} {own fr : List Str} {js : List Nat} {tg iter elt : Expr} {ifs : List Expr} {pos spos py : Pos} {wi : TI} {g : TG} {tc : TT} {te : TE} {i : Nat} {y : Str}
    (hN : X.N.Nodup) (hy : X.N[i]? = some y) (hl : X.env.scope.names.lookup y = some .local)
    (L : LcOk X N sc scope own fr js) (hc : X.calm = true) (hI : PI X tg iter wi)
    (hg : ∀ C s H fp, PG (lcCx X N scope C s H fp) tg g) (hi : ∀ C s H fp, PIf (lcCx X N scope C s H fp) ifs tc) (he : ∀ C s H fp, PE (lcCx X N scope C s H fp) elt te)
    (hw : swapsWith (.ListComp elt [⟨tg, iter, ifs, 0⟩] scope pos) (some (.Name y py)) spos.line X.env = pure true := by rfl)
    (hs : ∀ x, foldedSetIterable iter X.env x = pure x := by intro _; rfl) : PS X (.Assign [.Name y py] (.ListComp elt [⟨tg, iter, ifs, 0⟩] scope pos) spos) (tLcS i wi own.length js g tc te) := by
  intro pins s σ H E I h
  rw [exec_Assign_Name_used _ _ _ _ hw]
  (refine wpAny_bind (wpAny_standAt (wpAny_bind ?_)))
  show wpAny _ X.A (do let _ ← comprehension (.ListComp elt [⟨tg, iter, ifs, 0⟩] scope pos) scope X.env _ (newList []) false (eval iter X.env) (some (assign (.Name y py) X.env))) _ _ s
  refine wpAny_bind (wpAny_mono (wpAny_comprehension_free (use := some (assign (.Name y py) X.env)) (Q := fun _ s' => SP X pins E .next s') rfl hs (closureFor_is (L.cellAt I.ok)) L.kind L.loc ?_) (fun _ s' q => wpAny_pure (wpAny_pure q)) fun _ _ e => e)
  refine thn (hI pins s σ H _ I h) fun v s1 h1 => thn h1 fun itv s2 h2 => ?_
  obtain ⟨it, fp, tn, J, H2, e, I2, T, st, f2, q⟩ := h2
  subst e
  refine lc_block (RR := fun acc C => compPost (model X.prog X.w) X.A X.xe (some (assign (.Name y py) X.env)) (fun _ s' => SP X pins E .next s') acc C) (fin := fun D H' => E.nx (σ.set i (some (.ref D))) H') L hc I2 T st f2 hg hi he q ?_
  intro D C s' H' hm IX fC q'
  obtain ⟨m, hm⟩ := hm
  obtain ⟨f0, f1, _, f3, f4, f5⟩ := fC
  show wpAny _ X.A (assign (.Name y py) X.env (.ref D)) _ _ s'
  refine wpAny_assign_Name (store_ok2 IX hN hy (.inl hl) (v := .ref D) rfl (fun s3 I3 ha => ?_) (.inr hl))
  obtain ⟨a, sb, ha⟩ := ha
  have hCa : C ≠ a := by
    rcases ha with z | z
    · rw [z]; exact f1
    · exact fun q => f4 y a z q.symm
  refine ⟨m, hm.sameBut sb hCa, fun h' sb' => ⟨_, H', I3.turned (t' := s3.toks) (fun b o hb e => (sb'.2 b hb).trans e) f0 f1 f3 f4 f5, q'⟩⟩
end L2
namespace L2
open PySem PySem.Spec PyProof.Rows
section
variable {X : Cx}
noncomputable def rInsert : V → List V → Hp → VK → Prop := fun x vs H Q => ∃ l xs i y, x = .ref l ∧ vs = [.int i, y] ∧ 0 ≤ i ∧ i ≤ (xs.length : Int) ∧ H l = some (.lst xs) ∧ xs.length < sizeLine ∧ Q .non (upd H l (.lst (xs.take i.toNat ++ y :: xs.drop i.toNat)))
theorem insert_fn (its : List Value) (i : Int) (u : Value) (h0 : 0 ≤ i) (h1 : i ≤ (its.length : Int)) :
    (fun xs : Array Value => have k := if i < 0 then (i + ((xs.size : Nat) : Int)).toNat else min i.toNat xs.size; (xs.extract 0 k).push u ++ xs.extract k) its.toArray = (its.take i.toNat ++ u :: its.drop i.toNat).toArray := by
  have e : (if i < 0 then (i + ((its.toArray.size : Nat) : Int)).toNat else min i.toNat its.toArray.size) = i.toNat := by
    rw [if_neg (by lia), List.size_toArray]
    lia
  show (its.toArray.extract 0 (if i < 0 then (i + ((its.toArray.size : Nat) : Int)).toNat else min i.toNat its.toArray.size)).push u ++ its.toArray.extract (if i < 0 then (i + ((its.toArray.size : Nat) : Int)).toNat else min i.toNat its.toArray.size) = _
  rw [e]
  apply Array.toList_inj.mp
  simp
  (exact List.take_of_length_le (by simp))
theorem mt_insert : MtM X "list.insert" rInsert := by
  intro pins s σ H x vs v us Q I rx rv h
  obtain ⟨l, xs, i, y, rfl, rfl, h0, h1, hH, hz, q⟩ := h
  cases rx
  obtain ⟨u1, u, rfl, ⟨t, rfl⟩, ru⟩ := vals2 rv
  obtain ⟨z, its, n, r, hl, e⟩ := I.lstM hH
  have h63 := line63
  refine call_meets F.slot_list_insert ⟨_, e, rfl⟩ F.entry_list_insert (F.args_list_insert_3 _ _ _) (PySem.AutoListH.list_insert_list_int_val_1 l its.toArray n i t u (by rw [fitsIndex_both (by lia) (by lia)]; decide) (by rw [List.size_toArray]; lia)) ⟨e, ?_⟩
  refine ⟨.non, _, I.lset (its' := its.take i.toNat ++ u :: its.drop i.toNat) hH e (insert_fn its i u h0 (by lia)) ((r.take i.toNat).append (.cons ru (r.drop i.toNat))) ?_, rfl, q⟩
  (rw [List.length_append, List.length_cons, List.length_take, List.length_drop])
  lia
theorem op_mulS : OpR X (binaryOp .Mult) (fun x y H Q => ∃ z i, x = .str z ∧ y = .int i ∧ 1 ≤ i ∧ i ≤ 1000 ∧ z.length ≤ 1000 ∧ Q (.str (Txt.mul z i)) H) := by
  intro pins s σ H x y v u Q I rx ry h
  obtain ⟨z, i, rfl, rfl, h1, h2, h3, q⟩ := h
  obtain ⟨t, rfl⟩ := rx
  obtain ⟨t', rfl⟩ := ry
  have hs : sizeLine = 16777216 := sizeLine_eq
  have hp : z.length * i.toNat ≤ 1000 * 1000 := Nat.mul_le_mul h3 (by lia)
  refine SB.mul ⟨?_, fun _ _ => ?_, fun _ _ => ?_⟩ fun t' k => ⟨.str (Txt.mul z i), H, I.tok _, ⟨_, rfl⟩, q⟩
  · have e1 : decide (i < -(2 ^ 63 : Int)) = false := decide_eq_false (by lia)
    have e2 : decide (i ≥ 2 ^ 63) = false := decide_eq_false (by lia)
    rw [e1, e2, Bool.or_false]
  · have e3 : (z.length : Int) * i = ((z.length * i.toNat : Nat) : Int) := by rw [Int.natCast_mul, Int.toNat_of_nonneg (by lia)]
    have e4 : (z.length : Int) ≤ (2 ^ 63 - 1) / i := Int.le_ediv_of_mul_le (by lia) (by rw [e3]; lia)
    lia
  · show decide (z.length * i.toNat > sizeLine) = false
    exact decide_eq_false (by lia)
theorem mt_starts : MtR X "str.startswith" (fun x xs H Q => ∃ a b, x = .str a ∧ xs = [.str b] ∧ Q (.bl (Txt.startswith a b)) H) := by
  intro pins s σ H x xs v us Q I rx rv h
  obtain ⟨a, b, rfl, rfl, q⟩ := h
  obtain ⟨t, rfl⟩ := rx
  obtain ⟨u, rfl, t', rfl⟩ := vals1 rv
  exact SC.startswith ⟨.bl _, H, I, rfl, q⟩
theorem vals_strsFrom : ∀ (tk : Nat) (xs : List Str), Vals (xs.map V.str) (strsFrom tk xs)
  | _, [] => .nil
  | tk, _ :: r => .cons ⟨tk, rfl⟩ (vals_strsFrom (tk + 1) r)
theorem mt_split : MtR X "str.split" (fun x xs H Q => ∃ a b, x = .str a ∧ xs = [.str b] ∧ (b.length == 0) = false ∧ a.length + 2 ≤ sizeLine ∧ ∀ p, H p = none → Q (.ref p) (upd H p (.lst ((Txt.split a b).map V.str)))) := by
  intro pins s σ H x xs v us Q I rx rv h
  obtain ⟨a, b, rfl, rfl, hb, hz, q⟩ := h
  obtain ⟨t, rfl⟩ := rx
  obtain ⟨u, rfl, t', rfl⟩ := vals1 rv
  have one : ∀ {ys : List Str}, ys = [a] → Txt.split a b = ys → EP X pins σ Q (.ref s.heap.objs.size) { s with heap := s.heap.push { cls := .type "list", data := .seq [Value.str a t].toArray } } := fun {ys} e1 e2 => by
    have q' := q _ (I.hok.fresh (Nat.le_refl _))
    rw [e2, e1] at q'
    exact ⟨.ref _, _, I.lnew (ys := [V.str a]) (t' := s.toks) (.cons ⟨t, rfl⟩ .nil) (by show 1 ≤ sizeLine; decide), rfl, q'⟩
  have hn := split_le a b
  cases h1 : (decide (a.length < b.length) || decide (Builtin.Str.strKind a < Builtin.Str.strKind b)) with
  | true =>
    refine call_meets F.slot_str_split (typeIs_str _ _ _) F.entry_str_split (F.args_str_split_2 _ _) (meets_str_split_cannot_occur a b t t' h1) ?_
    exact one rfl (if_pos h1)
  | false =>
    cases hf : (Builtin.Str.occurrences a b 0 a.length (a.length + 1)).isEmpty with
    | true =>
      refine call_meets F.slot_str_split (typeIs_str _ _ _) F.entry_str_split (F.args_str_split_2 _ _) (meets_str_split_not_found a b t t' h1 hb hf) ?_
      exact one rfl ((if_neg (by rw [h1]; decide)).trans (if_pos hf))
    | false =>
      have e : Txt.split a b = Builtin.Str.partsBetween a (Builtin.Str.occurrences a b 0 a.length (a.length + 1)) b.length := (if_neg (by rw [h1]; decide)).trans (if_neg (by rw [hf]; decide))
      refine call_meets F.slot_str_split (typeIs_str _ _ _) F.entry_str_split (F.args_str_split_2 _ _) (meets_str_split_sep a b t t' h1 hb hf (by lia) (by rw [← e]; lia)) ?_
      have q' := q _ (I.hok.fresh (Nat.le_refl _))
      refine ⟨.ref _, _, I.lnew (vals_strsFrom s.toks _) ?_, rfl, ?_⟩
      · rw [List.length_map, ← e]
        lia
      · rw [← e]
        exact q'
end
mutual
inductive RdV (H : Hp) : V → PyData → Prop
  | non : RdV H .non .none
  | int (i : Int) : RdV H (.int i) (.int i)
  | str (x : Str) : RdV H (.str x) (.str x)
  | tup {a : Addr} {xs : List V} {ds : List PyData} : H a = some (.tup xs) → RdVs H xs ds → RdV H (.ref a) (.tuple ds)
inductive RdVs (H : Hp) : List V → List PyData → Prop
  | nil : RdVs H [] []
  | cons {x : V} {d : PyData} {xs : List V} {ds : List PyData} : RdV H x d → RdVs H xs ds → RdVs H (x :: xs) (d :: ds)
end
mutual
theorem RdV.reads {P : Program} {w : World} {H : Hp} {h : Heap} (ok : HOk P w H h) : ∀ {x : V} {d : PyData} {u : Value}, RdV H x d → RelV x u → ∃ as, Reads h u d as
  | _, _, _, .non, r => by cases r; exact ⟨_, .none⟩
  | _, _, _, .int i, r => by obtain ⟨t, rfl⟩ := r; exact ⟨_, .int i t⟩
  | _, _, _, .str x, r => by obtain ⟨t, rfl⟩ := r; exact ⟨_, .str x t⟩
  | _, _, _, .tup (a := a) e rs, r => by
    cases r
    obtain ⟨z, its, rv, o, ho, hc, n, hd⟩ := ok a _ e
    obtain ⟨as, ra⟩ := RdVs.reads ok rs rv
    exact ⟨as, .tuple ho hc hd (by simpa using ra)⟩
theorem RdVs.reads {P : Program} {w : World} {H : Hp} {h : Heap} (ok : HOk P w H h) : ∀ {xs : List V} {ds : List PyData} {us : List Value}, RdVs H xs ds → Vals xs us → ∃ as, ReadsAll h us ds as
  | _, _, _, .nil, r => by cases r; exact ⟨_, .nil⟩
  | _, _, _, .cons a b, r => by
    cases r with
    | cons r1 r2 =>
      obtain ⟨as, h1⟩ := RdV.reads ok a r1
      obtain ⟨bs, h2⟩ := RdVs.reads ok b r2
      exact ⟨_, .cons h1 h2⟩
end
mutual
theorem RdV.same {H H' : Hp} (k : ∀ b xs, H b = some (.tup xs) → H' b = some (.tup xs)) : ∀ {x : V} {d : PyData}, RdV H x d → RdV H' x d
  | _, _, .non => .non
  | _, _, .int i => .int i
  | _, _, .str x => .str x
  | _, _, .tup e rs => .tup (k _ _ e) (RdVs.same k rs)
theorem RdVs.same {H H' : Hp} (k : ∀ b xs, H b = some (.tup xs) → H' b = some (.tup xs)) : ∀ {xs : List V} {ds : List PyData}, RdVs H xs ds → RdVs H' xs ds
  | _, _, .nil => .nil
  | _, _, .cons a b => .cons (RdV.same k a) (RdVs.same k b)
end
theorem RdVs.get {H : Hp} : ∀ {xs : List V} {ds : List PyData} {i : Nat} {x : V}, RdVs H xs ds → xs[i]? = some x → ∃ d, ds[i]? = some d ∧ RdV H x d
  | _, _, _, _, .nil, e => by simp at e
  | _, _, 0, _, .cons a _, e => by simp at e; subst e; exact ⟨_, rfl, a⟩
  | _, _, i + 1, _, .cons _ b, e => by
    obtain ⟨d, h1, h2⟩ := RdVs.get (i := i) b (by simpa using e)
    exact ⟨d, by simpa using h1, h2⟩
theorem RdVs.length {H : Hp} : ∀ {xs : List V} {ds : List PyData}, RdVs H xs ds → xs.length = ds.length
  | _, _, .nil => rfl
  | _, _, .cons _ b => by simp [RdVs.length b]
theorem RdVs.append {H : Hp} : ∀ {xs ys : List V} {ds es : List PyData}, RdVs H xs ds → RdVs H ys es → RdVs H (xs ++ ys) (ds ++ es)
  | _, _, _, _, .nil, r => r
  | _, _, _, _, .cons a b, r => .cons a (RdVs.append b r)
theorem RdVs.strs {H : Hp} : ∀ (xs : List Str), RdVs H (xs.map V.str) (xs.map PyData.str)
  | [] => .nil
  | x :: r => .cons (.str x) (RdVs.strs r)
section
variable {X : Cx}
noncomputable def rEqD (neg : Bool) : R2 := fun x y H Q => ∃ d e, RdV H x d ∧ RdV H y e ∧ PySem.SeqAt.shaped d = true ∧ PySem.SeqAt.shaped e = true ∧ Q (.bl (neg ^^ PyData.eqv d e)) H
theorem op_eqD (hu : X.A.units + 64 < cLine) : OpR X (compareOp .Eq) (rEqD false) := by
  intro pins s σ H x y v u Q I rx ry h
  obtain ⟨d, e, r1, r2, h1, h2, q⟩ := h
  obtain ⟨as, a⟩ := r1.reads I.hok rx
  obtain ⟨bs, b⟩ := r2.reads I.hok ry
  rw [Bool.false_xor] at q
  exact PySem.SeqAt.compareEq_shaped a b h1 h2 hu ⟨.bl _, H, I, rfl, q⟩
end
end L2
namespace ZT
open PySem PyProof.Rows
section
variable {prog : Program} {w : World} {A : Around} {E : Value → Shared → Prop} {s : Shared}
theorem next_item {p t : Addr} {k : Nat} {items : Array Value} {v : Value} {Q : Value → Shared → Prop} (hp : s.heap.IsTupleIter p t k) (ht : s.heap.IsTuple t items) (hv : items[k]? = some v)
    (q : ∀ h', h'.IsTupleIter p t (k + 1) → Heap.SameBut p s.heap h' → Q v { s with heap := h' }) : wpAny (model prog w) A (Builtin.SmallTypes.nextOf (.ref p)) Q E s := by
  obtain ⟨o, ho, c1, c2⟩ := id hp
  obtain ⟨ot, hot, _, nt, dt⟩ := ht
  (unfold Builtin.SmallTypes.nextOf)
  refine wpAny_bind (wpAny_callSpecial?_slot (name := Str.ofString "__next__") hp.typeIs F.slot_tuple_iterator_next (wpAny_call_entry F.slot_tuple_iterator_next hp.typeIs F.entry_tuple_iterator_next ?_ (F.args_tuple_iterator_next_1 _)))
  show wpAny _ _ (field (.ref p) 0 >>= _) _ _ s
  refine wpAny_bind (wpAny_field ho c2 (x := .ref t) rfl ?_)
  (show wpAny _ _ (if (Value.ref t == Value.none) = true then _ else _) _ _ s)
  rw [if_neg (by exact Bool.false_ne_true)]
  show wpAny _ _ (field (.ref p) 1 >>= _) _ _ s
  refine wpAny_bind (wpAny_field ho c2 (x := .int k 0) rfl ?_)
  (show wpAny _ _ (seqItems? (.ref t) >>= _) _ _ s)
  refine wpAny_bind (wpAny_seqItems hot dt ?_)
  simp only [Int.toNat_natCast, hv]
  refine wpAny_bind (wpAny_setField ho c2 (by simp) (wpAny_pure ⟨v, rfl, wpAny_pure (q _ ?_ (Heap.SameBut.update ..))⟩))
  refine ⟨_, Heap.get?_update_self _ ho (Obj.isFreed_of_fields (Obj.data_mapFields c2 _)), (Obj.cls_mapFields ..).trans c1, ?_⟩
  rw [Obj.data_mapFields c2]
  simp [rawInt]
theorem next_end {p t : Addr} {k : Nat} {items : Array Value} {Q : Value → Shared → Prop} (hh : A.handled = none) (hp : s.heap.IsTupleIter p t k) (ht : s.heap.IsTuple t items) (hv : items[k]? = none)
    (q : ∀ h' e, Heap.ExtBut p s.heap h' → (∃ o, h'.get? e = some o ∧ o.cls = .type "StopIteration") → E (.ref e) { s with heap := h' }) : wpAny (model prog w) A (Builtin.SmallTypes.nextOf (.ref p)) Q E s := by
  obtain ⟨o, ho, c1, c2⟩ := id hp
  obtain ⟨ot, hot, _, nt, dt⟩ := ht
  (unfold Builtin.SmallTypes.nextOf)
  refine wpAny_bind (wpAny_callSpecial?_slot (name := Str.ofString "__next__") hp.typeIs F.slot_tuple_iterator_next (wpAny_call_entry F.slot_tuple_iterator_next hp.typeIs F.entry_tuple_iterator_next ?_ (F.args_tuple_iterator_next_1 _)))
  show wpAny _ _ (field (.ref p) 0 >>= _) _ _ s
  refine wpAny_bind (wpAny_field ho c2 (x := .ref t) rfl ?_)
  (show wpAny _ _ (if (Value.ref t == Value.none) = true then _ else _) _ _ s)
  rw [if_neg (by exact Bool.false_ne_true)]
  show wpAny _ _ (field (.ref p) 1 >>= _) _ _ s
  refine wpAny_bind (wpAny_field ho c2 (x := .int k 0) rfl ?_)
  (show wpAny _ _ (seqItems? (.ref t) >>= _) _ _ s)
  refine wpAny_bind (wpAny_seqItems hot dt ?_)
  simp only [Int.toNat_natCast, hv]
  refine wpAny_bind (wpAny_rule (wpAny_bind (wpAny_setField ho c2 (by simp) ?_)))
  (show wpAny _ _ (newExc (.type "StopIteration") [] >>= _) _ _ _)
  refine wpAny_bind ?_
  simp only [newExc, newTuple]
  (refine wpAny_bind (wpAny_newObj_type ?_ (by size_fits)))
  (refine wpAny_bind (m := firstArgMember _ _) (wpAny_of_eq (a := Value.none) (by first | rfl | (simp only [firstArgMember]; rfl)) ?_))
  (refine wpAny_newObj_type ?_ (by size_fits))
  simp only [raiseNew]
  (refine wpAny_bind (wpAny_handled ?_))
  (first | rw [show A.in1.handled = none from hh] | rw [hh])
  (refine wpAny_bind (wpAny_pure (wpAny_throw ?_)))
  exact q _ _ (((Heap.SameBut.update ..).extBut.push _).push _) ⟨_, Heap.get?_push_size _ rfl, rfl⟩
structure Apart (z p q i j : Addr) : Prop where
  pz : p ≠ z
  qz : q ≠ z
  iz : i ≠ z
  jz : j ≠ z
  pq : p ≠ q
  pi : p ≠ i
  pj : p ≠ j
  qi : q ≠ i
  qj : q ≠ j
  ij : i ≠ j
theorem step_item {z p q i j a b : Addr} {k : Nat} {xs ys : Array Value} {x y x0 y0 : Value} {Q : Value → Shared → Prop} (D : Apart z p q i j)
    (hz : IsZip s.heap z p q .none) (hp : IsPair s.heap p (.ref i) (.ref j)) (hq : IsPair s.heap q x0 y0) (hi : s.heap.IsTupleIter i a k) (hj : s.heap.IsTupleIter j b k)
    (ha : s.heap.IsTuple a xs) (hb : s.heap.IsTuple b ys) (na : a ≠ z ∧ a ≠ q ∧ a ≠ i ∧ a ≠ j) (nb : b ≠ z ∧ b ≠ q ∧ b ≠ i ∧ b ≠ j) (hx : xs[k]? = some x) (hy : ys[k]? = some y)
    (fin : ∀ h', IsZip h' z p q (rawInt s.heap.objs.size) → IsPair h' q x y → h'.IsTupleIter i a (k + 1) → h'.IsTupleIter j b (k + 1) → IsPair h' s.heap.objs.size x y →
      (∀ c o, c ≠ z → c ≠ q → c ≠ i → c ≠ j → s.heap.get? c = some o → h'.get? c = some o) → Q (.ref s.heap.objs.size) { s with heap := h' }) :
    wpAny (model prog w) A (Builtin.«zip.__next__» ⟨[.ref z], []⟩) (fun f s' => ∃ v, f = .done (.ret v) ∧ Q v s') E s := by
  (show wpAny _ _ (field (.ref z) 2 >>= _) _ _ _)
  (refine wpAny_bind (wpAny_field hz rfl (x := .bool false) rfl ?_))
  (show wpAny _ _ (field (.ref z) 3 >>= _) _ _ _)
  refine wpAny_bind (wpAny_field hz rfl (x := .ref p) rfl (wpAny_bind (wpAny_seqItems hp rfl ?_)))
  (show wpAny _ _ (Builtin.SmallTypes.ownedTupleIsFree (.ref z) >>= _) _ _ _)
  refine wpAny_bind ?_
  (unfold Builtin.SmallTypes.ownedTupleIsFree)
  (refine wpAny_bind (wpAny_field hz rfl (x := .none) rfl (wpAny_pure ?_)))
  simp only [if_true]
  refine wpAny_bind (wpAny_rule (wpAny_bind (wpAny_field hz rfl (x := .ref q) rfl (wpAny_bind (wpAny_setField_rec hz (by simp) fun h1 z1 b1 => ?_)))))
  replace z1 : IsZip h1 z p q .ellipsis := z1
  refine wpAny_bind ?_
  (simp only [List.zipIdx_cons, List.zipIdx_nil, List.forIn_cons, List.forIn_nil])
  (refine wpAny_bind (wpAny_bind (wpAny_onRaise ?_)))
  show wpAny _ _ (Builtin.SmallTypes.nextOf (.ref i) >>= _) _ _ _
  refine wpAny_bind (next_item (hi.extBut b1.extBut D.iz) (ha.extBut b1.extBut na.1) hx fun h2 i2 b2 => wpAny_pure ?_)
  have q2 : IsPair h2 q x0 y0 := b2.extBut _ _ D.qi (b1.extBut _ _ D.qz hq)
  refine wpAny_bind (wpAny_seqItems q2 rfl (wpAny_bind (wpAny_updateSeq_pair q2 fun h3 q3 b3 => ?_)))
  replace q3 : IsPair h3 q x y0 := q3
  refine wpAny_bind (wpAny_letGo (wpAny_pure (wpAny_bind (wpAny_bind (wpAny_onRaise ?_)))))
  show wpAny _ _ (Builtin.SmallTypes.nextOf (.ref j) >>= _) _ _ _
  have j3 : h3.IsTupleIter j b k := ((hj.extBut b1.extBut D.jz).extBut b2.extBut D.ij.symm).extBut b3.extBut D.qj.symm
  have y3 : h3.IsTuple b ys := ((hb.extBut b1.extBut nb.1).extBut b2.extBut nb.2.2.1).extBut b3.extBut nb.2.1
  refine wpAny_bind (next_item j3 y3 hy fun h4 j4 b4 => wpAny_pure ?_)
  have q4 : IsPair h4 q x y0 := b4.extBut _ _ D.qj q3
  refine wpAny_bind (wpAny_seqItems q4 rfl (wpAny_bind (wpAny_updateSeq_pair q4 fun h5 q5 b5 => ?_)))
  replace q5 : IsPair h5 q x y := q5
  (refine wpAny_bind (wpAny_letGo (wpAny_pure (wpAny_pure ?_))))
  refine wpAny_bind (wpAny_seqItems q5 rfl (wpAny_bind (wpAny_newTuple ?_)))
  have sz : h5.objs.size = s.heap.objs.size := by rw [b5.1, b4.1, b3.1, b2.1, b1.1]
  have z5 : IsZip h5 z p q .ellipsis := b5.extBut _ _ D.qz.symm (b4.extBut _ _ D.jz.symm (b3.extBut _ _ D.qz.symm (b2.extBut _ _ D.iz.symm z1)))
  have k5 : ∀ c o, c ≠ z → c ≠ q → c ≠ i → c ≠ j → s.heap.get? c = some o → h5.get? c = some o := fun c o c1 c2 c3 c4 e => b5.extBut _ _ c2 (b4.extBut _ _ c4 (b3.extBut _ _ c2 (b2.extBut _ _ c3 (b1.extBut _ _ c1 e))))
  have i5 : h5.IsTupleIter i a (k + 1) := ((i2.extBut b3.extBut D.qi.symm).extBut b4.extBut D.ij).extBut b5.extBut D.qi.symm
  have j5 : h5.IsTupleIter j b (k + 1) := j4.extBut b5.extBut D.qj.symm
  have lz : z < h5.objs.size := Heap.lt_size z5
  show wpAny _ _ (Builtin.SmallTypes.ownedTupleHandOut (.ref z) (.ref h5.objs.size) >>= _) _ _ _
  refine wpAny_bind ?_
  (unfold Builtin.SmallTypes.ownedTupleHandOut)
  have z6 : IsZip (h5.push { cls := .type "tuple", data := .seq #[x, y] }) z p q .ellipsis := Heap.get?_push_of_some _ z5
  refine wpAny_bind (wpAny_setField_rec z6 (by simp) fun h7 z7 b7 => ?_)
  replace z7 : IsZip h7 z p q (rawInt h5.objs.size) := z7
  refine wpAny_setField_rec z7 (by simp) fun h8 z8 b8 => ?_
  replace z8 : IsZip h8 z p q (rawInt h5.objs.size) := z8
  have up : ∀ c o, c ≠ z → h5.get? c = some o → h8.get? c = some o := fun c o c1 e => b8.extBut _ _ c1 (b7.extBut _ _ c1 (Heap.get?_push_of_some _ e))
  have t8 : IsPair h8 h5.objs.size x y := b8.extBut _ _ (Nat.ne_of_gt lz) (b7.extBut _ _ (Nat.ne_of_gt lz) (Heap.get?_push_size _ rfl))
  rw [sz] at z8 t8
  (refine wpAny_pure ⟨_, rfl, ?_⟩)
  show Q (.ref h5.objs.size) _
  rw [sz]
  obtain ⟨oi, ei, ri⟩ := i5
  obtain ⟨oj, ej, rj⟩ := j5
  exact fin h8 z8 (up _ _ D.qz q5) ⟨oi, up _ _ D.iz ei, ri⟩ ⟨oj, up _ _ D.jz ej, rj⟩ t8 fun c o c1 c2 c3 c4 e => up c o c1 (k5 c o c1 c2 c3 c4 e)
theorem step_end {z p q i j a b : Addr} {k : Nat} {xs ys : Array Value} {x0 y0 : Value} {Q : Fin → Shared → Prop} (hh : A.handled = none) (D : Apart z p q i j)
    (hz : IsZip s.heap z p q .none) (hp : IsPair s.heap p (.ref i) (.ref j)) (hq : IsPair s.heap q x0 y0) (hi : s.heap.IsTupleIter i a k) (hj : s.heap.IsTupleIter j b k)
    (ha : s.heap.IsTuple a xs) (hb : s.heap.IsTuple b ys) (na : a ≠ z ∧ a ≠ q ∧ a ≠ i ∧ a ≠ j) (nb : b ≠ z ∧ b ≠ q ∧ b ≠ i ∧ b ≠ j) (hx : xs[k]? = none)
    (fin : ∀ h' e, (∀ c o, c ≠ z → c ≠ q → c ≠ i → c ≠ j → s.heap.get? c = some o → h'.get? c = some o) → (∃ o, h'.get? e = some o ∧ o.cls = .type "StopIteration") → E (.ref e) { s with heap := h' }) :
    (wpAny (model prog w) A (Builtin.«zip.__next__» ⟨[.ref z], []⟩) Q E s) := by
  (show wpAny _ _ (field (.ref z) 2 >>= _) _ _ _)
  (refine wpAny_bind (wpAny_field hz rfl (x := .bool false) rfl ?_))
  (show wpAny _ _ (field (.ref z) 3 >>= _) _ _ _)
  refine wpAny_bind (wpAny_field hz rfl (x := .ref p) rfl (wpAny_bind (wpAny_seqItems hp rfl ?_)))
  (show wpAny _ _ (Builtin.SmallTypes.ownedTupleIsFree (.ref z) >>= _) _ _ _)
  refine wpAny_bind ?_
  (unfold Builtin.SmallTypes.ownedTupleIsFree)
  (refine wpAny_bind (wpAny_field hz rfl (x := .none) rfl (wpAny_pure ?_)))
  simp only [if_true]
  refine wpAny_bind (wpAny_rule (wpAny_bind (wpAny_field hz rfl (x := .ref q) rfl (wpAny_bind (wpAny_setField_rec hz (by simp) fun h1 z1 b1 => ?_)))))
  replace z1 : IsZip h1 z p q .ellipsis := z1
  refine wpAny_bind ?_
  (simp only [List.zipIdx_cons, List.zipIdx_nil, List.forIn_cons, List.forIn_nil])
  (refine wpAny_bind (wpAny_bind (wpAny_onRaise ?_)))
  show wpAny _ _ (Builtin.SmallTypes.nextOf (.ref i) >>= _) _ _ _
  refine wpAny_bind (next_end hh (hi.extBut b1.extBut D.iz) (ha.extBut b1.extBut na.1) hx fun h2 e b2 he => ?_)
  obtain ⟨oe, hoe, hce⟩ := he
  have z2 : IsZip h2 z p q .ellipsis := b2 _ _ D.iz.symm z1
  have ez : e ≠ z := fun w => by subst w; rw [z2] at hoe; cases hoe; simp at hce
  exact wpAny_setField_rec z2 (by simp) fun h3 _ b3 => fin h3 e (fun c o c1 _ c3 _ w => b3.extBut _ _ c1 (b2 _ _ c3 (b1.extBut _ _ c1 w))) ⟨oe, b3.extBut _ _ ez hoe, hce⟩
theorem py_item {z p q i j a b : Addr} {k : Nat} {xs ys : Array Value} {x y x0 y0 : Value} {Q : Option Value → Shared → Prop} (D : Apart z p q i j)
    (hz : IsZip s.heap z p q .none) (hp : IsPair s.heap p (.ref i) (.ref j)) (hq : IsPair s.heap q x0 y0) (hi : s.heap.IsTupleIter i a k) (hj : s.heap.IsTupleIter j b k)
    (ha : s.heap.IsTuple a xs) (hb : s.heap.IsTuple b ys) (na : a ≠ z ∧ a ≠ q ∧ a ≠ i ∧ a ≠ j) (nb : b ≠ z ∧ b ≠ q ∧ b ≠ i ∧ b ≠ j) (hx : xs[k]? = some x) (hy : ys[k]? = some y)
    (fin : ∀ h', IsZip h' z p q (rawInt s.heap.objs.size) → IsPair h' q x y → h'.IsTupleIter i a (k + 1) → h'.IsTupleIter j b (k + 1) → IsPair h' s.heap.objs.size x y →
      (∀ c o, c ≠ z → c ≠ q → c ≠ i → c ≠ j → s.heap.get? c = some o → h'.get? c = some o) → Q (some (.ref s.heap.objs.size)) { s with heap := h' }) :
    (wpAny (model prog w) A (pyNext (.ref z)) Q E s) := by
  have ty : s.TypeIs (.ref z) "zip" := ⟨_, hz, rfl⟩
  unfold pyNext
  refine wpAny_bind (wpAny_attempt (wpAny_callSpecial?_slot (name := Str.ofString "__next__") ty F.slot_zip_next (wpAny_call_entry F.slot_zip_next ty F.entry_zip_next ?_ (F.args_zip_next_1 _))))
  exact step_item D hz hp hq hi hj ha hb na nb hx hy fun h' f1 f2 f3 f4 f5 f6 => wpAny_pure (fin h' f1 f2 f3 f4 f5 f6)
theorem py_end {z p q i j a b : Addr} {k : Nat} {xs ys : Array Value} {x0 y0 : Value} {Q : Option Value → Shared → Prop} (hh : A.handled = none) (D : Apart z p q i j)
    (hz : IsZip s.heap z p q .none) (hp : IsPair s.heap p (.ref i) (.ref j)) (hq : IsPair s.heap q x0 y0) (hi : s.heap.IsTupleIter i a k) (hj : s.heap.IsTupleIter j b k)
    (ha : s.heap.IsTuple a xs) (hb : s.heap.IsTuple b ys) (na : a ≠ z ∧ a ≠ q ∧ a ≠ i ∧ a ≠ j) (nb : b ≠ z ∧ b ≠ q ∧ b ≠ i ∧ b ≠ j) (hx : xs[k]? = none)
    (fin : ∀ h', (∀ c o, c ≠ z → c ≠ q → c ≠ i → c ≠ j → s.heap.get? c = some o → h'.get? c = some o) → Q none { s with heap := h' }) : wpAny (model prog w) A (pyNext (.ref z)) Q E s := by
  have ty : s.TypeIs (.ref z) "zip" := ⟨_, hz, rfl⟩
  unfold pyNext
  refine wpAny_bind (wpAny_attempt (wpAny_callSpecial?_slot (name := Str.ofString "__next__") ty F.slot_zip_next (wpAny_call_entry F.slot_zip_next ty F.entry_zip_next ?_ (F.args_zip_next_1 _))))
  refine step_end hh D hz hp hq hi hj ha hb na nb hx fun h' e f1 f2 => ?_
  obtain ⟨o, ho, hc⟩ := f2
  exact wpAny_bind (wpAny_isInstance (T := "StopIteration") (b := true) ⟨o, ho, hc⟩ isSubtype_stop (wpAny_pure (fin _ f1)))
end
noncomputable abbrev zI (t : Addr) : Obj := { cls := .type "tuple_iterator", data := .fields #[.ref t, .int 0 0] }
noncomputable abbrev zP (i j : Addr) : Obj := { cls := .type "tuple", data := .seq #[.ref i, .ref j] }
noncomputable abbrev zQ : Obj := { cls := .type "tuple", data := .seq #[.none, .none] }
noncomputable abbrev zZ (p q : Addr) : Obj := { cls := .type "zip", data := .fields #[.none, .bool false, .bool false, .ref p, .ref q] }
noncomputable abbrev zH (h : Heap) (a b : Addr) : Heap := ((((h.push (zI a)).push (zI b)).push (zP h.objs.size (h.push (zI a)).objs.size)).push zQ).push (zZ ((h.push (zI a)).push (zI b)).objs.size (((h.push (zI a)).push (zI b)).push (zP h.objs.size (h.push (zI a)).objs.size)).objs.size)
theorem make (a b : Addr) (xs ys : Array Value) :
    Meets (Builtin.«zip.__new__» ⟨[.type "zip", .ref a, .ref b], []⟩) (fun _ R s => s.heap.IsTuple a xs ∧ s.heap.IsTuple b ys ∧
      R (.ok (.ret (.ref ((((s.heap.push (zI a)).push (zI b)).push (zP s.heap.objs.size (s.heap.push (zI a)).objs.size)).push zQ).objs.size))) { s with heap := zH s.heap a b }) :=
  .of_wp fun prog w A R s h => by
    (obtain ⟨hp, g, d, tk, os⟩ := s)
    obtain ⟨ha, hb, h⟩ := h
    have sub := sub_zip
    have h1 : Heap.IsTuple (Shared.heap ⟨hp, g, d, tk, os⟩) a xs := ha
    have h2 : Heap.IsTuple (Shared.heap ⟨hp.push { cls := .type "tuple_iterator", data := .fields #[.ref a, .int 0 0] }, g, d, tk, os⟩) b ys := Heap.IsTuple.push hb _
    wp_walk using wpAny_pyIter_tuple h1, wpAny_pyIter_tuple h2
    exact ⟨_, rfl, h⟩
end ZT
namespace L2
open PySem PySem.Spec PyProof.Rows
section
variable {X : Cx} {pins : List (Addr × Obj)} {σ : St} {H : Hp} {s : Shared} {h' : Heap}
theorem FpOk.not {ch : List Addr} (hf : ∀ b ∈ ch, FpOk X pins H b) {b : Addr} {o : HO} (e : H b = some o) : b ∉ ch := fun z => by
  have := (hf b z).1
  rw [e] at this
  cases this
theorem Inv.fpT {t : Addr} {zs : List V} (I : Inv X pins σ H s) (ht : SqT X.K H t zs) (f : FpOk X pins H t) : False := by
  rcases ht with hr | ⟨o, _, _, hk, _⟩
  · rcases hr with hr | ⟨o, hr⟩
    · rw [f.1] at hr; cases hr
    · rw [f.1] at hr; cases hr
  · have e := I.mod.kin t o hk
    rcases f.2.2.2.1 with q | q
    · exact I.ok.noex t o e q
    · exact absurd (Nat.lt_of_lt_of_le (Heap.lt_size (I.ok.bs t o e).1) q) (Nat.lt_irrefl _)
theorem Inv.stepL {t' : Nat} {ch : List Addr} (I : Inv X pins σ H s) (hf : ∀ b ∈ ch, FpOk X pins H b) (k : ∀ b o, b ∉ ch → s.heap.get? b = some o → h'.get? b = some o) : Inv X pins σ H { s with heap := h', toks := t' } := by
  refine I.step (g' := s.gens) (d' := s.drawn) (ch := ch) (fun b hb => ⟨(hf b hb).2.2.2.1, (hf b hb).2.1, (hf b hb).2.2.2.2.1, (hf b hb).2.2.2.2.2⟩) (fun b o _ _ hc e _ => k b o hc e) (fun b o _ _ hc e _ => ⟨o.slots, k b o hc e⟩) (fun _ _ _ _ n => n)
    (fun b o hc e => ⟨o, k b o hc e⟩) (fun _ _ e => e) (fun _ _ _ e => e) (fun b ps e => ⟨#[], by rw [e]; simp⟩) (fun m hm => ?_) (fun b u e => ?_) I.bare
  · obtain ⟨o, es, ep, ho, r⟩ := hm
    exact ⟨o, es, ep, k _ o (fun z => (hf _ z).2.1 rfl) ho, r⟩
  · refine (I.hok b u e).stay (fun c v hc q => k c v ?_ q) (fun _ q => q) fun _ _ q => q
    rcases hc with z | z
    · rw [z]; exact FpOk.not hf e
    · exact FpOk.not hf z
theorem Inv.stepN {t' : Nat} {ch : List Addr} {ob : HO} (I : Inv X pins σ H s) (hf : ∀ b ∈ ch, FpOk X pins H b) (k : ∀ b o, b ∉ ch → s.heap.get? b = some o → h'.get? b = some o)
    (new : ObjOk X.prog X.w (upd H s.heap.objs.size ob) h' s.heap.objs.size ob) : Inv X pins σ (upd H s.heap.objs.size ob) { s with heap := h', toks := t' } := by
  have fr : H s.heap.objs.size = none := I.hok.fresh (Nat.le_refl _)
  have fz : FpOk X pins H s.heap.objs.size := I.fpOk (Nat.le_refl _) fr
  have hf' : ∀ b ∈ s.heap.objs.size :: ch, FpOk X pins H b := fun b hb => by
    rcases List.mem_cons.mp hb with e | e
    · rw [e]; exact fz
    · exact hf b e
  have k' : ∀ b o, b ∉ s.heap.objs.size :: ch → s.heap.get? b = some o → h'.get? b = some o := fun b o hb e => k b o (fun z => hb (List.mem_cons_of_mem _ z)) e
  have ne : ∀ b o, s.heap.get? b = some o → b ≠ s.heap.objs.size := fun b o e => Nat.ne_of_lt (Heap.lt_size e)
  refine I.step (g' := s.gens) (d' := s.drawn) (ch := s.heap.objs.size :: ch) (fun b hb => ⟨(hf' b hb).2.2.2.1, (hf' b hb).2.1, (hf' b hb).2.2.2.2.1, (hf' b hb).2.2.2.2.2⟩) (fun b o _ _ hc e _ => k' b o hc e) (fun b o _ _ hc e _ => ⟨o.slots, k' b o hc e⟩)
    (fun b o _ e n => by rw [upd_ne (ne b o e)]; exact n) (fun b o hc e => ⟨o, k' b o hc e⟩) (fun b xs e => by rw [upd_ne (ne_of_none e fr)]; exact e) (fun b o xs e => by rw [upd_ne (ne_of_none e fr)]; exact e)
    (fun b ps e => ⟨#[], by rw [upd_ne (ne_of_none e fr), e]; simp⟩) (fun m hm => ?_) (fun b u e => ?_) I.bare
  · obtain ⟨o, es, ep, ho, r⟩ := hm
    exact ⟨o, es, ep, k _ o (fun z => (hf _ z).2.1 rfl) ho, r⟩
  · by_cases hb : b = s.heap.objs.size
    · subst hb
      rw [upd_same] at e
      cases e
      exact new
    · rw [upd_ne hb] at e
      refine (I.hok b u e).stay (fun c v hc q => k c v ?_ q) (fun c q => by rw [upd_ne (ne_of_none q fr)]; exact q) fun c xs q => by rw [upd_ne (ne_of_none q fr)]; exact q
      rcases hc with z | z
      · rw [z]; exact FpOk.not hf e
      · exact FpOk.not hf z
end
end L2
namespace L2
open PySem PySem.Spec PyProof.Rows
theorem Same.new {H : Hp} {l : Addr} {o : HO} (h : H l = none) : Same H (upd H l o) := fun b u e => by
  rw [upd_ne (ne_of_none e h)]
  exact e
theorem Same.put {H H' : Hp} {l : Addr} {o : HO} (s : Same H H') (h : H l = none) : Same H (upd H' l o) := fun b u e => by
  rw [upd_ne (ne_of_none e h)]
  exact s b u e
theorem Same.rd {H H' : Hp} (s : Same H H') {v : V} {d : PyData} (h : RdV H v d) : RdV H' v d := h.same fun b xs e => s b _ e
theorem Same.rds {H H' : Hp} (s : Same H H') {vs : List V} {ds : List PyData} (h : RdVs H vs ds) : RdVs H' vs ds := h.same fun b xs e => s b _ e
structure Df (K : PySem.W.Frag) (mg : Str → Option Value) (x : Str) (st : Stmt) (ps : List Str) (f : Addr) (fd : FuncData) : Prop where
  F : Fun K x x st f fd
  m : mg x = some (.ref f)
  b : Binds K fd ps []
noncomputable def isStrC : Expr → Bool
  | .Constant (.str _) _ _ => true
  | _ => false
noncomputable def strC : Expr → V
  | .Constant (.str x) _ _ => .str x
  | _ => .non
theorem pa_strs {X : Cx} : ∀ {es : List Expr}, es.all isStrC = true → PA X es (fun _ H Q => Q (es.map strC) H)
  | [], _ => pa_nil
  | e :: es, h => by
    (rw [List.all_cons, Bool.and_eq_true] at h)
    have ih := pa_strs (X := X) h.2
    cases e with
    | Constant c j pos =>
      cases c with
      | str x => exact pa_cons pe_str ih
      | _ => exact absurd h.1 Bool.false_ne_true
    | _ => exact absurd h.1 Bool.false_ne_true
theorem lcJ {J : It} {n : Nat} {D : Addr} {ρ : St} {tc : TT} {te : TE} {fin : Hp → Prop} {H0 : Hp} (Pv : Nat → List V → Hp → Prop) (h0 : Pv 0 [] (upd H0 D (.lst [])))
    (go : ∀ i ys H, i < n → Pv i ys H → J.go i H) (stop : ∀ ys H, Pv n ys H → J.stop n H)
    (hs : ∀ i ys H x H1, i < n → Pv i ys H → J.yld i H x H1 → tc (some x :: ρ) H1 fun b H3 => if b = true then te (some x :: ρ) H3 fun y H4 => ∃ zs, H4 D = some (.lst zs) ∧ zs.length < sizeLine ∧ Pv (i + 1) (zs ++ [y]) (upd H4 D (.lst (zs ++ [y]))) else Pv (i + 1) ys H3)
    (hd : ∀ ys H, Pv n ys H → fin H) : ∃ W : Nat → Nat → List V → Hp → Prop, (∃ m, W 0 m [] (upd H0 D (.lst []))) ∧ tLcB J D (none :: ρ) (gName 0) tc te fin W := by
  refine ⟨fun i m ys H => m = n - i ∧ i ≤ n ∧ Pv i ys H, ⟨n, rfl, Nat.zero_le _, h0⟩, ?_⟩
  rintro i m ys H ⟨rfl, hi, p⟩
  by_cases hlt : i < n
  · refine .inr ⟨go i ys H hlt p, Pv (i + 1), fun ys' H' p' => ⟨n - (i + 1), by lia, rfl, hlt, p'⟩, fun x H1 y => ⟨⟨rfl, fun j v e => ?_⟩, hs i ys H x H1 hlt p y⟩⟩
    cases j with
    | zero => cases e
    | succ j => exact e
  · have e : i = n := by lia
    subst e
    exact .inl ⟨stop ys H p, hd ys H p⟩
theorem lc_yes {σ : St} {H : Hp} {A B : Hp → Prop} (h : A H) : tYes σ H fun b H3 => if b = true then A H3 else B H3 := by
  show if true = true then A H else B H
  rw [if_pos rfl]
  exact h
theorem sub_nones {ρ : St} {x y : V} : (some x :: some y :: ρ : St).length = (none :: none :: ρ : St).length ∧ ∀ (i : Nat) v, (none :: none :: ρ : St)[i]? = some (some v) → (some x :: some y :: ρ : St)[i]? = some (some v) :=
  ⟨rfl, fun j v e => by
    match j, e with
    | 0, e => cases e
    | 1, e => cases e
    | j + 2, e => exact e⟩
section
variable {X : Cx}
theorem ix_listK (K : PySem.W.Frag) (h : X.K = K) : IxR X (rIxL K) := by
  subst h
  exact ix_list
theorem ix_tupK (K : PySem.W.Frag) (h : X.K = K) : IxR X (rIxT K) := by
  subst h
  exact ix_tup
theorem call_tupK (K : PySem.W.Frag) (h : X.K = K) : CallR X (.type "tuple") (fun xs H Q => ∃ p ys, xs = [.ref p] ∧ ((SqL K H p ys ∧ ∀ l, H l = none → Q (.ref l) (upd H l (.tup ys))) ∨ (SqT K H p ys ∧ Q (.ref p) H))) := by
  subst h
  exact call_tuple_of
theorem bmK {e : Expr} {T : String} {r : V → List V → Hp → VK → Prop} {to : TE} {t : TA} (K : PySem.W.Frag) (h : X.K = K) (hp : PE X e (tBM X.K T r to t)) : PE X e (tBM K T r to t) := by
  subst h
  exact hp
theorem gtupK {e : Expr} {n : Nat} {t : TGs} (K : PySem.W.Frag) (h : X.K = K) (hp : PG X e (gTup X.K n t)) : PG X e (gTup K n t) := by
  subst h
  exact hp
end
theorem bt_zip : bootBuiltins "zip" = some (.type "zip") := by decide +kernel
theorem bt_tuple : bootBuiltins "tuple" = some (.type "tuple") := by decide +kernel
theorem bt_int : bootBuiltins "int" = some (.type "int") := by decide +kernel
theorem bt_bool : bootBuiltins "bool" = some (.type "bool") := by decide +kernel
theorem bt_isi : bootBuiltins "isinstance" = some (.builtin "isinstance") := by decide +kernel
end L2
namespace Tx
open PySem L2 PyProof.Rows
open PySem.PyData (strOk)
theorem len_app (x y : Str) : (x ++ y).length = x.length + y.length := by
  (show (x.cps ++ y.cps).size = x.cps.size + y.cps.size)
  rw [Array.size_append]
theorem ok_mem {x : Str} (h : strOk x = true) {c : Nat} (hc : c ∈ x.cps.toList) : c < 0x110000 := by
  unfold strOk at h
  rw [Array.all_eq_true'] at h
  exact of_decide_eq_true (h c (by simpa using hc))
theorem ok_of {x : Str} (h : ∀ c ∈ x.cps.toList, c < 0x110000) : strOk x = true := by
  unfold strOk
  rw [Array.all_eq_true']
  intro c hc
  exact decide_eq_true (h c (by simpa using hc))
noncomputable def abc : Str := "abcdefghijklmnopqrstuvwxyz"
theorem abc_len : abc.length ≤ sizeLine := by
  rw [sizeLine_eq]
  decide +kernel
theorem foldl_app (a : Array Nat) : ∀ (k : Nat) (acc : Array Nat), (List.foldl (fun x y => x ++ y) acc (List.replicate k a)).toList = acc.toList ++ (List.replicate k a.toList).flatten
  | 0, acc => by simp
  | k + 1, acc => by
    rw [List.replicate_succ, List.foldl_cons, foldl_app a k, List.replicate_succ, List.flatten_cons, Array.toList_append, List.append_assoc]
noncomputable def thingB : Str := "thing "
noncomputable def blank : Str := " "
theorem blank_eq : blank = ⟨#[32]⟩ := by decide +kernel
end Tx
namespace Rk
open PySem
noncomputable def cs (x : Str) : List Nat := x.cps.toList
theorem cs_app (x y : Str) : cs (x ++ y) = cs x ++ cs y := by
  show (x.cps ++ y.cps).toList = _
  rw [Array.toList_append]
  rfl
theorem cs_inj {x y : Str} (h : cs x = cs y) : x = y := by
  cases x with | mk a =>
  cases y with | mk b =>
  have : a = b := Array.toList_inj.mp h
  rw [this]
theorem cs_len (x : Str) : (cs x).length = x.length := by
  show x.cps.toList.length = x.cps.size
  exact Array.length_toList
theorem cs_one (c : Nat) : cs ⟨#[c]⟩ = [c] := rfl
noncomputable def J : List (List Nat) → List Nat
  | [] => []
  | [a] => a
  | a :: b :: r => a ++ 32 :: J (b :: r)
theorem cut_eq : ∀ {a b u v : List Nat}, 32 ∉ a → 32 ∉ b → a ++ 32 :: u = b ++ 32 :: v → a = b ∧ u = v
  | [], [], u, v, _, _, h => ⟨rfl, by simpa using h⟩
  | [], y :: b, u, v, _, hb, h => by
    simp only [List.nil_append, List.cons_append, List.cons.injEq] at h
    exact absurd (List.mem_cons.mpr (.inl h.1)) hb
  | x :: a, [], u, v, ha, _, h => by
    simp only [List.nil_append, List.cons_append, List.cons.injEq] at h
    exact absurd (List.mem_cons.mpr (.inl h.1.symm)) ha
  | x :: a, y :: b, u, v, ha, hb, h => by
    simp only [List.cons_append, List.cons.injEq] at h
    obtain ⟨e1, e2⟩ := cut_eq (fun z => ha (List.mem_cons_of_mem _ z)) (fun z => hb (List.mem_cons_of_mem _ z)) h.2
    exact ⟨by rw [h.1, e1], e2⟩
theorem J_inj : ∀ {ps ws : List (List Nat)}, ps ≠ [] → ws ≠ [] → (∀ p ∈ ps, 32 ∉ p) → (∀ w ∈ ws, 32 ∉ w) → J ps = J ws → ps = ws
  | [], _, h, _, _, _, _ => absurd rfl h
  | _ :: _, [], _, h, _, _, _ => absurd rfl h
  | [a], [b], _, _, _, _, e => by rw [show a = b from e]
  | [a], b :: c :: r, _, _, ha, _, e => by
    have e' : a = b ++ 32 :: J (c :: r) := e
    exact absurd (by rw [e']; simp) (ha a (List.mem_cons_self ..))
  | a :: c :: r, [b], _, _, _, hb, e => by
    have e' : a ++ 32 :: J (c :: r) = b := e
    exact absurd (by rw [← e']; simp) (hb b (List.mem_cons_self ..))
  | a :: c :: r, b :: d :: t, _, _, ha, hb, e => by
    have e' : a ++ 32 :: J (c :: r) = b ++ 32 :: J (d :: t) := e
    obtain ⟨e1, e2⟩ := cut_eq (ha a (List.mem_cons_self ..)) (hb b (List.mem_cons_self ..)) e'
    rw [e1, J_inj (List.cons_ne_nil _ _) (List.cons_ne_nil _ _) (fun p hp => ha p (List.mem_cons_of_mem _ hp)) (fun p hp => hb p (List.mem_cons_of_mem _ hp)) e2]
theorem J_count : ∀ ps : List (List Nat), (J ps).count 32 + 1 = (ps.map (List.count 32)).sum + (if ps = [] then 1 else ps.length)
  | [] => rfl
  | [a] => by simp [J]
  | a :: b :: r => by
    have ih := J_count (b :: r)
    rw [if_neg (List.cons_ne_nil _ _)] at ih ⊢
    show (a ++ 32 :: J (b :: r)).count 32 + 1 = _
    rw [List.count_append, List.count_cons_self, List.map_cons, List.sum_cons]
    simp only [List.length_cons] at ih ⊢
    lia
theorem sum_zero : ∀ {l : List Nat}, l.sum = 0 → ∀ x ∈ l, x = 0
  | [], _, _, h => nomatch h
  | a :: r, h, x, hx => by
    rw [List.sum_cons] at h
    rcases List.mem_cons.mp hx with e | e
    · lia
    · exact sum_zero (by lia) x e
noncomputable def fixedS : List Str := ["and", "or", "not", "while", "in", "on", "top", "held", "open", "shut", "locked", "bare", "free", "hand"]
structure Nv (x : Str) : Prop where
  low : ∀ c ∈ cs x, 97 ≤ c ∧ c ≤ 122
  pos : 1 ≤ x.length
  len : x.length ≤ 8
  fix : x ∉ fixedS
theorem fixed_two : ∀ w ∈ fixedS, ∃ c ∈ cs w, ∃ d ∈ cs w, c ≠ d := by
  have h : fixedS.all (fun w => (cs w).any fun c => (cs w).any fun d => c != d) = true := by decide +kernel
  intro w hw
  have h1 := List.all_eq_true.mp h w hw
  obtain ⟨c, hc, h2⟩ := List.any_eq_true.mp h1
  obtain ⟨d, hd, h3⟩ := List.any_eq_true.mp h2
  exact ⟨c, hc, d, hd, by simpa using h3⟩
theorem fixed_z : ∀ w ∈ fixedS, ("z" : Str) ++ w ∉ fixedS ∧ (("z" : Str) ++ w).length ≤ 8 := by
  have h : fixedS.all (fun w => decide (("z" : Str) ++ w ∉ fixedS) && decide ((("z" : Str) ++ w).length ≤ 8)) = true := by decide +kernel
  intro w hw
  have h1 := List.all_eq_true.mp h w hw
  rw [Bool.and_eq_true] at h1
  exact ⟨of_decide_eq_true h1.1, of_decide_eq_true h1.2⟩
theorem nv_rep {x : Str} {c n : Nat} (e : cs x = List.replicate n c) (h1 : 97 ≤ c) (h2 : c ≤ 122) (n1 : 1 ≤ n) (n2 : n ≤ 8) : Nv x := by
  have el : x.length = n := by rw [← cs_len, e, List.length_replicate]
  refine ⟨fun d hd => ?_, by lia, by lia, fun hf => ?_⟩
  · rw [e] at hd
    rw [(List.mem_replicate.mp hd).2]
    exact ⟨h1, h2⟩
  · obtain ⟨a, ha, b, hb, ne⟩ := fixed_two x hf
    rw [e] at ha hb
    exact ne ((List.mem_replicate.mp ha).2.trans (List.mem_replicate.mp hb).2.symm)
noncomputable def zed (x : Str) : Str := if x ∈ fixedS then ("z" : Str) ++ x else x
theorem zed_nv {x : Str} (low : ∀ c ∈ cs x, 97 ≤ c ∧ c ≤ 122) (h1 : 1 ≤ x.length) (h2 : x.length ≤ 8) : Nv (zed x) := by
  unfold zed
  by_cases h : x ∈ fixedS
  · rw [if_pos h]
    have z := fixed_z x h
    refine ⟨fun c hc => ?_, ?_, z.2, z.1⟩
    · rw [cs_app] at hc
      rcases List.mem_append.mp hc with q | q
      · have : c = 122 := by
          have e : cs ("z" : Str) = [122] := by decide +kernel
          rw [e] at q
          simpa using q
        lia
      · exact low c q
    · rw [← cs_len, cs_app, List.length_append, cs_len, cs_len]
      lia
  · rw [if_neg h]
    exact ⟨low, h1, h2, h⟩
theorem zed_inj {x y : Str} (hl : x.length = y.length) (h : zed x = zed y) : x = y := by
  have lz : ∀ z : Str, (("z" : Str) ++ z).length = z.length + 1 := fun z => by
    have e : ("z" : Str).length = 1 := by decide +kernel
    rw [← cs_len, cs_app, List.length_append, cs_len, cs_len, e]
    lia
  unfold zed at h
  by_cases h1 : x ∈ fixedS
  · rw [if_pos h1] at h
    by_cases h2 : y ∈ fixedS
    · rw [if_pos h2] at h
      have e := congrArg cs h
      rw [cs_app, cs_app] at e
      exact cs_inj (List.append_cancel_left e)
    · rw [if_neg h2] at h
      have e := congrArg Str.length h
      rw [lz] at e
      lia
  · rw [if_neg h1] at h
    by_cases h2 : y ∈ fixedS
    · rw [if_pos h2] at h
      have e := congrArg Str.length h
      rw [lz] at e
      lia
    · rw [if_neg h2] at h
      exact h
theorem nodup_snoc {α : Type} {l : List α} {x : α} (h : l.Nodup) (hx : x ∉ l) : (l ++ [x]).Nodup := by
  rw [List.nodup_append]
  refine ⟨h, by simp, fun a ha b hb => ?_⟩
  rw [List.mem_singleton.mp hb]
  intro e
  rw [e] at ha
  exact hx ha
theorem five_inj {p : Int} {i j : Nat} (hi : i < 26) (hj : j < 26) (h : (p + 5 * (i : Int)) % 26 = (p + 5 * (j : Int)) % 26) : i = j := by lia
end Rk
namespace Rk
open PySem
inductive Ro where
  | pl (n : Str)
  | bx (n : Str)
  | lk (n k : Str)
  | th (n s : Str)
  deriving DecidableEq
noncomputable def Ro.name : Ro → Str
  | .pl n => n
  | .bx n => n
  | .lk n _ => n
  | .th n _ => n
noncomputable def Ro.isP : Ro → Bool
  | .th _ _ => false
  | _ => true
noncomputable def Ro.boxed : Ro → Bool
  | .bx _ => true
  | .lk _ _ => true
  | _ => false
noncomputable def Ro.words : Ro → List Str
  | .pl n => ["place", n]
  | .bx n => ["box", n]
  | .lk n k => ["box", n, k]
  | .th n s => ["thing", n, s]
noncomputable def Ro.txt : Ro → Str
  | .pl n => ("place " : Str) ++ n
  | .bx n => ("box " : Str) ++ n
  | .lk n k => ("box " : Str) ++ n ++ (" " : Str) ++ k
  | .th n s => ("thing " : Str) ++ n ++ (" " : Str) ++ s
noncomputable def Ro.nv : Ro → Prop
  | .pl n => Nv n
  | .bx n => Nv n
  | .lk n k => Nv n ∧ Nv k
  | .th n s => Nv n ∧ Nv s
theorem Ro.nv_name : ∀ {r : Ro}, r.nv → Nv r.name
  | .pl _, h => h
  | .bx _, h => h
  | .lk _ _, h => h.1
  | .th _ _, h => h.1
theorem Nv.noblank {x : Str} (h : Nv x) : 32 ∉ cs x := fun z => by
  have := h.low 32 z
  lia
theorem Ro.noblank : ∀ {r : Ro}, r.nv → ∀ w ∈ r.words, 32 ∉ cs w
  | .pl n, h, w, hw => by
    simp only [Ro.words, List.mem_cons, List.not_mem_nil, or_false] at hw
    rcases hw with e | e
    · rw [e]; decide +kernel
    · rw [e]; exact Nv.noblank h
  | .bx n, h, w, hw => by
    simp only [Ro.words, List.mem_cons, List.not_mem_nil, or_false] at hw
    rcases hw with e | e
    · rw [e]; decide +kernel
    · rw [e]; exact Nv.noblank h
  | .lk n k, h, w, hw => by
    simp only [Ro.words, List.mem_cons, List.not_mem_nil, or_false] at hw
    rcases hw with e | e | e
    · rw [e]; decide +kernel
    · rw [e]; exact Nv.noblank h.1
    · rw [e]; exact Nv.noblank h.2
  | .th n k, h, w, hw => by
    simp only [Ro.words, List.mem_cons, List.not_mem_nil, or_false] at hw
    rcases hw with e | e | e
    · rw [e]; decide +kernel
    · rw [e]; exact Nv.noblank h.1
    · rw [e]; exact Nv.noblank h.2
theorem cs_txt : ∀ r : Ro, cs r.txt = J (r.words.map cs)
  | .pl n => by
    show cs (("place " : Str) ++ n) = cs ("place" : Str) ++ 32 :: cs n
    rw [cs_app]
    have e : cs ("place " : Str) = cs ("place" : Str) ++ [32] := by decide +kernel
    rw [e]; simp
  | .bx n => by
    show cs (("box " : Str) ++ n) = cs ("box" : Str) ++ 32 :: cs n
    rw [cs_app]
    have e : cs ("box " : Str) = cs ("box" : Str) ++ [32] := by decide +kernel
    rw [e]; simp
  | .lk n k => by
    show cs (("box " : Str) ++ n ++ (" " : Str) ++ k) = cs ("box" : Str) ++ 32 :: (cs n ++ 32 :: cs k)
    rw [cs_app, cs_app, cs_app]
    have e : cs ("box " : Str) = cs ("box" : Str) ++ [32] := by decide +kernel
    have e2 : cs (" " : Str) = [32] := by decide +kernel
    rw [e, e2]; simp
  | .th n k => by
    show cs (("thing " : Str) ++ n ++ (" " : Str) ++ k) = cs ("thing" : Str) ++ 32 :: (cs n ++ 32 :: cs k)
    rw [cs_app, cs_app, cs_app]
    have e : cs ("thing " : Str) = cs ("thing" : Str) ++ [32] := by decide +kernel
    have e2 : cs (" " : Str) = [32] := by decide +kernel
    rw [e, e2]; simp
theorem txt_thing : ∀ r : Ro, r.isP = false ↔ ∃ z, cs r.txt = cs ("thing " : Str) ++ z
  | .pl n => by
    constructor
    · intro h; cases h
    · rintro ⟨z, h⟩
      rw [show cs (Ro.pl n).txt = cs ("place " : Str) ++ cs n from cs_app _ _] at h
      have e1 : cs ("place " : Str) = 112 :: (cs ("place " : Str)).tail := by decide +kernel
      have e2 : cs ("thing " : Str) = 116 :: (cs ("thing " : Str)).tail := by decide +kernel
      rw [e1, e2] at h
      simp only [List.cons_append, List.cons.injEq] at h
      exact absurd h.1 (by decide)
  | .bx n => by
    constructor
    · intro h; cases h
    · rintro ⟨z, h⟩
      rw [show cs (Ro.bx n).txt = cs ("box " : Str) ++ cs n from cs_app _ _] at h
      have e1 : cs ("box " : Str) = 98 :: (cs ("box " : Str)).tail := by decide +kernel
      have e2 : cs ("thing " : Str) = 116 :: (cs ("thing " : Str)).tail := by decide +kernel
      rw [e1, e2] at h
      simp only [List.cons_append, List.cons.injEq] at h
      exact absurd h.1 (by decide)
  | .lk n k => by
    constructor
    · intro h; cases h
    · rintro ⟨z, h⟩
      rw [show cs (Ro.lk n k).txt = cs ("box " : Str) ++ cs n ++ cs (" " : Str) ++ cs k from by show cs (("box " : Str) ++ n ++ (" " : Str) ++ k) = _; rw [cs_app, cs_app, cs_app]] at h
      have e1 : cs ("box " : Str) = 98 :: (cs ("box " : Str)).tail := by decide +kernel
      have e2 : cs ("thing " : Str) = 116 :: (cs ("thing " : Str)).tail := by decide +kernel
      rw [e1, e2] at h
      simp only [List.cons_append, List.cons.injEq] at h
      exact absurd h.1 (by decide)
  | .th n k => by
    refine ⟨fun _ => ⟨cs n ++ cs (" " : Str) ++ cs k, ?_⟩, fun _ => rfl⟩
    show cs (("thing " : Str) ++ n ++ (" " : Str) ++ k) = _
    rw [cs_app, cs_app, cs_app]
    simp
theorem txt_len {r : Ro} (h : r.nv) : r.txt.length ≤ 23 := by
  have l6 : ("place " : Str).length = 6 := by decide +kernel
  have l4 : ("box " : Str).length = 4 := by decide +kernel
  have t6 : ("thing " : Str).length = 6 := by decide +kernel
  have l1 : (" " : Str).length = 1 := by decide +kernel
  cases r with
  | pl n => 
    have := Nv.len h
    rw [← cs_len, show (Ro.pl n).txt = ("place " : Str) ++ n from rfl, cs_app, List.length_append, cs_len, cs_len]; lia
  | bx n =>
    have := Nv.len h
    rw [← cs_len, show (Ro.bx n).txt = ("box " : Str) ++ n from rfl, cs_app, List.length_append, cs_len, cs_len]; lia
  | lk n k =>
    have := Nv.len h.1
    have := Nv.len h.2
    rw [← cs_len, show (Ro.lk n k).txt = ("box " : Str) ++ n ++ (" " : Str) ++ k from rfl, cs_app, cs_app, cs_app, List.length_append, List.length_append, List.length_append, cs_len, cs_len, cs_len, cs_len]; lia
  | th n k =>
    have := Nv.len h.1
    have := Nv.len h.2
    rw [← cs_len, show (Ro.th n k).txt = ("thing " : Str) ++ n ++ (" " : Str) ++ k from rfl, cs_app, cs_app, cs_app, List.length_append, List.length_append, List.length_append, cs_len, cs_len, cs_len, cs_len]; lia
noncomputable def plc : List Ro → List (Str × Bool × Option Str)
  | [] => []
  | .pl n :: r => (n, false, none) :: plc r
  | .bx n :: r => (n, true, none) :: plc r
  | .lk n k :: r => (n, true, some k) :: plc r
  | .th _ _ :: r => plc r
noncomputable def ths : List Ro → List (Str × Str)
  | [] => []
  | .th n s :: r => (n, s) :: ths r
  | _ :: r => ths r
theorem plc_app : ∀ a b : List Ro, plc (a ++ b) = plc a ++ plc b
  | [], _ => rfl
  | .pl n :: r, b => by simp [plc, plc_app r b]
  | .bx n :: r, b => by simp [plc, plc_app r b]
  | .lk n k :: r, b => by simp [plc, plc_app r b]
  | .th n s :: r, b => by simp [plc, plc_app r b]
theorem ths_app : ∀ a b : List Ro, ths (a ++ b) = ths a ++ ths b
  | [], _ => rfl
  | .pl n :: r, b => by simp [ths, ths_app r b]
  | .bx n :: r, b => by simp [ths, ths_app r b]
  | .lk n k :: r, b => by simp [ths, ths_app r b]
  | .th n s :: r, b => by simp [ths, ths_app r b]
theorem names_perm : ∀ rs : List Ro, (rs.map Ro.name).Perm ((plc rs).map (·.1) ++ (ths rs).map (·.1))
  | [] => .nil
  | .pl n :: r => .cons _ (names_perm r)
  | .bx n :: r => .cons _ (names_perm r)
  | .lk n k :: r => .cons _ (names_perm r)
  | .th n s :: r => (List.Perm.cons n (names_perm r)).trans List.perm_middle.symm
theorem mem_plc_name {rs : List Ro} {n : Str} (h : n ∈ (plc rs).map (·.1)) : n ∈ rs.map Ro.name := (names_perm rs).mem_iff.mpr (List.mem_append_left _ h)
theorem mem_ths_name {rs : List Ro} {n : Str} (h : n ∈ (ths rs).map (·.1)) : n ∈ rs.map Ro.name := (names_perm rs).mem_iff.mpr (List.mem_append_right _ h)
structure Good (rs : List Ro) : Prop where
  nv : ∀ r ∈ rs, r.nv
  nd : (rs.map Ro.name).Nodup
  first : ∃ n t, plc rs = (n, false, none) :: t
  fewP : (plc rs).length ≤ 6
  fewT : (ths rs).length ≤ 6
  keys : ∀ p ∈ plc rs, ∀ k, p.2.2 = some k → k ∈ (ths rs).map (·.1)
theorem Good.floor {rs : List Ro} (g : Good rs) {a b : List Ro} {r : Ro} (e : rs = a ++ r :: b) (h : r.boxed = true) : plc a ≠ [] := fun z => by
  obtain ⟨n, t, f⟩ := g.first
  rw [e, plc_app, z, List.nil_append] at f
  cases r with
  | pl n => cases h
  | th n s => cases h
  | bx n => simp [plc] at f
  | lk n k => simp [plc] at f
theorem Good.ndP {rs : List Ro} (g : Good rs) : ((plc rs).map (·.1)).Nodup := ((List.nodup_append.mp ((names_perm rs).nodup_iff.mp g.nd))).1
theorem Good.ndT {rs : List Ro} (g : Good rs) : ((ths rs).map (·.1)).Nodup := ((List.nodup_append.mp ((names_perm rs).nodup_iff.mp g.nd))).2.1
theorem plc_ins (rs : List Ro) (i : Nat) (n s : Str) : plc (rs.take i ++ .th n s :: rs.drop i) = plc rs := by
  rw [plc_app]
  show plc (rs.take i) ++ plc (rs.drop i) = _
  rw [← plc_app, List.take_append_drop]
theorem ths_ins (rs : List Ro) (i : Nat) (n s : Str) : (ths (rs.take i ++ .th n s :: rs.drop i)).Perm ((n, s) :: ths rs) := by
  rw [ths_app]
  show (ths (rs.take i) ++ (n, s) :: ths (rs.drop i)).Perm _
  refine List.perm_middle.trans (.cons _ ?_)
  rw [← ths_app, List.take_append_drop]
end Rk
namespace Rk
open PySem PyProof.Rows L2 Tx
theorem cnt_count (c : Nat) : ∀ l : List Nat, cnt c l = (l.count c : Int)
  | [] => by rw [cnt_nil]; rfl
  | n :: r => by
    rw [cnt_cons, cnt_count c r, List.count_cons]
    by_cases h : n = c
    · simp [h]
      lia
    · simp [h]
theorem cs_blank : cs blank = [32] := by decide +kernel
theorem cs_join : ∀ ps : List Str, cs (Str.join blank ps) = J (ps.map cs)
  | [] => rfl
  | [a] => rfl
  | a :: b :: r => by
    show cs (a ++ blank ++ Str.join blank (b :: r)) = cs a ++ 32 :: J (cs b :: r.map cs)
    rw [cs_app, cs_app, cs_join (b :: r), cs_blank]
    simp
theorem map_cs : ∀ {xs ys : List Str}, xs.map cs = ys.map cs → xs = ys
  | [], [], _ => rfl
  | [], _ :: _, h => by simp at h
  | _ :: _, [], h => by simp at h
  | x :: xs, y :: ys, h => by
    (simp only [List.map_cons, List.cons.injEq] at h)
    rw [cs_inj h.1, map_cs h.2]
theorem split_words {x : Str} {ws : List Str} (h0 : ws ≠ []) (hx : cs x = J (ws.map cs)) (hb : ∀ w ∈ ws, 32 ∉ cs w) : Txt.split x blank = ws := by
  have hj := StrLaws.join_split x blank
  have hl := split_len x 32
  rw [← blank_eq, cnt_count] at hl
  have e1 : J ((Txt.split x blank).map cs) = cs x := by rw [← cs_join, hj]
  have hc := J_count ((Txt.split x blank).map cs)
  have n0 : Txt.split x blank ≠ [] := fun z => by
    rw [z] at hl
    simp at hl
    lia
  rw [if_neg (by simpa using n0), e1, List.length_map] at hc
  have hcc : (cs x).count 32 = x.cps.toList.count 32 := rfl
  have hs : (((Txt.split x blank).map cs).map (List.count 32)).sum = 0 := by lia
  have hp : ∀ p ∈ (Txt.split x blank).map cs, 32 ∉ p := fun p hp => by
    have := sum_zero hs (p.count 32) (List.mem_map_of_mem hp)
    exact List.count_eq_zero.mp this
  refine map_cs (J_inj (by simpa using n0) (by simpa using h0) hp (fun w hw => ?_) (e1.trans hx))
  obtain ⟨v, hv, rfl⟩ := List.mem_map.mp hw
  exact hb v hv
theorem words_ne (r : Ro) : r.words ≠ [] := by cases r <;> exact List.cons_ne_nil _ _
theorem split_txt {r : Ro} (h : r.nv) : Txt.split r.txt blank = r.words := split_words (words_ne r) (cs_txt r) (Ro.noblank h)
theorem starts_iff (x : Str) : Txt.startswith x thingB = true ↔ ∃ z, cs x = cs thingB ++ z := by
  have l6 : thingB.length = 6 := by decide +kernel
  have c6 : (cs thingB).length = 6 := by decide +kernel
  unfold Txt.startswith Builtin.Str.subAt
  rw [Bool.and_eq_true]
  constructor
  · rintro ⟨h1, h2⟩
    have e : x.cps.extract 0 (0 + thingB.length) = thingB.cps := by simpa using h2
    refine ⟨(cs x).drop 6, ?_⟩
    have e2 : (x.cps.extract 0 (0 + thingB.length)).toList = (cs x).take 6 := by
      rw [Array.toList_extract, l6]
      simp [cs]
    rw [e] at e2
    show cs x = thingB.cps.toList ++ (cs x).drop 6
    rw [e2, List.take_append_drop]
  · rintro ⟨z, h⟩
    have hl : x.length = 6 + z.length := by rw [← cs_len, h, List.length_append, c6]
    refine ⟨decide_eq_true (by lia), ?_⟩
    have e : x.cps.extract 0 (0 + thingB.length) = thingB.cps := by
      apply Array.toList_inj.mp
      rw [Array.toList_extract, l6]
      show (List.drop 0 (cs x)).take (0 + 6 - 0) = cs thingB
      rw [h, List.drop_zero]
      exact List.take_left' c6
    simpa using e
theorem starts_txt (r : Ro) : Txt.startswith r.txt thingB = !r.isP := by
  cases hp : r.isP with
  | false =>
    rw [(starts_iff r.txt).mpr ((txt_thing r).mp hp)]
    rfl
  | true =>
    cases hs : Txt.startswith r.txt thingB with
    | false => rfl
    | true =>
      have := (txt_thing r).mpr ((starts_iff r.txt).mp hs)
      rw [hp] at this
      cases this
theorem Nv.ok {x : Str} (h : Nv x) : PySem.PyData.strOk x = true := ok_of fun c hc => by
  have := h.low c hc
  lia
theorem Nv.ascii {x : Str} (h : Nv x) : x.cps.all (· < 128) = true := by
  rw [Array.all_eq_true']
  intro c hc
  have := h.low c (by simpa [cs] using hc)
  (exact decide_eq_true (by lia))
theorem abc_ix : ∀ n : Nat, n < 26 → abc.cps.toList[n]? = some (97 + n) := by decide +kernel
theorem abc_num {i : Int} (h0 : 0 ≤ i) (h1 : i < 26) : atI abc.cps.toList i = some (97 + i.toNat) := by
  have q := atI_nat (abc_ix i.toNat (by lia))
  rw [Int.toNat_of_nonneg h0] at q
  exact q
theorem in_abc {c : Nat} (h1 : 97 ≤ c) (h2 : c ≤ 122) : (!(Builtin.Str.occurrences abc ⟨#[c]⟩ 0 abc.length 1).isEmpty) = true := by
  have h : ∀ n : Nat, n < 26 → (!(Builtin.Str.occurrences abc ⟨#[97 + n]⟩ 0 abc.length 1).isEmpty) = true := by decide +kernel
  have := h (c - 97) (by lia)
  rw [show 97 + (c - 97) = c by lia] at this
  exact this
theorem inV_strs (x : Str) : ∀ ys : List Str, inV (.str x) (ys.map V.str) = decide (x ∈ ys)
  | [] => rfl
  | y :: ys => by
    show (eqV (.str y) (.str x) || inV (.str x) (ys.map V.str)) = _
    rw [inV_strs x ys]
    by_cases h : y = x
    · subst h
      simp [eqV]
    · have h' : ¬ x = y := fun e => h e.symm
      simp [eqV, h, h']
theorem flat_strs : ∀ ys : List Str, (ys.map V.str).all flatV = true
  | [] => rfl
  | _ :: ys => by
    rw [List.map_cons, List.all_cons, flat_strs ys]
    rfl
noncomputable def lidsK : List Ro → List (Key × V)
  | [] => []
  | .bx n :: r => (Sum.inr n, .bl true) :: lidsK r
  | .lk n _ :: r => (Sum.inr n, .bl true) :: lidsK r
  | _ :: r => lidsK r
noncomputable def keysK : List Ro → List (Key × V)
  | [] => []
  | .lk n k :: r => (Sum.inr n, .str k) :: keysK r
  | _ :: r => keysK r
noncomputable def shK (rs : List Ro) : List (Key × V) := (ths rs).map fun x => (Sum.inr x.1, .str x.2)
theorem lidsK_app : ∀ a b : List Ro, lidsK (a ++ b) = lidsK a ++ lidsK b
  | [], _ => rfl
  | .pl n :: r, b => by simp [lidsK, lidsK_app r b]
  | .bx n :: r, b => by simp [lidsK, lidsK_app r b]
  | .lk n k :: r, b => by simp [lidsK, lidsK_app r b]
  | .th n s :: r, b => by simp [lidsK, lidsK_app r b]
theorem keysK_app : ∀ a b : List Ro, keysK (a ++ b) = keysK a ++ keysK b
  | [], _ => rfl
  | .pl n :: r, b => by simp [keysK, keysK_app r b]
  | .bx n :: r, b => by simp [keysK, keysK_app r b]
  | .lk n k :: r, b => by simp [keysK, keysK_app r b]
  | .th n s :: r, b => by simp [keysK, keysK_app r b]
theorem lidsK_len : ∀ rs : List Ro, (lidsK rs).length ≤ rs.length
  | [] => Nat.le_refl _
  | .pl n :: r => by have := lidsK_len r; simp [lidsK]; lia
  | .bx n :: r => by have := lidsK_len r; simp [lidsK]; lia
  | .lk n k :: r => by have := lidsK_len r; simp [lidsK]; lia
  | .th n s :: r => by have := lidsK_len r; simp [lidsK]; lia
theorem keysK_len : ∀ rs : List Ro, (keysK rs).length ≤ rs.length
  | [] => Nat.le_refl _
  | .pl n :: r => by have := keysK_len r; simp [keysK]; lia
  | .bx n :: r => by have := keysK_len r; simp [keysK]; lia
  | .lk n k :: r => by have := keysK_len r; simp [keysK]; lia
  | .th n s :: r => by have := keysK_len r; simp [keysK]; lia
theorem lidsK_none {x : Str} : ∀ {rs : List Ro}, x ∉ rs.map Ro.name → valV (lidsK rs) (Sum.inr x : Key) = none
  | [], _ => rfl
  | .pl n :: r, h => lidsK_none (rs := r) fun z => h (List.mem_cons_of_mem _ z)
  | .th n s :: r, h => lidsK_none (rs := r) fun z => h (List.mem_cons_of_mem _ z)
  | .bx n :: r, h => by
    show valV ((Sum.inr n, .bl true) :: lidsK r) _ = none
    rw [valV_neg (fun e => h (by rw [Sum.inr.inj e]; exact List.mem_cons_self))]
    exact lidsK_none (rs := r) fun z => h (List.mem_cons_of_mem _ z)
  | .lk n k :: r, h => by
    show valV ((Sum.inr n, .bl true) :: lidsK r) _ = none
    rw [valV_neg (fun e => h (by rw [Sum.inr.inj e]; exact List.mem_cons_self))]
    exact lidsK_none (rs := r) fun z => h (List.mem_cons_of_mem _ z)
theorem keysK_none {x : Str} : ∀ {rs : List Ro}, x ∉ rs.map Ro.name → valV (keysK rs) (Sum.inr x : Key) = none
  | [], _ => rfl
  | .pl n :: r, h => keysK_none (rs := r) fun z => h (List.mem_cons_of_mem _ z)
  | .th n s :: r, h => keysK_none (rs := r) fun z => h (List.mem_cons_of_mem _ z)
  | .bx n :: r, h => keysK_none (rs := r) fun z => h (List.mem_cons_of_mem _ z)
  | .lk n k :: r, h => by
    show valV ((Sum.inr n, .str k) :: keysK r) _ = none
    rw [valV_neg (fun e => h (by rw [Sum.inr.inj e]; exact List.mem_cons_self))]
    exact keysK_none (rs := r) fun z => h (List.mem_cons_of_mem _ z)
theorem lidsK_ins (rs : List Ro) (i : Nat) (n s : Str) : lidsK (rs.take i ++ .th n s :: rs.drop i) = lidsK rs := by
  rw [lidsK_app]
  show lidsK (rs.take i) ++ lidsK (rs.drop i) = _
  rw [← lidsK_app, List.take_append_drop]
theorem keysK_ins (rs : List Ro) (i : Nat) (n s : Str) : keysK (rs.take i ++ .th n s :: rs.drop i) = keysK rs := by
  rw [keysK_app]
  show keysK (rs.take i) ++ keysK (rs.drop i) = _
  rw [← keysK_app, List.take_append_drop]
end Rk
namespace Rk
open PySem PySem.Spec PyProof.Rows L2 Tx
theorem split_join {ws : List Str} (h0 : ws ≠ []) (hb : ∀ w ∈ ws, 32 ∉ cs w) : Txt.split (Txt.join blank ws) blank = ws := by
  refine split_words h0 ?_ hb
  rw [← cs_join]
  exact congrArg cs (StrLaws.glued_eq_join blank ws)
noncomputable def Lo (p : Str × Bool × Option Str) (l : Str) : Prop := l = "open" ∨ (l = "shut" ∧ p.2.1 = true) ∨ (l = "locked" ∧ p.2.2.isSome = true)
theorem lids_some : ∀ {rs : List Ro} {p : Str × Bool × Option Str}, (rs.map Ro.name).Nodup → p ∈ plc rs → (valV (lidsK rs) (Sum.inr p.1 : Key)).isSome = true → p.2.1 = true
  | [], _, _, h, _ => nomatch h
  | .th n s :: r, p, nd, h, e => lids_some (rs := r) (List.nodup_cons.mp nd).2 h e
  | .pl n :: r, p, nd, h, e => by
    rcases List.mem_cons.mp (show p ∈ (n, false, none) :: plc r from h) with z | z
    · have hn : n ∉ r.map Ro.name := (List.nodup_cons.mp nd).1
      have e' : (valV (lidsK r) (Sum.inr p.1 : Key)).isSome = true := e
      rw [z, lidsK_none hn] at e'
      cases e'
    · exact lids_some (rs := r) (List.nodup_cons.mp nd).2 z e
  | .bx n :: r, p, nd, h, e => by
    rcases List.mem_cons.mp (show p ∈ (n, true, none) :: plc r from h) with z | z
    · rw [z]
    · have hne : n ≠ p.1 := fun q => (List.nodup_cons.mp nd).1 (by rw [show Ro.name (.bx n) = n from rfl, q]; exact mem_plc_name (List.mem_map_of_mem z))
      have e' : (valV ((Sum.inr n, V.bl true) :: lidsK r) (Sum.inr p.1 : Key)).isSome = true := e
      rw [valV_neg (fun q => hne (Sum.inr.inj q))] at e'
      exact lids_some (rs := r) (List.nodup_cons.mp nd).2 z e'
  | .lk n k :: r, p, nd, h, e => by
    rcases List.mem_cons.mp (show p ∈ (n, true, some k) :: plc r from h) with z | z
    · rw [z]
    · have hne : n ≠ p.1 := fun q => (List.nodup_cons.mp nd).1 (by rw [show Ro.name (.lk n k) = n from rfl, q]; exact mem_plc_name (List.mem_map_of_mem z))
      have e' : (valV ((Sum.inr n, V.bl true) :: lidsK r) (Sum.inr p.1 : Key)).isSome = true := e
      rw [valV_neg (fun q => hne (Sum.inr.inj q))] at e'
      exact lids_some (rs := r) (List.nodup_cons.mp nd).2 z e'
theorem keys_some : ∀ {rs : List Ro} {p : Str × Bool × Option Str}, (rs.map Ro.name).Nodup → p ∈ plc rs → (valV (keysK rs) (Sum.inr p.1 : Key)).isSome = true → p.2.2.isSome = true
  | [], _, _, h, _ => nomatch h
  | .th n s :: r, p, nd, h, e => keys_some (rs := r) (List.nodup_cons.mp nd).2 h e
  | .pl n :: r, p, nd, h, e => by
    rcases List.mem_cons.mp (show p ∈ (n, false, none) :: plc r from h) with z | z
    · have hn : n ∉ r.map Ro.name := (List.nodup_cons.mp nd).1
      have e' : (valV (keysK r) (Sum.inr p.1 : Key)).isSome = true := e
      rw [z, keysK_none hn] at e'
      cases e'
    · exact keys_some (rs := r) (List.nodup_cons.mp nd).2 z e
  | .bx n :: r, p, nd, h, e => by
    rcases List.mem_cons.mp (show p ∈ (n, true, none) :: plc r from h) with z | z
    · have hn : n ∉ r.map Ro.name := (List.nodup_cons.mp nd).1
      have e' : (valV (keysK r) (Sum.inr p.1 : Key)).isSome = true := e
      rw [z, keysK_none hn] at e'
      cases e'
    · exact keys_some (rs := r) (List.nodup_cons.mp nd).2 z e
  | .lk n k :: r, p, nd, h, e => by
    rcases List.mem_cons.mp (show p ∈ (n, true, some k) :: plc r from h) with z | z
    · rw [z]; rfl
    · have hne : n ≠ p.1 := fun q => (List.nodup_cons.mp nd).1 (by rw [show Ro.name (.lk n k) = n from rfl, q]; exact mem_plc_name (List.mem_map_of_mem z))
      have e' : (valV ((Sum.inr n, V.str k) :: keysK r) (Sum.inr p.1 : Key)).isSome = true := e
      rw [valV_neg (fun q => hne (Sum.inr.inj q))] at e'
      exact keys_some (rs := r) (List.nodup_cons.mp nd).2 z e'
noncomputable def Al (rs : List Ro) (x l : Str) : Prop := l = "open" ∨ (l = "shut" ∧ (valV (lidsK rs) (Sum.inr x : Key)).isSome = true) ∨ (l = "locked" ∧ (valV (keysK rs) (Sum.inr x : Key)).isSome = true)
theorem Al.lo {rs : List Ro} (g : Good rs) {p : Str × Bool × Option Str} {l : Str} (h : p ∈ plc rs) (a : Al rs p.1 l) : Lo p l := by
  rcases a with a | ⟨a, b⟩ | ⟨a, b⟩
  · exact .inl a
  · exact .inr (.inl ⟨a, lids_some g.nd h b⟩)
  · exact .inr (.inr ⟨a, keys_some g.nd h b⟩)
theorem set_flat {α : Type} {a b : List α} {x : α} : ∀ {xss : List (List α)} {j : Nat}, xss[j]? = some (a ++ b) → ((xss.set j (a ++ x :: b)).flatten).Perm (x :: xss.flatten)
  | [], _, h => by simp at h
  | y :: r, 0, h => by
    have e : y = a ++ b := by simpa using h
    subst e
    rw [List.set_cons_zero, List.flatten_cons, List.flatten_cons]
    have : (a ++ x :: b ++ r.flatten) = a ++ x :: (b ++ r.flatten) := by simp
    rw [this, List.append_assoc]
    exact List.perm_middle
  | y :: r, j + 1, h => by
    rw [List.set_cons_succ, List.flatten_cons, List.flatten_cons]
    have ih := set_flat (a := a) (b := b) (x := x) (xss := r) (j := j) (by simpa using h)
    exact (List.Perm.append_left y ih).trans List.perm_middle
theorem len_flat {α : Type} : ∀ {xss : List (List α)} {h : List α}, h ∈ xss → h.length ≤ xss.flatten.length
  | y :: r, h, hm => by
    rw [List.flatten_cons, List.length_append]
    rcases List.mem_cons.mp hm with e | e
    · rw [e]; lia
    · have := len_flat e
      lia
end Rk
namespace SK
open PySem PyProof.Rows
noncomputable def dd {κ : Type} [DecidableEq κ] (val : Nat → κ) : Nat → List κ
  | 0 => []
  | i + 1 => if val i ∈ dd val i then dd val i else dd val i ++ [val i]
section
variable {κ : Type} [DecidableEq κ] {val : Nat → κ}
theorem dd_le : ∀ i : Nat, (dd val i).length ≤ i
  | 0 => Nat.le_refl _
  | i + 1 => by
    have ih := dd_le i
    show (if val i ∈ dd val i then dd val i else dd val i ++ [val i]).length ≤ i + 1
    split
    · lia
    · rw [List.length_append]
      show (dd val i).length + 1 ≤ i + 1
      lia
theorem dd_mem : ∀ {i : Nat} {x : κ}, x ∈ dd val i → ∃ j, j < i ∧ x = val j
  | 0, _, h => nomatch h
  | i + 1, x, h => by
    have h' : x ∈ (if val i ∈ dd val i then dd val i else dd val i ++ [val i]) := h
    split at h'
    · obtain ⟨j, hj, e⟩ := dd_mem h'
      exact ⟨j, by lia, e⟩
    · rcases List.mem_append.mp h' with z | z
      · obtain ⟨j, hj, e⟩ := dd_mem z
        exact ⟨j, by lia, e⟩
      · exact ⟨i, by lia, List.mem_singleton.mp z⟩
theorem dd_full {n : Nat} (inj : ∀ i j, i < n → j < n → val i = val j → i = j) : ∀ i : Nat, i ≤ n → (dd val i).length = i
  | 0, _ => rfl
  | i + 1, h => by
    have ih := dd_full inj i (by lia)
    show (if val i ∈ dd val i then dd val i else dd val i ++ [val i]).length = i + 1
    rw [if_neg, List.length_append, ih]
    · rfl
    · intro z
      obtain ⟨j, hj, e⟩ := dd_mem z
      have := inj i j (by lia) (by lia) e
      lia
theorem dd_step (i : Nat) (x : κ) : decide (x ∈ dd val (i + 1)) = (decide (x ∈ dd val i) || decide (x = val i)) := by
  show decide (x ∈ (if val i ∈ dd val i then dd val i else dd val i ++ [val i])) = _
  by_cases h : val i ∈ dd val i
  · rw [if_pos h]
    by_cases e : x = val i
    · subst e; simp [h]
    · simp [e]
  · rw [if_neg h]
    simp [List.mem_append]
theorem dd_size (i : Nat) : (dd val (i + 1)).length = if decide (val i ∈ dd val i) = true then (dd val i).length else (dd val i).length + 1 := by
  show (if val i ∈ dd val i then dd val i else dd val i ++ [val i]).length = _
  by_cases h : val i ∈ dd val i
  · rw [if_pos h, if_pos (decide_eq_true h)]
  · rw [if_neg h, if_neg (by simpa using h), List.length_append]
    rfl
end
section
variable {prog : Program} {w : World} {κ : Type} [DecidableEq κ] {knd : KeyKind prog w κ} {A : Around} {R : Result → Shared → Prop} {I : Addr} {fp wr : List Addr} {G : Array GenState → Array GenState → Prop} {n : Nat} {P : Nat → Value → Prop} {St : Nat → Shared → Prop}
theorem kept {S : Addr} {h h' : Heap} {f : κ → Bool} {m : Nat} (q : h.SetOf knd S f m) (e : ∀ o, h.get? S = some o → h'.get? S = some o) : h'.SetOf knd S f m := by
  obtain ⟨o, es, ep, t, ho, r⟩ := q
  exact ⟨o, es, ep, t, e o ho, r⟩
theorem congr' {S : Addr} {h : Heap} {f g : κ → Bool} {m k : Nat} (q : h.SetOf knd S f m) (e : ∀ x, f x = g x) (em : m = k) : h.SetOf knd S g k := by
  have : f = g := funext e
  subst this em
  exact q
theorem fill (W : WalksS prog w A.in1 I fp wr G n P St) (S : Addr) (nS : S ∉ fp) (val : Nat → κ) (hv : ∀ i v, P i v → knd.is (val i) v = true ∧ v.scannable = true) (hb : n + 1 < scanBound) :
    ∀ (k i : Nat) (s : Shared), n - i = k → i ≤ n → St i s → s.heap.SetOf knd S (fun x => decide (x ∈ dd val i)) (dd val i).length →
      (∀ s', Moved (S :: wr) G s s' → s'.heap.SetOf knd S (fun x => decide (x ∈ dd val n)) (dd val n).length → R (.ok (.ret .none)) s') →
      (codeAny (model prog w) A (.builtin "set.update.loop" ⟨[.ref S, .ref I], []⟩) R s) := by
  have nw : S ∉ wr := fun h => nS (W.sub _ h)
  have sub : ∀ b ∈ wr, b ∈ S :: wr := fun b z => List.mem_cons_of_mem _ z
  intro k
  induction k with
  | zero =>
    intro i s hk hi st hS fin
    obtain rfl : i = n := by lia
    refine codeAny_builtin PyProof.Rows.F.entry_set_update_loop ?_
    rw [Around.under_plainId PyProof.Rows.F.plain_set_update_loop _]
    refine wpAny_bind (m := pyNext (.ref I)) (W.done s _ _ st fun s1 hm => ?_)
    exact wpAny_pure (fin s1 (hm.mono sub) (kept hS fun o e => hm.heap S o nw e))
  | succ k ih =>
    intro i s hk hi st hS fin
    have lt : i < n := by lia
    refine codeAny_builtin PyProof.Rows.F.entry_set_update_loop ?_
    rw [Around.under_plainId PyProof.Rows.F.plain_set_update_loop _]
    refine wpAny_bind (m := pyNext (.ref I)) (W.item i s _ _ lt st fun v s1 hP st1 hm => ?_)
    obtain ⟨key, sc⟩ := hv i v hP
    refine wpAny_bind (m := holding [v] (setAdd S v)) (wpAny_holding ?_)
    unfold setAdd
    refine wpAny_holding (wpAny_bind (knd.pyHash (k := val i) key ?_))
    have room : (dd val i).length + 1 < scanBound := by have := dd_le (val := val) i; lia
    refine wpAny_setAddHashed_of (knd := knd) (s := { s1 with toks := s1.toks + 1 }) key sc (kept hS fun o e => hm.heap S o nw e) room fun h2 sb hS2 => ?_
    have hS3 : h2.SetOf knd S (fun x => decide (x ∈ dd val (i + 1))) (dd val (i + 1)).length := congr' hS2 (fun x => (dd_step i x).symm) (dd_size i).symm
    have oth : ∀ b o, b ≠ S → s1.heap.get? b = some o → h2.get? b = some o := fun b o z e => (sb.2 b z).trans e
    refine wpAny_pure ⟨plainId_quiet PyProof.Rows.F.plain_set_update_loop _, ih (i + 1) _ (by lia) lt (W.frame _ s1 h2 (s1.toks + 1) st1 (Nat.le_succ _) fun b hb o e => oth b o (fun z => nS (z ▸ hb)) e) hS3 fun s2 hm2 q => ?_⟩
    refine fin s2 (Moved.trans W.gtrans ((hm.mono sub).then_heap (Nat.le_succ _) fun b o hb e => oth b o (fun z => hb (z ▸ List.mem_cons_self)) e) hm2) q
end
section
variable {prog : Program} {w : World} {κ : Type} [DecidableEq κ] {knd : KeyKind prog w κ} {A : Around} {E : Value → Shared → Prop} {s : Shared}
noncomputable abbrev fset (led : Bool) : Obj := { cls := .type "set", dict := none, data := .set #[] 0 (.fresh 0 0 led) }
set_option maxHeartbeats 3300000 in
theorem make {l : Addr} {items : Array Value} {val : Nat → κ} {Q : Value → Shared → Prop} (hh : A.handled = none) (hl : s.heap.IsList l items) (hv : ∀ i v, items[i]? = some v → knd.is (val i) v = true ∧ v.scannable = true) (hb : items.size + 1 < scanBound)
    (q : ∀ (h' : Heap) (tk : Nat), h'.SetOf knd s.heap.objs.size (fun x => decide (x ∈ dd val items.size)) (dd val items.size).length → (∀ b o, s.heap.get? b = some o → h'.get? b = some o) → Q (.ref s.heap.objs.size) { s with heap := h', toks := tk }) :
    (wpAny (model prog w) A (call (.type "set") [.ref l]) Q E s) := by
  obtain ⟨c, tl, hmro⟩ := PySem.F.called_set.mro
  have hmade := PySem.F.called_set.made
  have hsub := PySem.F.called_set.sub
  refine wpAny_call (codeAny_of_tree (show wpAny _ _ (callAny (.type "set") _) _ _ _ from ?_))
  refine wpAny_pure ⟨Code.quiet_builtin _ (by decide +kernel), codeAny_builtin PySem.F.entry_type_call ?_⟩
  (rw [Around.under_plain (weight_type_call_type "set" [.ref l] []) rfl])
  have h1 := PySem.F.called_set.notType
  have h2 := PySem.F.called_set.canCreate
  have hct := PySem.F.typeCall_set_1 (.ref l)
  (repeat (any_goals (first | assumption | wp_step)))
  refine codeAny_mono (code_set_new_1 (.ref l) (E := E) (Q₁ := fun ob s1 => ∃ led : Bool, ob = .ref s.heap.objs.size ∧ s1 = { s with heap := s.heap.push { cls := .type "set", dict := none, data := .set #[] 0 (.fresh 0 0 led) } }) fun led => ⟨led, rfl, rfl⟩) fun r s1 hr => ?_
  cases r with
  | error e => exact hr
  | ok fl =>
    cases fl with
    | ret ob =>
      obtain ⟨led, rfl, rfl⟩ := hr
      have hS : (s.heap.push (fset led)).get? s.heap.objs.size = some (fset led) := Heap.get?_push_size _ rfl
      have hT : Shared.TypeIs { s with heap := s.heap.push (fset led) } (.ref s.heap.objs.size) "set" := ⟨_, hS, rfl⟩
      have hli := PySem.F.called_set.init.lookup
      have hbi := PySem.F.called_set.init.bind (.ref s.heap.objs.size)
      (repeat (any_goals (first | assumption | wp_step)))
      refine codeAny_mono (codeAny_call_builtin (R := wants (fun r s2 => r = .none ∧ ∃ h' tk, s2 = { s with heap := h', toks := tk } ∧ h'.SetOf knd s.heap.objs.size (fun x => decide (x ∈ dd val items.size)) (dd val items.size).length ∧
          (∀ b o, s.heap.get? b = some o → h'.get? b = some o)) E) PySem.F.called_set.init.plain PySem.F.entry_set_init (check_set_init_1 hT ?_)) fun r2 s2 hr2 => ?_
      · obtain ⟨⟨ocls, odict, odata, oslots⟩, hol, hcl, nl, hdl⟩ := hl
        simp only at hcl hdl
        subst hcl hdl
        have hol' : (s.heap.push (fset led)).get? l = some { cls := .type "list", dict := odict, data := .seq items nl, slots := oslots } := Heap.get?_push_of_some _ hol
        have x1 := PySem.F.sub_list_set
        have x2 := PySem.F.sub_list_frozenset
        have x3 : (Value.type "list" == Value.type "dict") = false := by decide
        have hl1 : (s.heap.push (fset led)).IsList l items := ⟨_, hol', rfl, nl, rfl⟩
        (unfold Builtin.«set.__init__» noKeywords Builtin.Frozenset.updateFrom)
        generalize hPI : pyIter = PI
        wp_walk
        subst hPI
        (refine wpAny_pyIter_list hl1 ?_)
        (refine wpAny_bind (wpAny_runValue ?_))
        have lt : l < s.heap.objs.size := Heap.lt_size hol
        have sz : (s.heap.push (fset led)).objs.size = s.heap.objs.size + 1 := Heap.size_push ..
        (have hh3 : A.in1.in1.in1.handled = none := by simp [hh])
        have ne1 : l ≠ (s.heap.push (fset led)).objs.size := by rw [sz]; exact Nat.ne_of_lt (Nat.lt_succ_of_lt lt)
        have nS : s.heap.objs.size ∉ [(s.heap.push (fset led)).objs.size, l] := by
          rw [sz]
          simp only [List.mem_cons, List.not_mem_nil, or_false, not_or]
          exact ⟨Nat.ne_of_lt (Nat.lt_succ_self _), Nat.ne_of_gt lt⟩
        refine fill (knd := knd) ((Walks.list hh3 _ l ne1 items).toS) s.heap.objs.size nS val hv hb (items.size - 0) 0 _ (by lia) (Nat.zero_le _) ⟨⟨_, Heap.get?_push_size _ rfl, rfl, rfl⟩, hl1.push _⟩ ?_ fun s3 hm q3 => ?_
        · have g := Heap.get?_push_of_some ({ cls := .type "list_iterator", data := .fields #[.ref l, .int 0 0] } : Obj) hS
          exact congr' ((PyProof.Rows.setObjOf_fresh (knd := knd) led).setOf g (by unfold scanBound; lia)) (fun x => by simp [dd]) rfl
        · obtain ⟨h3, g3, d3, tk3, os3⟩ := s3
          obtain ⟨m1, m2, m3, m4, m5⟩ := hm
          have eg : g3 = s.gens := m2
          have ed : d3 = s.drawn := m3
          have es : os3 = s.os := m4
          subst eg ed es
          refine wpAny_pure (wpAny_pure ⟨rfl, h3, tk3, rfl, q3, fun b o e => m1 b o ?_ (Heap.get?_push_of_some _ (Heap.get?_push_of_some _ e))⟩)
          have lb : b < s.heap.objs.size := Heap.lt_size e
          rw [sz]
          simp only [List.mem_cons, List.not_mem_nil, or_false, not_or]
          exact ⟨Nat.ne_of_lt lb, Nat.ne_of_lt (Nat.lt_succ_of_lt lb)⟩
      · cases r2 with
        | error e => exact hr2
        | ok fl2 =>
          cases fl2 with
          | ret r =>
            obtain ⟨rfl, h', tk, rfl, a1, a2⟩ := hr2
            (repeat (any_goals (first | assumption | wp_step)))
            exact q _ _ a1 a2
          | _ => exact hr2.elim
    | _ => exact hr.elim
end
end SK
namespace L2
open PySem PySem.Spec PyProof.Rows
theorem vals_at : ∀ {xs : List V} {us : List Value}, xs.length = us.length → (∀ (i : Nat) x u, xs[i]? = some x → us[i]? = some u → RelV x u) → Vals xs us
  | [], [], _, _ => .nil
  | [], _ :: _, h, _ => by (simp at h)
  | _ :: _, [], h, _ => by (simp at h)
  | x :: xs, u :: us, h, r => .cons (r 0 x u rfl rfl) (vals_at (by simpa using h) fun i y v hy hv => r (i + 1) y v (by simpa using hy) (by simpa using hv))
theorem KV.get : ∀ {kvs : List (Key × V)} {vs : List (Key × Value)} {i : Nat} {k : Key} {u : Value}, KV kvs vs → vs[i]? = some (k, u) → ∃ v, kvs[i]? = some (k, v) ∧ RelV v u
  | _, _, _, _, _, .nil, e => by simp at e
  | _, _, 0, _, _, .cons (a := p) r _, e => by
    simp at e
    subst e
    obtain ⟨e1, e2⟩ := r
    obtain ⟨p1, p2⟩ := p
    cases e1
    exact ⟨p2, rfl, e2⟩
  | _, _, i + 1, _, _, .cons _ t, e => by
    obtain ⟨v, h1, h2⟩ := KV.get (i := i) t (by simpa using e)
    exact ⟨v, by simpa using h1, h2⟩
section
variable {X : Cx}
theorem call_listD (hc : X.calm = true) : CallR X (.type "list") (fun xs H Q => ∃ p kvs, xs = [.ref p] ∧ Rd H p (.dK kvs) ∧ ∀ l, H l = none → Q (.ref l) (upd H l (.lst (kvs.map fun kv => kV kv.1)))) := by
  intro pins s σ H xs us Q I r h
  obtain ⟨p, kvs, rfl, hp, q⟩ := h
  obtain ⟨u, rfl, ru⟩ := vals1 r
  cases ru
  obtain ⟨hz, hm, vs, hkv, hd⟩ := dk_rd I.hok hp
  obtain ⟨ep, hat⟩ := hd.dictAt
  have hl := hkv.length
  refine PySem.W.kdl_call (PySem.W.kdl_dict (knd := mixKind X.prog X.w) (kvs := vs) (ep := ep) hm) (I.ok.hd hc) hat (by lia) fun h' tk acc c hk hS hacc => ?_
  refine ⟨.ref _, _, I.laid (a := s.heap.objs.size) (o := .lst (kvs.map fun kv => kV kv.1)) hk (Nat.le_refl _) ⟨by rw [List.length_map]; exact hz, acc.toList, c, vals_at ?_ fun i x u hx hu => ?_, hS⟩, rfl, q _ (I.hok.fresh (Nat.le_refl _))⟩
  · have el : acc.toList.length = acc.size := by simp
    rw [List.length_map, el, hacc.1, hl]
  · obtain ⟨k, z, e1, e2⟩ := hacc.2 i u (by simpa using hu)
    obtain ⟨v, e3, _⟩ := KV.get hkv e1
    rw [List.getElem?_map, e3] at hx
    have hx' : x = kV k := (Option.some.inj hx).symm
    subst hx'
    rcases keyIs_shape (show keyIs k u = true from e2) with ⟨j, t, rfl, rfl⟩ | ⟨y, t, rfl, rfl⟩
    · exact ⟨t, rfl⟩
    · exact ⟨t, rfl⟩
theorem call_all (hc : X.calm = true) : CallR X (.builtin "all") (fun xs H Q => ∃ (p : Addr) (bs : List Bool), xs = [.ref p] ∧ SqL X.K H p (bs.map V.bl) ∧ Q (.bl (bs.all fun b => b)) H) := by
  intro pins s σ H xs us Q I r h
  obtain ⟨p, bs, rfl, hp, q⟩ := h
  obtain ⟨u, rfl, ru⟩ := vals1 r
  cases ru
  obtain ⟨its, rv, pl, hz⟩ := I.list hp
  have hlen := rv.length
  rw [List.length_map] at hlen
  have hlt : p < s.heap.objs.size := by
    obtain ⟨o, n, e, _⟩ := pl
    exact Heap.lt_size e
  refine call_all_walk (wpAny_pyIter_list pl.isList ⟨s.heap.objs.size, _, _, _, _, _, fun i => bs.getD i true, rfl, Walks.list (show X.A.in1.handled = none from I.ok.hd hc) _ p (Nat.ne_of_lt hlt) its.toArray, ⟨⟨_, Heap.get?_push_size _ rfl, rfl, rfl⟩, pl.isList.push _⟩, fun i v s2 Q2 E2 hP hQ => ?_, fun h' tk hk => ?_⟩)
  · have hi : its[i]? = some v := by simpa using hP
    have hib : i < bs.length := by
      have := (List.getElem?_eq_some_iff.mp hi).1
      lia
    obtain ⟨u', hu', ru⟩ := rv.get (i := i) (x := .bl bs[i]) (by simp [hib])
    rw [hi] at hu'
    cases hu'
    cases ru
    refine wpAny_truthy_bool ?_
    have e : bs.getD i true = bs[i] := by simp [List.getD, hib]
    rw [← e]
    exact hQ
  · refine ⟨.bl _, H, I.kept (t' := tk) (fun b o e => hk b o ?_ (Heap.get?_push_of_some _ e)), rfl, ?_⟩
    · intro z
      rw [List.mem_singleton] at z
      exact absurd (Heap.lt_size e) (by rw [z]; exact Nat.lt_irrefl _)
    · have e : (List.range its.toArray.size).all (fun i => bs.getD i true) = bs.all fun b => b := by
        rw [List.size_toArray, ← hlen]
        (rw [Bool.eq_iff_iff, List.all_eq_true, List.all_eq_true])
        constructor
        · intro a b hb
          (obtain ⟨i, hi, rfl⟩ := List.getElem_of_mem hb)
          have := a i (List.mem_range.mpr hi)
          simpa [List.getD, hi] using this
        · intro a i hi
          (have hi' := List.mem_range.mp hi)
          have := a bs[i] (List.getElem_mem hi')
          simpa [List.getD, hi'] using this
      rw [e]
      exact q
noncomputable def setO (P : Program) (w : World) (a : Addr) (n : Nat) : HO := .ext fun h => ∃ S, h.SetOf (mixKind P w) a S n
noncomputable def kAt (ks : List Key) (i : Nat) : Key := ks.getD i (.inl 0)
theorem call_setK (hc : X.calm = true) : CallR X (.type "set") (fun xs H Q => ∃ p ks, xs = [.ref p] ∧ SqL X.K H p (ks.map kV) ∧ ks.length ≤ 1000 ∧ ∀ a, H a = none → Q (.ref a) (upd H a (setO X.prog X.w a (SK.dd (kAt ks) ks.length).length))) := by
  intro pins s σ H xs us Q I r h
  obtain ⟨p, ks, rfl, hp, hk, q⟩ := h
  obtain ⟨u, rfl, ru⟩ := vals1 r
  cases ru
  obtain ⟨its, rv, pl, hz⟩ := I.list hp
  have hlen := rv.length
  rw [List.length_map] at hlen
  refine SK.make (knd := mixKind X.prog X.w) (val := kAt ks) (I.ok.hd hc) pl.isList (fun i v hv => ?_) (by rw [List.size_toArray]; unfold scanBound; lia) fun h' tk hS kp => ?_
  · have hi : its[i]? = some v := by simpa using hv
    have hib : i < ks.length := by
      have := (List.getElem?_eq_some_iff.mp hi).1
      lia
    obtain ⟨u', hu', ru⟩ := rv.get (i := i) (x := kV ks[i]) (by simp [hib])
    rw [hi] at hu'
    cases hu'
    have e : kAt ks i = ks[i] := by simp [kAt, List.getD, hib]
    rw [e]
    refine ⟨kV_is ru, ?_⟩
    cases hkk : ks[i] with
    | inl j => rw [hkk] at ru; obtain ⟨t, rfl⟩ := ru; rfl
    | inr y => rw [hkk] at ru; obtain ⟨t, rfl⟩ := ru; rfl
  · have es : its.toArray.size = ks.length := by simp [hlen]
    rw [es] at hS
    refine ⟨.ref _, _, I.laid (a := s.heap.objs.size) (o := setO X.prog X.w s.heap.objs.size (SK.dd (kAt ks) ks.length).length) kp (Nat.le_refl _) ⟨⟨_, hS⟩, ?_, fun h1 h2 f1 e => ?_⟩, rfl, q _ (I.hok.fresh (Nat.le_refl _))⟩
    · obtain ⟨o, _, _, _, e, _⟩ := hS
      exact ⟨o, e⟩
    · obtain ⟨S, z⟩ := f1
      exact ⟨S, SK.kept z e⟩
theorem call_lenS : CallR X (.builtin "len") (fun xs H Q => ∃ a n, xs = [.ref a] ∧ H a = some (setO X.prog X.w a n) ∧ Q (.int n) H) := by
  intro pins s σ H xs us Q I r h
  obtain ⟨a, n, rfl, ha, q⟩ := h
  obtain ⟨u, rfl, ru⟩ := vals1 r
  cases ru
  obtain ⟨⟨S, o, es, ep, t, ho, ex, hd, _, _, hb, hf, hn⟩, _, _⟩ := I.hok a _ ha
  refine call_len_set ho ex hd hf (by unfold scanBound at hb; lia) ⟨.int n, H, I.tok _, ⟨_, by rw [hn]⟩, q⟩
end
noncomputable def Its (x : Str) : It := ⟨fun i _ => i < x.cps.size, fun i H v H' => H' = H ∧ ∃ c, x.cps[i]? = some c ∧ v = .str ⟨#[c]⟩, fun i _ => x.cps.size ≤ i⟩
theorem turn_str {P : Program} {w : World} {K : PySem.W.Frag} {tg : Expr} (it : Addr) (x : Str) (t : Tok) : Turn P w K tg (Its x) [it] it (fun i h => h.IsStrIter it "str_ascii_iterator" x t i) where
  mem := by simp
  obj := fun i h st b hb => by
    have e : b = it := by simpa using hb
    subst e
    obtain ⟨o, e, c, d⟩ := st
    exact ⟨o, e, fun v z => by rw [d] at z; cases z⟩
  keep := fun i h h' st k => by
    obtain ⟨o, e, r⟩ := st
    exact ⟨o, k it (by simp) o e, r⟩
  item := by
    intro X hP hw hK hc i pins s σ H E I hf st hg
    subst hP hw hK
    obtain ⟨f0, f1, f2, f3, f4, f5⟩ := hf it (by simp)
    have hi : i < x.cps.size := hg
    refine wpAny_pyNext_ascii_item st (c := x.cps[i]) (by simp [hi]) fun h' st' sb => ?_
    have I1 : Inv X pins σ H { s with heap := h', toks := s.toks + 1 } := I.turned (fun b o hb e => (sb.2 b hb).trans e) f0 f1 f3 f4 f5
    obtain ⟨o, e, c, d⟩ := id st'
    exact ⟨_, rfl, go_of (s := { s with heap := h', toks := s.toks + 1 }) e c d (by decide) ⟨.str ⟨#[x.cps[i]]⟩, H, I1, ⟨_, rfl⟩, ⟨rfl, _, by simp [hi], rfl⟩, st', fun b hb => (hf b hb).1⟩⟩
  done := by
    intro X hP hw hK hc i pins s σ H E I hf st hg
    subst hP hw hK
    obtain ⟨f0, f1, f2, f3, f4, f5⟩ := hf it (by simp)
    have hi : x.cps.size ≤ i := hg
    exact wpAny_pyNext_ascii_end (I.ok.hd hc) st (by simp [hi]) fun h' eb => ⟨rfl, I.turned (t' := s.toks) (fun b o hb e => eb b o hb e) f0 f1 f3 f4 f5⟩
  self := fun _ _ _ _ _ st h => wpAny_pyIter_striter_ascii st h
noncomputable def iStr (tl : TE) : TI := fun σ H R => tl σ H fun v H1 => ∃ x, v = .str x ∧ x.cps.all (· < 128) = true ∧ R (Its x) H1
theorem pi_str {X : Cx} {tg l : Expr} {tl : TE} (hl : PE X l tl) : PI X tg l (iStr tl) := by
  intro pins s σ H R I h
  refine thn (hl pins s σ H _ I h) fun v s1 hp0 => ?_
  obtain ⟨y, H1, I1, r1, q1⟩ := hp0
  obtain ⟨x, e, ha, q⟩ := q1
  subst e
  obtain ⟨t, rfl⟩ := r1
  refine wpAny_pyIter_ascii ha ⟨s1.heap.objs.size, [s1.heap.objs.size], _, _, H1, rfl, I1.kept (t' := s1.toks) fun b o e => Heap.get?_push_of_some _ e, turn_str _ x t, ⟨_, Heap.get?_push_size _ rfl, rfl, rfl⟩, fun b hb => ?_, q⟩
  have e : b = s1.heap.objs.size := by simpa using hb
  subst e
  exact I1.fpOk (Nat.le_refl _) (I1.hok.fresh (Nat.le_refl _))
end L2
namespace ZN
open PySem PyProof.Rows
end ZN
namespace ZN
open PySem PyProof.Rows
end ZN
namespace L2
open PySem PySem.Spec PyProof.Rows
end L2
namespace L2
open PySem PySem.Spec PyProof.Rows
theorem KV.get2 : ∀ {kvs : List (Key × V)} {vs : List (Key × Value)} {i : Nat} {k : Key} {v : V}, KV kvs vs → kvs[i]? = some (k, v) → ∃ u, vs[i]? = some (k, u) ∧ RelV v u
  | _, _, _, _, _, .nil, e => by simp at e
  | _, _, 0, _, _, .cons (b := p) r _, e => by
    simp at e
    subst e
    obtain ⟨e1, e2⟩ := r
    obtain ⟨p1, p2⟩ := p
    cases e1
    exact ⟨p2, rfl, e2⟩
  | _, _, i + 1, _, _, .cons _ t, e => by
    obtain ⟨v, h1, h2⟩ := KV.get2 (i := i) t (by simpa using e)
    exact ⟨v, by simpa using h1, h2⟩
noncomputable def viewO (v a : Addr) : HO := .ext fun h => h.IsValuesView v a
section
variable {X : Cx}
theorem mt_values : MtR X "dict.values" (fun x xs H Q => ∃ a kvs, x = .ref a ∧ xs = [] ∧ H a = some (.dK kvs) ∧ ∀ v, H v = none → Q (.ref v) (upd H v (viewO v a))) := by
  intro pins s σ H x xs v us Q I rx rv h
  obtain ⟨a, kvs, rfl, rfl, ha, q⟩ := h
  cases rx
  cases rv
  obtain ⟨hz, hm, vs, hkv, hd⟩ := dk_of I.hok ha
  refine call_meetsIn PySem.F.slot_dict_values hd.typeIs PySem.F.entry_dict_values (PySem.F.args_dict_values_1 _) (meets_dict_values (mixKind X.prog X.w) a hm) ⟨⟨vs, hd⟩, ?_⟩
  refine ⟨.ref s.heap.objs.size, _, I.laid (t' := s.toks) (o := viewO s.heap.objs.size a) (fun b o e => Heap.get?_push_of_some _ e) (Nat.le_refl _) ⟨⟨_, Heap.get?_push_size _ rfl, rfl, rfl⟩, ⟨_, Heap.get?_push_size _ rfl⟩, fun h1 h2 f e => ?_⟩, rfl, q _ (I.hok.fresh (Nat.le_refl _))⟩
  obtain ⟨o, ho, r⟩ := f
  exact ⟨o, e o ho, r⟩
theorem Inv.freeze {pins : List (Addr × Obj)} {σ : St} {H : Hp} {s : Shared} {a : Addr} {kvs : List (Key × V)} {o : Obj} (I : Inv X pins σ H s) (ha : H a = some (.dK kvs)) (ho : s.heap.get? a = some o) : Inv X pins σ (upd H a (.frz o (.dK kvs))) s := by
  have hne : ∀ b, H b = none → b ≠ a := fun b e z => by rw [z, ha] at e; cases e
  have keep : ∀ b u, H b = some u → u ≠ .dK kvs → upd H a (.frz o (.dK kvs)) b = some u := fun b u e d => by rw [upd_ne (ne_of e ha d)]; exact e
  have st : Inv X pins σ (upd H a (.frz o (.dK kvs))) { s with heap := s.heap, gens := s.gens, drawn := s.drawn, toks := s.toks } := by
    refine I.step (g' := s.gens) (t' := s.toks) (d' := s.drawn) (ch := []) (fun b hb => nomatch hb) (fun b o _ _ _ e _ => e) (fun b o _ _ _ e _ => ⟨o.slots, e⟩) (fun b o _ e n => by rw [upd_ne (hne b n)]; exact n) (fun b o _ e => ⟨o, e⟩)
      (fun b xs e => keep b _ e (by intro z; cases z)) (fun b o u e => keep b _ e (by intro z; cases z)) (fun b ps e => ⟨#[], by rw [keep b _ e (by intro z; cases z)]; simp⟩) (fun m hm => hm) (fun b u e => ?_) I.bare
    by_cases hb : b = a
    · subst hb
      rw [upd_same] at e
      cases e
      exact ⟨ho, I.hok _ _ ha⟩
    · rw [upd_ne hb] at e
      exact (I.hok b u e).stay (fun c v _ q => q) (fun c q => keep c _ q (by intro z; cases z)) fun c xs q => keep c _ q (by intro z; cases z)
  exact st
end
noncomputable def Itv (a : Addr) (o : Obj) (kvs : List (Key × V)) : It :=
  ⟨fun i H => i < kvs.length ∧ H a = some (.frz o (.dK kvs)), fun i H x H' => H' = H ∧ ∃ k, kvs[i]? = some (k, x), fun i H => kvs.length ≤ i ∧ H a = some (.frz o (.dK kvs))⟩
theorem dict_at {X : Cx} {pins : List (Addr × Obj)} {σ : St} {H : Hp} {s : Shared} {a : Addr} {o : Obj} {kvs : List (Key × V)} {es : Array DictEntry} {ep : Nat} (I : Inv X pins σ H s) (ha : H a = some (.frz o (.dK kvs))) (hd : o.data = .dict es ep) :
    ∃ vs, KV kvs vs ∧ s.heap.DictAt (mixKind X.prog X.w) a vs ep := by
  obtain ⟨ho, hz, hm, vs, hkv, o', es', ep', ho', ex, hd', r⟩ := I.hok a _ ha
  rw [ho] at ho'
  cases ho'
  rw [hd] at hd'
  cases hd'
  exact ⟨vs, hkv, o, es, ho, ex, hd, r⟩
theorem turn_vals {P : Program} {w : World} {K : PySem.W.Frag} {tg : Expr} (it a : Addr) (o : Obj) (kvs : List (Key × V)) (es : Array DictEntry) (ep : Nat) (hd : o.data = .dict es ep) :
    Turn P w K tg (Itv a o kvs) [it] it (fun i h => h.IsValIter it a i kvs.length ep) where
  mem := by simp
  obj := fun i h st b hb => by
    have e : b = it := by simpa using hb
    subst e
    obtain ⟨o, e, c, d⟩ := st
    exact ⟨o, e, fun v z => by rw [d] at z; cases z⟩
  keep := fun i h h' st k => by
    obtain ⟨o, e, r⟩ := st
    exact ⟨o, k it (by simp) o e, r⟩
  item := by
    intro X hP hw hK hc i pins s σ H E I hf st hg
    subst hP hw hK
    obtain ⟨f0, f1, f2, f3, f4, f5⟩ := hf it (by simp)
    obtain ⟨hi, ha⟩ := hg
    obtain ⟨vs, hkv, hat⟩ := dict_at I ha hd
    have hl := hkv.length
    have hx : kvs[i]? = some (kvs[i].1, kvs[i].2) := List.getElem?_eq_getElem hi
    obtain ⟨u, hu, ru⟩ := KV.get2 hkv hx
    rw [hl] at st
    refine wpAny_pyNext_values_item (knd := mixKind X.prog X.w) st hat hu fun h' st' sb => ?_
    have I1 : Inv X pins σ H { s with heap := h' } := I.turned (t' := s.toks) (fun b o hb e => (sb.2 b hb).trans e) f0 f1 f3 f4 f5
    obtain ⟨o', e, c, d⟩ := id st'
    rw [← hl] at st'
    exact ⟨u, rfl, go_of (s := { s with heap := h' }) e c d (by decide) ⟨kvs[i].2, H, I1, ru, ⟨rfl, _, hx⟩, st', fun b hb => (hf b hb).1⟩⟩
  done := by
    intro X hP hw hK hc i pins s σ H E I hf st hg
    subst hP hw hK
    obtain ⟨f0, f1, f2, f3, f4, f5⟩ := hf it (by simp)
    obtain ⟨hi, ha⟩ := hg
    obtain ⟨vs, hkv, hat⟩ := dict_at I ha hd
    have hl := hkv.length
    rw [hl] at st
    exact wpAny_pyNext_values_end (knd := mixKind X.prog X.w) (I.ok.hd hc) st hat (List.getElem?_eq_none (by lia)) fun h' eb => ⟨rfl, I.turned (t' := s.toks) (fun b o hb e => eb b o hb e) f0 f1 f3 f4 f5⟩
  self := fun _ _ _ _ _ st h => wpAny_pyIter_valiter st h
noncomputable def iVals (tl : TE) : TI := fun σ H R => tl σ H fun x H1 => ∃ v a kvs, x = .ref v ∧ H1 v = some (viewO v a) ∧ H1 a = some (.dK kvs) ∧ ∀ o, R (Itv a o kvs) (upd H1 a (.frz o (.dK kvs)))
theorem pi_vals {X : Cx} {tg l : Expr} {tl : TE} (hl : PE X l tl) : PI X tg l (iVals tl) := by
  intro pins s σ H R I h
  refine thn (hl pins s σ H _ I h) fun u s1 hp0 => ?_
  obtain ⟨x, H1, I1, r1, q1⟩ := hp0
  obtain ⟨v, a, kvs, rfl, hv, ha, q⟩ := q1
  cases r1
  obtain ⟨hz, hm, vs, hkv, o, es, ep, ho, ex, hd, r⟩ := dk_of I1.hok ha
  have hat : s1.heap.DictAt (mixKind X.prog X.w) a vs ep := ⟨o, es, ho, ex, hd, r⟩
  obtain ⟨view, _, _⟩ := I1.hok v _ hv
  have hl' := hkv.length
  refine wpAny_pyIter_values (knd := mixKind X.prog X.w) view hat ⟨s1.heap.objs.size, [s1.heap.objs.size], _, _, upd H1 a (.frz o (.dK kvs)), rfl, (I1.freeze ha ho).kept (t' := s1.toks) (fun b o e => Heap.get?_push_of_some _ e), turn_vals _ a o kvs es ep hd, ⟨_, Heap.get?_push_size _ rfl, rfl, by rw [hl'] <;> rfl⟩, fun b hb => ?_, q o⟩
  have e : b = s1.heap.objs.size := by simpa using hb
  subst e
  exact (I1.freeze ha ho).fpOk (Nat.le_refl _) ((I1.freeze ha ho).hok.fresh (Nat.le_refl _))
noncomputable def RdK (K : PySem.W.Frag) (v : V) (d : PyData) : Prop := ∀ (h : Heap) (u : Value), K.In h → RelV v u → ∃ as, Reads h u d as
noncomputable def absAll : List Value → Option (List V)
  | [] => some []
  | u :: r => match absV u, absAll r with
    | some v, some vs => some (v :: vs)
    | _, _ => none
theorem rel_abs {u : Value} {v : V} (h : absV u = some v) : RelV v u := by
  cases u with
  | none => cases h; rfl
  | bool b => cases h; rfl
  | int i t => cases h; exact ⟨t, rfl⟩
  | str x t => cases h; exact ⟨t, rfl⟩
  | bytes b t => cases h; exact ⟨t, rfl⟩
  | float b t => cases h; exact ⟨t, rfl⟩
  | ref a => cases h; rfl
  | type n => cases h; rfl
  | _ => cases h
theorem vals_abs : ∀ {us : List Value} {vs : List V}, absAll us = some vs → Vals vs us
  | [], _, h => by cases h; exact .nil
  | u :: r, vs, h => by
    unfold absAll at h
    cases e1 : absV u with
    | none => rw [e1] at h; cases h
    | some v =>
      cases e2 : absAll r with
      | none => rw [e1, e2] at h; cases h
      | some ws =>
        rw [e1, e2] at h
        cases h
        exact .cons (rel_abs e1) (vals_abs e2)
noncomputable def flatD : V → Option PyData
  | .non => some .none
  | .int i => some (.int i)
  | .str x => some (.str x)
  | _ => none
theorem reads_flat {h : Heap} {v : V} {d : PyData} {u : Value} (e : flatD v = some d) (r : RelV v u) : ∃ as, Reads h u d as := by
  cases v with
  | non => cases e; cases r; exact ⟨_, .none⟩
  | int i => cases e; obtain ⟨t, rfl⟩ := r; exact ⟨_, .int i t⟩
  | str x => cases e; obtain ⟨t, rfl⟩ := r; exact ⟨_, .str x t⟩
  | _ => cases e
theorem reads_all {h : Heap} : ∀ {vs : List V} {ds : List PyData} {us : List Value}, Vals vs us → Paired (fun v d => ∀ u, RelV v u → ∃ as, Reads h u d as) vs ds → ∃ as, ReadsAll h us ds as
  | _, _, _, .nil, .nil => ⟨_, .nil⟩
  | _, _, _, .cons r1 r2, .cons p1 p2 => by
    obtain ⟨as, a⟩ := p1 _ r1
    obtain ⟨bs, b⟩ := reads_all r2 p2
    exact ⟨_, .cons a b⟩
theorem rdK_tup {K : PySem.W.Frag} {a : Addr} {od : Option Addr} {its : Array Value} {n : Nat} {sl : Array (Option Value)} {vs : List V} {ds : List PyData} (l : K.lookup a = some ⟨.type "tuple", od, .seq its n, sl⟩) (ab : absAll its.toList = some vs) (r : Paired (RdK K) vs ds) : RdK K (.ref a) (.tuple ds) := by
  intro h u kin ru
  cases ru
  have go : ∀ {vs : List V} {ds : List PyData}, Paired (RdK K) vs ds → Paired (fun v d => ∀ u, RelV v u → ∃ as, Reads h u d as) vs ds := by
    intro vs ds p
    induction p with
    | nil => exact .nil
    | cons a _ ih => exact .cons (fun u ru => a h u kin ru) ih
  obtain ⟨as, q⟩ := reads_all (h := h) (vals_abs ab) (go r)
  exact ⟨as, .tuple (kin a _ l) rfl rfl q⟩
theorem rdK_flat {K : PySem.W.Frag} {v : V} {d : PyData} (e : flatD v = some d) : RdK K v d := fun _ _ _ r => reads_flat e r
section
variable {X : Cx}
noncomputable def rNotInD (K : PySem.W.Frag) : R2 := fun x y H Q => ∃ d ds, RdV H x d ∧ RdK K y (.tuple ds) ∧ PySem.SeqAt.shaped d = true ∧ PySem.SeqAt.shaped (PyData.tuple ds) = true ∧ Q (.bl (!ds.any fun e => PyData.eqv e d)) H
theorem op_notinD (hu : X.A.units + 65 < cLine) : OpR X (compareOp .NotIn) (rNotInD X.K) := by
  intro pins s σ H x y v u Q I rx ry h
  obtain ⟨d, ds, r1, r2, h1, h2, q⟩ := h
  obtain ⟨as, a⟩ := r1.reads I.hok rx
  obtain ⟨bs, b⟩ := r2 s.heap u I.kIn ry
  exact PySem.SeqAt.notIn_tuple_reads b a (PySem.SeqAt.canLay_of_shaped h2) (PySem.SeqAt.canLay_of_shaped h1) (room_in_shaped h1 hu) ⟨.bl _, H, I, rfl, q⟩
theorem strsAre_of : ∀ {ys : List Str} {us : List Value}, Vals (ys.map V.str) us → StrsAre us ys
  | [], _, h => by cases h; exact .nil
  | y :: ys, _, h => by
    cases h with
    | cons r t =>
      obtain ⟨tk, rfl⟩ := r
      exact .cons y tk (strsAre_of t)
theorem mt_join : MtR X "str.join" (fun x xs H Q => ∃ a p ys, x = .str a ∧ xs = [.ref p] ∧ SqL X.K H p (ys.map V.str) ∧ (ys.map (·.length)).sum + ys.length * a.length ≤ 16777216 ∧ Q (.str (Txt.join a ys)) H) := by
  intro pins s σ H x xs v us Q I rx rv h
  obtain ⟨a, p, ys, rfl, rfl, hp, hz, q⟩ := h
  obtain ⟨t, rfl⟩ := rx
  obtain ⟨u, rfl, ru⟩ := vals1 rv
  cases ru
  obtain ⟨its, r, pl, _⟩ := I.list hp
  exact join_list pl.isList (by simpa using strsAre_of r) hz fun t' k => ⟨.str _, H, I.tok k, ⟨t', rfl⟩, q⟩
end
theorem bt_list : bootBuiltins "list" = some (.type "list") := by decide +kernel
theorem bt_set : bootBuiltins "set" = some (.type "set") := by decide +kernel
theorem bt_all : bootBuiltins "all" = some (.builtin "all") := by decide +kernel
end L2
namespace ZN
open PySem PyProof.Rows
end ZN
namespace L2
open PySem PySem.Spec PyProof.Rows
end L2
namespace ZN
open PySem PyProof.Rows
end ZN
namespace L2
open PySem PySem.Spec PyProof.Rows
section
variable {X : Cx}
theorem rd_list {P : Program} {w : World} {H : Hp} {h : Heap} (ok : HOk P w H h) {a : Addr} {xs : List Str} (e : H a = some (.lst (xs.map V.str))) : ∃ as, Reads h (.ref a) (.list (xs.map PyData.str)) as := by
  obtain ⟨z, its, n, r, ho⟩ := ok a _ e
  obtain ⟨as, ra⟩ := RdVs.reads ok (RdVs.strs (H := H) xs) r
  exact ⟨_, .list ho rfl rfl (by simpa using ra)⟩
theorem call_isiT : CallR X (.builtin "isinstance") (fun xs H Q => ∃ a ys, xs = [.ref a, .ty "tuple"] ∧ H a = some (.tup ys) ∧ Q (.bl true) H) := by
  intro pins s σ H xs us Q I r h
  obtain ⟨a, ys, rfl, ha, q⟩ := h
  obtain ⟨u1, u2, rfl, r1, r2⟩ := vals2 r
  cases r1
  cases r2
  obtain ⟨z2, its2, r2, o, ho, hc, n2, hd⟩ := I.hok a _ ha
  exact PySem.IsiPair.tuple_tuple ho hc ⟨.bl true, H, I, rfl, q⟩
end
end L2
namespace L2
open PySem PySem.Spec PyProof.Rows
theorem cut_from {xs : List V} {k : Nat} (h : k ≤ xs.length) : cutV xs (some ((k : Nat) : Int)) none = xs.drop k := by
  unfold cutV
  rw [HT.sIx_none, HT.sIx_nat, Nat.min_eq_left h]
  refine List.take_of_length_le ?_
  rw [List.length_drop]
  exact Nat.le_refl _
end L2
namespace L2
open PySem PySem.Spec PyProof.Rows PySem.W
end L2
namespace L2
open PySem PySem.Spec PyProof.Rows PySem.W
end L2
namespace L2
open PySem PySem.Spec PyProof.Rows PySem.W
section
variable {X : Cx}
theorem call_isiB : CallR X (.builtin "isinstance") (fun xs H Q => ∃ b, xs = [.bl b, .ty "bool"] ∧ Q (.bl true) H) := by
  intro pins s σ H xs us Q I r h
  obtain ⟨b, rfl, q⟩ := h
  obtain ⟨u1, u2, rfl, r1, r2⟩ := vals2 r
  cases r1
  cases r2
  exact PySem.IsiPair.bool_bool ⟨.bl true, H, I, rfl, q⟩
end
end L2
namespace L2
open PySem PySem.Spec PyProof.Rows
section
variable {X : Cx}
theorem mt_index : MtR X "list.index" (fun x xs H Q => ∃ (l : Addr) (ys : List Str) (y : Str) (j : Nat), x = .ref l ∧ xs = [.str y] ∧ H l = some (.lst (ys.map V.str)) ∧ ys[j]? = some y ∧ (∀ m, m < j → ys[m]? ≠ some y) ∧ Q (.int (j : Int)) H) := by
  intro pins s σ H x xs v us Q I rx rv h
  obtain ⟨l, ys, y, j, rfl, rfl, hH, hj, hno, q⟩ := h
  cases rx
  obtain ⟨u, rfl, ru⟩ := rv.one
  obtain ⟨z, its, n, r, hl, e⟩ := I.lstM hH
  rw [List.length_map] at hl z
  have hs : sizeLine = 16777216 := sizeLine_eq
  have key : ∀ (m : Nat) (y' : Str) (hm : m < its.toArray.size), ys[m]? = some y' → eqU (.str y) its.toArray[m] = (y' == y) := fun m y' hm e1 => by
    obtain ⟨u', e2, r2⟩ := r.get (i := m) (x := .str y') (by rw [List.getElem?_map, e1]; rfl)
    have e3 : its.toArray[m] = u' := by
      obtain ⟨_, h⟩ := List.getElem?_eq_some_iff.mp e2
      simpa using h
    rw [e3, eqU_of r2 rfl]
    rfl
  have hjl : j < ys.length := (List.getElem?_eq_some_iff.mp hj).1
  refine call_meets PySem.F.slot_list_index ⟨_, e, rfl⟩ PySem.F.entry_list_index (PySem.F.args_list_index_2 _ _) (PySem.SeqAt.list_indexAt l its.toArray n none #[] u (eqU (.str y)) j (by rw [List.size_toArray]; lia) (by lia) ?_ ?_) ⟨e, fun w hw => mem_eqAt ru rfl r (Rk.flat_strs ys) w (by simpa using hw), ?_⟩
  · rw [key j y _ hj]
    exact beq_self_eq_true y
  · intro m hm hlt
    have hm' : m < ys.length := by lia
    rw [key m ys[m] hm (List.getElem?_eq_getElem hm')]
    have hne := hno m hlt
    rw [List.getElem?_eq_getElem hm'] at hne
    exact beq_eq_false_iff_ne.mpr fun z => hne (by rw [z])
  · exact ⟨.int (j : Int), H, I.tok _, ⟨_, rfl⟩, q⟩
theorem iteS {A B : Prop} {x y : Str} (h : x = y) (a : A) : if decide (V.str x = V.str y) = true then A else B := by
  rw [decide_eq_true (by rw [h])]
  exact a
theorem iteN {A B : Prop} {x y : Str} (h : ¬ x = y) (b : B) : if decide (V.str x = V.str y) = true then A else B := by
  rw [decide_eq_false (fun z => h (V.str.inj z))]
  exact b
theorem dec_s (x y : Str) : decide (V.str x = V.str y) = decide (x = y) := by
  by_cases h : x = y
  · rw [decide_eq_true h, decide_eq_true (by rw [h])]
  · rw [decide_eq_false h, decide_eq_false (fun z => h (V.str.inj z))]
end
end L2
namespace L2
open PySem PySem.Spec PyProof.Rows
section
variable {X : Cx}
theorem lst_new {Q : Hp → Prop} {H : Hp} {l : Addr} (ys : List Str) (xs : List V) (hx : xs = ys.map V.str) (hl : H l = none) (h : ∀ H', Same H H' → H' l = some (.lst (ys.map V.str)) → Q H') : Q (upd H l (.lst xs)) := by
  subst hx
  exact h _ (Same.new hl) upd_same
end
end L2
namespace L2
open PySem PySem.Spec PyProof.Rows
end L2
namespace SK
end SK
namespace L2
open PySem
end L2
namespace HT
open PySem PySem.Spec PyProof.Rows
section
variable {prog : Program} {w : World} {A : Around} {E : Value → Shared → Prop} {s : Shared}
theorem getItem_tuple_same {t sl : Addr} {items : Array Value} {vl vu : Value} {lo hi : Option Int} {Q : Value → Shared → Prop} (ht : IsTup s.heap t items) (hs : s.heap.IsSliceOf sl vl vu .none) (pl : IsPart vl lo) (pu : IsPart vu hi)
    (hw : sIx items.size 0 lo = 0 ∧ sIx items.size items.size hi = items.size) (h : Q (.ref t) s) : wpAny (model prog w) A (getItem (.ref t) (.ref sl)) Q E s := by
  obtain ⟨os, hos, hcs, hds⟩ := id hs
  have hTs : s.TypeIs (.ref sl) "slice" := ⟨os, hos, hcs⟩
  unfold getItem
  try with_reducible refine wpAny_holding ?_
  first | refine wpAny_bind (wpAny_pure ?_) | skip
  refine wpAny_bind (wpAny_sequenceKey ht.typeIs (by decide) ?_)
  refine wpAny_bind (wpAny_callSpecial?_slot (name := Str.ofString "__getitem__") ht.typeIs PyProof.Rows.slot_tuple_getitem
    (wpAny_call_entry PyProof.Rows.slot_tuple_getitem ht.typeIs entry_tuple_getitem ?_ (args_tuple_getitem _ _)))
  show wpAny _ _ (Builtin.Tuple.tupleItemsOf (.ref t) >>= _) _ _ s
  refine wpAny_bind (tupleItemsOf_ ht ?_)
  refine wpAny_bind (wpAny_typeOf hTs ?_)
  rw [if_pos (by decide)]
  refine wpAny_bind (sliceApplied_gen hs pl pu ?_)
  have hyes : (((sIx items.size 0 lo : Nat) : Int) == 0 && (1 : Int) == 1 && (sIx items.size items.size hi - sIx items.size 0 lo) == items.size) = true := by
    rw [hw.1, hw.2]
    simp
  show wpAny _ _ (if (((sIx items.size 0 lo : Nat) : Int) == 0 && (1 : Int) == 1 && (sIx items.size items.size hi - sIx items.size 0 lo) == items.size) = true then _ else _) _ _ s
  rw [if_pos hyes]
  refine wpAny_bind (m := Builtin.Tuple.tupleIsExact _) (wpAny_bind (wpAny_typeOf ht.typeIs (wpAny_pure ?_)))
  rw [if_pos (by decide)]
  exact wpAny_bind (wpAny_rule (wpAny_pure ⟨_, rfl, wpAny_pure h⟩))
end
end HT
namespace L2
open PySem PySem.Spec PyProof.Rows
section
variable {X : Cx}
noncomputable def rSlA (K : PySem.W.Frag) : V → Option Int → Option Int → Hp → VK → Prop := fun x lo hi H Q => ∃ a xs, x = .ref a ∧ SqT K H a xs ∧
  ((HT.sIx xs.length 0 lo = 0 ∧ HT.sIx xs.length xs.length hi = xs.length) → Q (.ref a) H) ∧ (¬ (HT.sIx xs.length 0 lo = 0 ∧ HT.sIx xs.length xs.length hi = xs.length) → ∀ p, H p = none → Q (.ref p) (upd H p (.tup (cutV xs lo hi))))
theorem sl_tupA : SlR X (rSlA X.K) := by
  intro pins s σ H x v vl vu lo hi sl Q I rx hs pl pu h
  obtain ⟨a, xs, rfl, hx, q1, q2⟩ := h
  by_cases hw : HT.sIx xs.length 0 lo = 0 ∧ HT.sIx xs.length xs.length hi = xs.length
  · cases rx
    obtain ⟨its, r, ht, hz⟩ := I.tuple hx
    have hlen : its.toArray.size = xs.length := by rw [List.size_toArray]; exact r.length.symm
    refine ⟨"tuple", _, PyProof.Rows.slot_tuple_getitem.lookup, ht.typeIs, ?_⟩
    exact HT.getItem_tuple_same ht hs pl pu (by rw [hlen]; exact hw) ⟨.ref a, H, I, rfl, q1 hw⟩
  · exact sl_tup pins s σ H _ v vl vu lo hi sl Q I rx hs pl pu ⟨a, xs, rfl, hx, hw, q2 hw⟩
theorem sl_tupAK (K : PySem.W.Frag) (h : X.K = K) : SlR X (rSlA K) := by
  subst h
  exact sl_tupA
theorem op_eqL (hu : X.A.units + 64 < cLine) : OpR X (compareOp .Eq) (fun x y H Q => ∃ (a b : Addr) (xs ys : List Str), x = .ref a ∧ y = .ref b ∧ H a = some (.lst (xs.map V.str)) ∧ H b = some (.lst (ys.map V.str)) ∧ PySem.SeqAt.shaped (.list (xs.map PyData.str)) = true ∧
    PySem.SeqAt.shaped (.list (ys.map PyData.str)) = true ∧ Q (.bl (PyData.eqv (.list (xs.map PyData.str)) (.list (ys.map PyData.str)))) H) := by
  intro pins s σ H x y v u Q I rx ry h
  obtain ⟨a, b, xs, ys, rfl, rfl, ha, hb, h1, h2, q⟩ := h
  cases rx
  cases ry
  obtain ⟨as, ra⟩ := rd_list I.hok ha
  obtain ⟨bs, rb⟩ := rd_list I.hok hb
  exact PySem.SeqAt.compareEq_shaped ra rb h1 h2 hu ⟨.bl _, H, I, rfl, q⟩
theorem rd_listD {P : Program} {w : World} {H : Hp} {h : Heap} (ok : HOk P w H h) {a : Addr} {us : List V} {ds : List PyData} (e : H a = some (.lst us)) (r : RdVs H us ds) : ∃ as, Reads h (.ref a) (.list ds) as := by
  obtain ⟨z, its, n, rv, ho⟩ := ok a _ e
  obtain ⟨as, ra⟩ := RdVs.reads ok r rv
  exact ⟨_, .list ho rfl rfl (by simpa using ra)⟩
noncomputable def rInD (neg : Bool) : R2 := fun x y H Q => ∃ (a : Addr) (us : List V) (d : PyData) (ds : List PyData), y = .ref a ∧ H a = some (.lst us) ∧ RdVs H us ds ∧ RdV H x d ∧ PySem.SeqAt.shaped d = true ∧ PySem.SeqAt.shaped (PyData.list ds) = true ∧ Q (.bl (neg ^^ (ds.any fun e => PyData.eqv e d))) H
theorem op_inD (hu : X.A.units + 65 < cLine) : OpR X (compareOp .In) (rInD false) := by
  intro pins s σ H x y v u Q I rx ry h
  obtain ⟨a, us, d, ds, rfl, ha, rs, rd, h1, h2, q⟩ := h
  cases ry
  obtain ⟨as, ra⟩ := rd_listD I.hok ha rs
  obtain ⟨bs, rb⟩ := rd.reads I.hok rx
  refine PySem.SeqAt.in_list_reads ra rb (PySem.SeqAt.canLay_of_shaped h2) (PySem.SeqAt.canLay_of_shaped h1) (room_in_shaped h1 hu) ⟨.bl _, H, I, rfl, ?_⟩
  simpa using q
theorem call_any (hc : X.calm = true) : CallR X (.builtin "any") (fun xs H Q => ∃ (p : Addr) (bs : List Bool), xs = [.ref p] ∧ SqL X.K H p (bs.map V.bl) ∧ Q (.bl (bs.any fun b => b)) H) := by
  intro pins s σ H xs us Q I r h
  obtain ⟨p, bs, rfl, hp, q⟩ := h
  obtain ⟨u, rfl, ru⟩ := vals1 r
  cases ru
  obtain ⟨its, rv, pl, hz⟩ := I.list hp
  have hlen := rv.length
  rw [List.length_map] at hlen
  have hlt : p < s.heap.objs.size := by
    obtain ⟨o, n, e, _⟩ := pl
    exact Heap.lt_size e
  refine call_any_walk (wpAny_pyIter_list pl.isList ⟨s.heap.objs.size, _, _, _, _, _, fun i => bs.getD i false, rfl, Walks.list (show X.A.in1.handled = none from I.ok.hd hc) _ p (Nat.ne_of_lt hlt) its.toArray, ⟨⟨_, Heap.get?_push_size _ rfl, rfl, rfl⟩, pl.isList.push _⟩, fun i v s2 Q2 E2 hP hQ => ?_, fun h' tk hk => ?_⟩)
  · have hi : its[i]? = some v := by simpa using hP
    have hib : i < bs.length := by
      have := (List.getElem?_eq_some_iff.mp hi).1
      lia
    obtain ⟨u', hu', ru⟩ := rv.get (i := i) (x := .bl bs[i]) (by simp [hib])
    rw [hi] at hu'
    cases hu'
    cases ru
    refine wpAny_truthy_bool ?_
    have e : bs.getD i false = bs[i] := by simp [List.getD, hib]
    rw [← e]
    exact hQ
  · refine ⟨.bl _, H, I.kept (t' := tk) (fun b o e => hk b o ?_ (Heap.get?_push_of_some _ e)), rfl, ?_⟩
    · intro z
      rw [List.mem_singleton] at z
      exact absurd (Heap.lt_size e) (by rw [z]; exact Nat.lt_irrefl _)
    · have e : (List.range its.toArray.size).any (fun i => bs.getD i false) = bs.any fun b => b := by
        rw [List.size_toArray, ← hlen]
        (rw [Bool.eq_iff_iff, List.any_eq_true, List.any_eq_true])
        constructor
        · rintro ⟨i, hi, a⟩
          (have hi' := List.mem_range.mp hi)
          exact ⟨bs[i], List.getElem_mem hi', by simpa [List.getD, hi'] using a⟩
        · rintro ⟨b, hb, a⟩
          (obtain ⟨i, hi, rfl⟩ := List.getElem_of_mem hb)
          exact ⟨i, List.mem_range.mpr hi, by simpa [List.getD, hi] using a⟩
      rw [e]
      exact q
theorem bt_any : bootBuiltins "any" = some (.builtin "any") := by decide +kernel
end
end L2
namespace ZT
open PySem PyProof.Rows
noncomputable abbrev zR (r0 : Addr) (bo : Bool) (p q : Addr) : Obj := { cls := .type "zip", dict := none, data := .fields #[rawInt r0, .bool bo, .bool false, .ref p, .ref q], slots := #[] }
section
variable {prog : Program} {w : World} {A : Around} {E : Value → Shared → Prop} {s : Shared}
theorem loadAlive {M : Model} {a : Addr} {Q : Option Obj → Shared → Prop} (h : Q (s.heap.get? a) s) : wpAny M A (loadIfAlive a) Q E s := fun Γ p _ => by
  unfold loadIfAlive
  rw [Sem.wp_loadIfAlive]
  exact h
theorem step_endY {z p q i j a b : Addr} {k : Nat} {xs ys : Array Value} {x x0 y0 : Value} {Q : Fin → Shared → Prop} (hh : A.handled = none) (D : Apart z p q i j)
    (hz : IsZip s.heap z p q .none) (hp : IsPair s.heap p (.ref i) (.ref j)) (hq : IsPair s.heap q x0 y0) (hi : s.heap.IsTupleIter i a k) (hj : s.heap.IsTupleIter j b k)
    (ha : s.heap.IsTuple a xs) (hb : s.heap.IsTuple b ys) (na : a ≠ z ∧ a ≠ q ∧ a ≠ i ∧ a ≠ j) (nb : b ≠ z ∧ b ≠ q ∧ b ≠ i ∧ b ≠ j) (hx : xs[k]? = some x) (hy : ys[k]? = none)
    (fin : ∀ h' e, (∀ c o, c ≠ z → c ≠ q → c ≠ i → c ≠ j → s.heap.get? c = some o → h'.get? c = some o) → (∃ o, h'.get? e = some o ∧ o.cls = .type "StopIteration") → E (.ref e) { s with heap := h' }) :
    (wpAny (model prog w) A (Builtin.«zip.__next__» ⟨[.ref z], []⟩) Q E s) := by
  (show wpAny _ _ (field (.ref z) 2 >>= _) _ _ _)
  (refine wpAny_bind (wpAny_field hz rfl (x := .bool false) rfl ?_))
  (show wpAny _ _ (field (.ref z) 3 >>= _) _ _ _)
  refine wpAny_bind (wpAny_field hz rfl (x := .ref p) rfl (wpAny_bind (wpAny_seqItems hp rfl ?_)))
  (show wpAny _ _ (Builtin.SmallTypes.ownedTupleIsFree (.ref z) >>= _) _ _ _)
  refine wpAny_bind ?_
  (unfold Builtin.SmallTypes.ownedTupleIsFree)
  (refine wpAny_bind (wpAny_field hz rfl (x := .none) rfl (wpAny_pure ?_)))
  simp only [if_true]
  refine wpAny_bind (wpAny_rule (wpAny_bind (wpAny_field hz rfl (x := .ref q) rfl (wpAny_bind (wpAny_setField_rec hz (by simp) fun h1 z1 b1 => ?_)))))
  replace z1 : IsZip h1 z p q .ellipsis := z1
  refine wpAny_bind ?_
  (simp only [List.zipIdx_cons, List.zipIdx_nil, List.forIn_cons, List.forIn_nil])
  (refine wpAny_bind (wpAny_bind (wpAny_onRaise ?_)))
  show wpAny _ _ (Builtin.SmallTypes.nextOf (.ref i) >>= _) _ _ _
  refine wpAny_bind (next_item (hi.extBut b1.extBut D.iz) (ha.extBut b1.extBut na.1) hx fun h2 i2 b2 => wpAny_pure ?_)
  have q2 : IsPair h2 q x0 y0 := b2.extBut _ _ D.qi (b1.extBut _ _ D.qz hq)
  refine wpAny_bind (wpAny_seqItems q2 rfl (wpAny_bind (wpAny_updateSeq_pair q2 fun h3 q3 b3 => ?_)))
  replace q3 : IsPair h3 q x y0 := q3
  refine wpAny_bind (wpAny_letGo (wpAny_pure (wpAny_bind (wpAny_bind (wpAny_onRaise ?_)))))
  show wpAny _ _ (Builtin.SmallTypes.nextOf (.ref j) >>= _) _ _ _
  have j3 : h3.IsTupleIter j b k := ((hj.extBut b1.extBut D.jz).extBut b2.extBut D.ij.symm).extBut b3.extBut D.qj.symm
  have y3 : h3.IsTuple b ys := ((hb.extBut b1.extBut nb.1).extBut b2.extBut nb.2.2.1).extBut b3.extBut nb.2.1
  refine wpAny_bind (next_end hh j3 y3 hy fun h4 e b4 he => ?_)
  obtain ⟨oe, hoe, hce⟩ := he
  have z4 : IsZip h4 z p q .ellipsis := b4 _ _ D.jz.symm (b3.extBut _ _ D.qz.symm (b2.extBut _ _ D.iz.symm z1))
  have ez : e ≠ z := fun w => by subst w; rw [z4] at hoe; cases hoe; simp at hce
  exact wpAny_setField_rec z4 (by simp) fun h5 _ b5 => fin h5 e (fun c o c1 c2 c3 c4 w => b5.extBut _ _ c1 (b4 _ _ c4 (b3.extBut _ _ c2 (b2.extBut _ _ c3 (b1.extBut _ _ c1 w))))) ⟨oe, b5.extBut _ _ ez hoe, hce⟩
theorem not_free {z p q r0 : Addr} {bo : Bool} {o : Obj} {Q : Bool → Shared → Prop} (hz : s.heap.get? z = some (zR r0 bo p q)) (hr : s.heap.get? r0 = some o)
    (fin : ∀ h', h'.get? z = some (zR r0 true p q) → Heap.SameBut z s.heap h' → Q false { s with heap := h' }) : wpAny (model prog w) A (Builtin.SmallTypes.ownedTupleIsFree (.ref z)) Q E s := by
  (unfold Builtin.SmallTypes.ownedTupleIsFree)
  refine wpAny_bind (wpAny_field hz rfl (x := rawInt r0) rfl ?_)
  show wpAny _ _ (loadIfAlive (Int.toNat r0) >>= _) _ _ s
  refine wpAny_bind (loadAlive ?_)
  rw [show Int.toNat (r0 : Int) = r0 from Int.toNat_natCast r0, hr]
  show wpAny _ _ (field (.ref z) 1 >>= _) _ _ s
  refine wpAny_bind (wpAny_field hz rfl (x := .bool bo) rfl ?_)
  cases bo with
  | true =>
    rw [if_neg (by decide)]
    exact wpAny_pure (fin s.heap hz ⟨rfl, fun _ _ => rfl⟩)
  | false =>
    rw [if_pos (by decide)]
    exact wpAny_bind (wpAny_setField_rec hz (by simp) fun h1 z1 b1 => wpAny_pure (fin h1 z1 b1))
theorem step_more {z p q i j a b r0 : Addr} {bo : Bool} {o : Obj} {k : Nat} {xs ys : Array Value} {x y : Value} {Q : Value → Shared → Prop} (D : Apart z p q i j)
    (hz : s.heap.get? z = some (zR r0 bo p q)) (hr : s.heap.get? r0 = some o) (hp : IsPair s.heap p (.ref i) (.ref j)) (hi : s.heap.IsTupleIter i a k) (hj : s.heap.IsTupleIter j b k)
    (ha : s.heap.IsTuple a xs) (hb : s.heap.IsTuple b ys) (na : a ≠ z ∧ a ≠ q ∧ a ≠ i ∧ a ≠ j) (nb : b ≠ z ∧ b ≠ q ∧ b ≠ i ∧ b ≠ j) (hx : xs[k]? = some x) (hy : ys[k]? = some y)
    (fin : ∀ h', h'.get? z = some (zR r0 true p q) → h'.IsTupleIter i a (k + 1) → h'.IsTupleIter j b (k + 1) → IsPair h' s.heap.objs.size x y →
      (∀ c o, c ≠ z → c ≠ i → c ≠ j → s.heap.get? c = some o → h'.get? c = some o) → Q (.ref s.heap.objs.size) { s with heap := h' }) :
    wpAny (model prog w) A (Builtin.«zip.__next__» ⟨[.ref z], []⟩) (fun f s' => ∃ v, f = .done (.ret v) ∧ Q v s') E s := by
  (show wpAny _ _ (field (.ref z) 2 >>= _) _ _ _)
  (refine wpAny_bind (wpAny_field hz rfl (x := .bool false) rfl ?_))
  (show wpAny _ _ (field (.ref z) 3 >>= _) _ _ _)
  refine wpAny_bind (wpAny_field hz rfl (x := .ref p) rfl (wpAny_bind (wpAny_seqItems hp rfl ?_)))
  (show wpAny _ _ (Builtin.SmallTypes.ownedTupleIsFree (.ref z) >>= _) _ _ _)
  refine wpAny_bind (not_free hz hr fun h1 z1 b1 => ?_)
  (simp only [Bool.false_eq_true, if_false])
  refine wpAny_bind ?_
  simp only [List.forIn_toArray, List.forIn_cons, List.forIn_nil]
  refine wpAny_bind (wpAny_bind (wpAny_holding ?_))
  show wpAny _ _ (Builtin.SmallTypes.nextOf (.ref i) >>= _) _ _ _
  refine wpAny_bind (next_item (hi.extBut b1.extBut D.iz) (ha.extBut b1.extBut na.1) hx fun h2 i2 b2 => wpAny_pure ?_)
  refine wpAny_pure (wpAny_bind (wpAny_bind (wpAny_holding ?_)))
  show wpAny _ _ (Builtin.SmallTypes.nextOf (.ref j) >>= _) _ _ _
  refine wpAny_bind (next_item ((hj.extBut b1.extBut D.jz).extBut b2.extBut D.ij.symm) ((hb.extBut b1.extBut nb.1).extBut b2.extBut nb.2.2.1) hy fun h3 j3 b3 => wpAny_pure ?_)
  (refine wpAny_pure (wpAny_pure ?_))
  refine wpAny_bind (wpAny_newTuple ?_ (by show 2 ≤ sizeLine; decide))
  have sz : h3.objs.size = s.heap.objs.size := by rw [b3.1, b2.1, b1.1]
  (refine wpAny_pure ⟨_, rfl, ?_⟩)
  show Q (.ref h3.objs.size) { s with heap := h3.push { cls := .type "tuple", data := .seq #[x, y] } }
  rw [sz]
  have i3 := i2.extBut b3.extBut D.ij
  have z3 : h3.get? z = some (zR r0 true p q) := b3.extBut _ _ D.jz.symm (b2.extBut _ _ D.iz.symm z1)
  obtain ⟨oi, ei, ri⟩ := i3
  obtain ⟨oj, ej, rj⟩ := j3
  refine fin _ (Heap.get?_push_of_some _ z3) ⟨oi, Heap.get?_push_of_some _ ei, ri⟩ ⟨oj, Heap.get?_push_of_some _ ej, rj⟩ ?_ fun c o c1 c2 c3 e => Heap.get?_push_of_some _ (b3.extBut _ _ c3 (b2.extBut _ _ c2 (b1.extBut _ _ c1 e)))
  rw [← sz]
  exact Heap.get?_push_size _ rfl
theorem step_moreEnd {z p q i j a b r0 : Addr} {bo : Bool} {o : Obj} {k : Nat} {xs ys : Array Value} {x : Value} {Q : Fin → Shared → Prop} (hh : A.handled = none) (D : Apart z p q i j)
    (hz : s.heap.get? z = some (zR r0 bo p q)) (hr : s.heap.get? r0 = some o) (hp : IsPair s.heap p (.ref i) (.ref j)) (hi : s.heap.IsTupleIter i a k) (hj : s.heap.IsTupleIter j b k)
    (ha : s.heap.IsTuple a xs) (hb : s.heap.IsTuple b ys) (na : a ≠ z ∧ a ≠ q ∧ a ≠ i ∧ a ≠ j) (nb : b ≠ z ∧ b ≠ q ∧ b ≠ i ∧ b ≠ j) (hx : xs[k]? = some x) (hy : ys[k]? = none)
    (fin : ∀ h' e, (∀ c o, c ≠ z → c ≠ q → c ≠ i → c ≠ j → s.heap.get? c = some o → h'.get? c = some o) → (∃ o, h'.get? e = some o ∧ o.cls = .type "StopIteration") → E (.ref e) { s with heap := h' }) :
    (wpAny (model prog w) A (Builtin.«zip.__next__» ⟨[.ref z], []⟩) Q E s) := by
  (show wpAny _ _ (field (.ref z) 2 >>= _) _ _ _)
  (refine wpAny_bind (wpAny_field hz rfl (x := .bool false) rfl ?_))
  (show wpAny _ _ (field (.ref z) 3 >>= _) _ _ _)
  refine wpAny_bind (wpAny_field hz rfl (x := .ref p) rfl (wpAny_bind (wpAny_seqItems hp rfl ?_)))
  (show wpAny _ _ (Builtin.SmallTypes.ownedTupleIsFree (.ref z) >>= _) _ _ _)
  refine wpAny_bind (not_free hz hr fun h1 z1 b1 => ?_)
  (simp only [Bool.false_eq_true, if_false])
  refine wpAny_bind ?_
  simp only [List.forIn_toArray, List.forIn_cons, List.forIn_nil]
  refine wpAny_bind (wpAny_bind (wpAny_holding ?_))
  show wpAny _ _ (Builtin.SmallTypes.nextOf (.ref i) >>= _) _ _ _
  refine wpAny_bind (next_item (hi.extBut b1.extBut D.iz) (ha.extBut b1.extBut na.1) hx fun h2 i2 b2 => wpAny_pure ?_)
  refine wpAny_pure (wpAny_bind (wpAny_bind (wpAny_holding ?_)))
  show wpAny _ _ (Builtin.SmallTypes.nextOf (.ref j) >>= _) _ _ _
  refine wpAny_bind (next_end hh ((hj.extBut b1.extBut D.jz).extBut b2.extBut D.ij.symm) ((hb.extBut b1.extBut nb.1).extBut b2.extBut nb.2.2.1) hy fun h3 e b3 he => ?_)
  exact fin h3 e (fun c o c1 _ c3 c4 w => b3 _ _ c4 (b2.extBut _ _ c3 (b1.extBut _ _ c1 w))) he
end
end ZT
namespace F17
open PySem
theorem zip_no_len : typeLookup (.type "zip") "__len__" = pure none := by rw [typeLookup_type, builtinLookup_eq_fast]; kernel_rfl
theorem zip_no_hint : typeLookup (.type "zip") "__length_hint__" = pure none := by rw [typeLookup_type, builtinLookup_eq_fast]; kernel_rfl
end F17
namespace L2
open PySem PySem.Spec PyProof.Rows
section
variable {X : Cx} {pins : List (Addr × Obj)} {σ : St} {H : Hp} {s : Shared}
theorem Inv.trackF {S : Addr} {ob : HO} (I : Inv X pins σ H s) (hf : FpOk X pins H S) (new : ObjOk X.prog X.w (upd H S ob) s.heap S ob) : Inv X pins σ (upd H S ob) s := by
  refine I.step (H' := upd H S ob) (h' := s.heap) (g' := s.gens) (t' := s.toks) (d' := s.drawn) (ch := [S]) (fun b hb => ?_) (fun b o _ _ _ e _ => e) (fun b o _ _ _ e _ => ⟨o.slots, e⟩) (fun b o hc _ n => ?_) (fun b o _ e => ⟨o, e⟩)
    (fun b xs e => by rw [upd_ne (ne_of_none e hf.1)]; exact e) (fun b o xs e => by rw [upd_ne (ne_of_none e hf.1)]; exact e) (fun b ps e => ⟨#[], by rw [upd_ne (ne_of_none e hf.1), e]; simp⟩) (fun m hm => hm) (fun b u e => ?_) I.bare
  · rw [List.mem_singleton] at hb
    subst hb
    exact ⟨hf.2.2.2.1, hf.2.1, hf.2.2.2.2.1, hf.2.2.2.2.2⟩
  · rw [upd_ne (fun z => hc (List.mem_singleton.mpr z))]
    exact n
  · by_cases hb : b = S
    · subst hb
      rw [upd_same] at e
      cases e
      exact new
    · rw [upd_ne hb] at e
      exact (I.hok b u e).stay (fun c v _ q => q) (fun c q => by rw [upd_ne (ne_of_none q hf.1)]; exact q) fun c xs q => by rw [upd_ne (ne_of_none q hf.1)]; exact q
theorem SqT.same {K : PySem.W.Frag} {H H' : Hp} {a : Addr} {xs : List V} (h : SqT K H a xs) (e : Same H H') : SqT K H' a xs := by
  rcases h with (h | ⟨o, h⟩) | h
  · exact .inl (.inl (e _ _ h))
  · exact .inl (.inr ⟨o, e _ _ h⟩)
  · exact .inr h
theorem same_upd {H : Hp} {r : Addr} {o : HO} (h : H r = none) : Same H (upd H r o) := fun b u e => by rw [upd_ne (ne_of_none e h)]; exact e
structure ZSt (z p q i j a b : Addr) (k : Nat) (rs : List Addr) (h : Heap) : Prop where
  hz : (rs = [] ∧ IsZip h z p q .none) ∨ ∃ r0 bo rest, rs = r0 :: rest ∧ h.get? z = some (ZT.zR r0 bo p q)
  hp : IsPair h p (.ref i) (.ref j)
  hq : ∃ x y, IsPair h q x y
  hi : h.IsTupleIter i a k
  hj : h.IsTupleIter j b k
theorem ZSt.keep {z p q i j a b : Addr} {k : Nat} {rs : List Addr} {h h' : Heap} (st : ZSt z p q i j a b k rs h) (kk : ∀ c ∈ [z, p, q, i, j], ∀ o, h.get? c = some o → h'.get? c = some o) : ZSt z p q i j a b k rs h' := by
  obtain ⟨h1, h2, ⟨x, y, h3⟩, ⟨o4, e4, r4⟩, o5, e5, r5⟩ := st
  refine ⟨?_, kk p (by simp) _ h2, ⟨x, y, kk q (by simp) _ h3⟩, ⟨o4, kk i (by simp) _ e4, r4⟩, o5, kk j (by simp) _ e5, r5⟩
  rcases h1 with ⟨h1, h1'⟩ | ⟨r0, bo, rest, h1, h1'⟩
  · exact .inl ⟨h1, kk z (by simp) _ h1'⟩
  · exact .inr ⟨r0, bo, rest, h1, kk z (by simp) _ h1'⟩
theorem ZSt.zp {z p q i j a b : Addr} {k : Nat} {rs : List Addr} {h : Heap} (st : ZSt z p q i j a b k rs h) : ∃ vs, h.get? z = some { cls := .type "zip", dict := none, data := .fields vs, slots := #[] } := by
  rcases st.hz with ⟨_, h1⟩ | ⟨r0, bo, _, _, h1⟩
  · exact ⟨_, h1⟩
  · exact ⟨_, h1⟩
noncomputable def Rows2 (H : Hp) (xs ys : List V) (rs : List Addr) : Prop := ∀ (t : Nat) r, rs[t]? = some r → ∃ x y, xs[t]? = some x ∧ ys[t]? = some y ∧ H r = some (.tup [x, y])
theorem zl_turn {A : Around} {E : Value → Shared → Prop} {z p q i j a b : Addr} {k : Nat} {rs : List Addr} {xs ys : List V} {x y : V} (D : ZT.Apart z p q i j) (I : Inv X pins σ H s) (hf : ∀ c ∈ [z, p, q, i, j], FpOk X pins H c)
    (st : ZSt z p q i j a b k rs s.heap) (qa : SqT X.K H a xs) (qb : SqT X.K H b ys) (hx : xs[k]? = some x) (hy : ys[k]? = some y) (hr : Rows2 H xs ys rs) {Q : Option Value → Shared → Prop}
    (fin : ∀ r h', H r = none → r = s.heap.objs.size → Inv X pins σ (upd H r (.tup [x, y])) { s with heap := h' } → ZSt z p q i j a b (k + 1) (rs ++ [r]) h' → (∀ c o, c ∉ [z, p, q, i, j] → s.heap.get? c = some o → h'.get? c = some o) → Q (some (.ref r)) { s with heap := h' }) :
    wpAny (model X.prog X.w) A (pyNext (.ref z)) Q E s := by
  obtain ⟨h1, h2, ⟨x0, y0, h3⟩, h4, h5⟩ := st
  obtain ⟨its, rv, pa, _⟩ := I.tuple qa
  obtain ⟨jts, rw', pb, _⟩ := I.tuple qb
  obtain ⟨u, hu, ru⟩ := rv.get hx
  obtain ⟨v, hv, rv'⟩ := rw'.get hy
  have off : ∀ (t : Addr) (zs : List V), SqT X.K H t zs → ∀ c ∈ [z, p, q, i, j], t ≠ c := fun t zs ht c hc e => I.fpT ht (e ▸ hf c hc)
  have fr : H s.heap.objs.size = none := I.hok.fresh (Nat.le_refl _)
  have ltz : ∀ c o, s.heap.get? c = some o → s.heap.objs.size ≠ c := fun c o e => Nat.ne_of_gt (Heap.lt_size e)
  have na : a ≠ z ∧ a ≠ q ∧ a ≠ i ∧ a ≠ j := ⟨off a _ qa z (by simp), off a _ qa q (by simp), off a _ qa i (by simp), off a _ qa j (by simp)⟩
  have nb : b ≠ z ∧ b ≠ q ∧ b ≠ i ∧ b ≠ j := ⟨off b _ qb z (by simp), off b _ qb q (by simp), off b _ qb i (by simp), off b _ qb j (by simp)⟩
  have end' : ∀ h' : Heap, (∃ r0 bo rest, rs ++ [s.heap.objs.size] = r0 :: rest ∧ h'.get? z = some (ZT.zR r0 bo p q)) → (∃ x y, IsPair h' q x y) → h'.IsTupleIter i a (k + 1) → h'.IsTupleIter j b (k + 1) → IsPair h' s.heap.objs.size u v →
      (∀ c o, c ≠ z → c ≠ q → c ≠ i → c ≠ j → s.heap.get? c = some o → h'.get? c = some o) → Q (some (.ref s.heap.objs.size)) { s with heap := h' } := fun h' g1 g2 g3 g4 g5 kk => by
    have kall : ∀ c o, c ∉ [z, p, q, i, j] → s.heap.get? c = some o → h'.get? c = some o := fun c o hc e => by
      simp only [List.mem_cons, List.not_mem_nil, or_false, not_or] at hc
      exact kk c o hc.1 hc.2.2.1 hc.2.2.2.1 hc.2.2.2.2 e
    have new : ObjOk X.prog X.w (upd H s.heap.objs.size (.tup [x, y])) h' s.heap.objs.size (.tup [x, y]) :=
      ⟨by show 2 ≤ sizeLine; decide, [u, v], .cons ru (.cons rv' .nil), _, g5, rfl, 0, rfl⟩
    exact fin _ h' fr rfl (I.stepN (t' := s.toks) hf kall new) ⟨.inr g1, kk _ _ D.pz D.pq D.pi D.pj h2, g2, g3, g4⟩ kall
  rcases h1 with ⟨h1, h1'⟩ | ⟨r0, bo, rest, h1, h1'⟩
  · refine ZT.py_item D h1' h2 h3 h4 h5 (show s.heap.IsTuple a its.toArray from pa) (show s.heap.IsTuple b jts.toArray from pb) na nb (x := u) (y := v) (by simpa using hu) (by simpa using hv) fun h' g1 g2 g3 g4 g5 kk => ?_
    exact end' h' ⟨_, false, [], by rw [h1]; rfl, g1⟩ ⟨_, _, g2⟩ g3 g4 g5 kk
  · obtain ⟨_, _, _, _, h0⟩ := hr 0 r0 (by rw [h1]; rfl)
    obtain ⟨_, _, _, o0, e0, _⟩ := I.hok _ _ h0
    have ty : s.TypeIs (.ref z) "zip" := ⟨_, h1', rfl⟩
    unfold pyNext
    refine wpAny_bind (wpAny_attempt (wpAny_callSpecial?_slot (name := Str.ofString "__next__") ty F.slot_zip_next (wpAny_call_entry F.slot_zip_next ty F.entry_zip_next ?_ (F.args_zip_next_1 _))))
    refine ZT.step_more D h1' e0 h2 h4 h5 (show s.heap.IsTuple a its.toArray from pa) (show s.heap.IsTuple b jts.toArray from pb) na nb (x := u) (y := v) (by simpa using hu) (by simpa using hv) fun h' g1 g3 g4 g5 kk => wpAny_pure ?_
    exact end' h' ⟨r0, true, rest ++ [s.heap.objs.size], by rw [h1]; rfl, g1⟩ ⟨_, _, kk _ _ D.qz D.qi D.qj h3⟩ g3 g4 g5 fun c o c1 _ c3 c4 e => kk c o c1 c3 c4 e
theorem zl_end {A : Around} {E : Value → Shared → Prop} (hh : A.handled = none) {z p q i j a b : Addr} {k : Nat} {rs : List Addr} {xs ys : List V} (D : ZT.Apart z p q i j) (I : Inv X pins σ H s) (hf : ∀ c ∈ [z, p, q, i, j], FpOk X pins H c)
    (st : ZSt z p q i j a b k rs s.heap) (qa : SqT X.K H a xs) (qb : SqT X.K H b ys) (hk : k = ys.length) (hxy : ys.length < xs.length ∨ (xs = [] ∧ ys = [])) (hrk : rs.length = k) (hr : Rows2 H xs ys rs) {Q : Option Value → Shared → Prop}
    (fin : ∀ h', Inv X pins σ H { s with heap := h' } → (∀ c o, c ∉ [z, p, q, i, j] → s.heap.get? c = some o → h'.get? c = some o) → Q none { s with heap := h' }) :
    wpAny (model X.prog X.w) A (pyNext (.ref z)) Q E s := by
  obtain ⟨h1, h2, ⟨x0, y0, h3⟩, h4, h5⟩ := st
  obtain ⟨its, rv, pa, _⟩ := I.tuple qa
  obtain ⟨jts, rw', pb, _⟩ := I.tuple qb
  have lx := rv.length
  have ly := rw'.length
  have off : ∀ (t : Addr) (zs : List V), SqT X.K H t zs → ∀ c ∈ [z, p, q, i, j], t ≠ c := fun t zs ht c hc e => I.fpT ht (e ▸ hf c hc)
  have na : a ≠ z ∧ a ≠ q ∧ a ≠ i ∧ a ≠ j := ⟨off a _ qa z (by simp), off a _ qa q (by simp), off a _ qa i (by simp), off a _ qa j (by simp)⟩
  have nb : b ≠ z ∧ b ≠ q ∧ b ≠ i ∧ b ≠ j := ⟨off b _ qb z (by simp), off b _ qb q (by simp), off b _ qb i (by simp), off b _ qb j (by simp)⟩
  have end' : ∀ h' : Heap, (∀ c o, c ≠ z → c ≠ q → c ≠ i → c ≠ j → s.heap.get? c = some o → h'.get? c = some o) → Q none { s with heap := h' } := fun h' kk => by
    have kall : ∀ c o, c ∉ [z, p, q, i, j] → s.heap.get? c = some o → h'.get? c = some o := fun c o hc e => by
      simp only [List.mem_cons, List.not_mem_nil, or_false, not_or] at hc
      exact kk c o hc.1 hc.2.2.1 hc.2.2.2.1 hc.2.2.2.2 e
    exact fin h' (I.stepL (t' := s.toks) hf kall) kall
  have hyn : jts.toArray[k]? = none := by simp; lia
  rcases hxy with hxy | ⟨hxe, hye⟩
  · have hxs : its.toArray[k]? = some (its[k]'(by lia)) := by simp
    rcases h1 with ⟨h1, h1'⟩ | ⟨r0, bo, rest, h1, h1'⟩
    · have ty : s.TypeIs (.ref z) "zip" := ⟨_, h1', rfl⟩
      unfold pyNext
      refine wpAny_bind (wpAny_attempt (wpAny_callSpecial?_slot (name := Str.ofString "__next__") ty F.slot_zip_next (wpAny_call_entry F.slot_zip_next ty F.entry_zip_next ?_ (F.args_zip_next_1 _))))
      refine ZT.step_endY hh D h1' h2 h3 h4 h5 (show s.heap.IsTuple a its.toArray from pa) (show s.heap.IsTuple b jts.toArray from pb) na nb hxs hyn fun h' e f1 f2 => ?_
      obtain ⟨o, ho, hc⟩ := f2
      exact wpAny_bind (wpAny_isInstance (T := "StopIteration") (b := true) ⟨o, ho, hc⟩ isSubtype_stop (wpAny_pure (end' _ f1)))
    · obtain ⟨_, _, _, _, h0⟩ := hr 0 r0 (by rw [h1]; rfl)
      obtain ⟨_, _, _, o0, e0, _⟩ := I.hok _ _ h0
      have ty : s.TypeIs (.ref z) "zip" := ⟨_, h1', rfl⟩
      unfold pyNext
      refine wpAny_bind (wpAny_attempt (wpAny_callSpecial?_slot (name := Str.ofString "__next__") ty F.slot_zip_next (wpAny_call_entry F.slot_zip_next ty F.entry_zip_next ?_ (F.args_zip_next_1 _))))
      refine ZT.step_moreEnd hh D h1' e0 h2 h4 h5 (show s.heap.IsTuple a its.toArray from pa) (show s.heap.IsTuple b jts.toArray from pb) na nb hxs hyn fun h' e f1 f2 => ?_
      obtain ⟨o, ho, hc⟩ := f2
      exact wpAny_bind (wpAny_isInstance (T := "StopIteration") (b := true) ⟨o, ho, hc⟩ isSubtype_stop (wpAny_pure (end' _ f1)))
  · rcases h1 with ⟨h1, h1'⟩ | ⟨r0, bo, rest, h1, h1'⟩
    · exact ZT.py_end hh D h1' h2 h3 h4 h5 (show s.heap.IsTuple a its.toArray from pa) (show s.heap.IsTuple b jts.toArray from pb) na nb (by subst hxe; simp at lx; simp [← lx]) fun h' kk => end' h' kk
    · rw [h1] at hrk
      rw [hye] at hk
      simp at hrk hk
      lia
theorem zl_loop {A : Around} (hh : A.in1.handled = none) {z p q i j a b S : Addr} {xs ys : List V} (D : ZT.Apart z p q i j) (hS5 : S ∉ [z, p, q, i, j]) (hxy : ys.length < xs.length ∨ (xs = [] ∧ ys = [])) (res : Value) {R : Result → Shared → Prop} (H0 : Hp)
    (fin : ∀ s' H' rs c', Inv X pins σ H' s' → Same H0 H' → FpOk X pins H' S → s'.heap.get? S = some { cls := .type "list", dict := none, data := .seq (rs.map Value.ref).toArray c', slots := #[] } → rs.length = ys.length → Rows2 H' xs ys rs → R (.ok (.ret res)) s') :
    ∀ (m k : Nat) (s : Shared) (H : Hp) (rs : List Addr) (c : Nat), ys.length - k = m → k ≤ ys.length → Inv X pins σ H s → (∀ c ∈ S :: [z, p, q, i, j], FpOk X pins H c) → ZSt z p q i j a b k rs s.heap → SqT X.K H a xs → SqT X.K H b ys → Same H0 H →
      s.heap.get? S = some { cls := .type "list", dict := none, data := .seq (rs.map Value.ref).toArray c, slots := #[] } → rs.length = k → Rows2 H xs ys rs →
      codeAny (model X.prog X.w) A (.builtin "list.extend.loop" ⟨[.ref S, .ref z, res], []⟩) R s := by
  intro m
  induction m with
  | zero =>
    intro k s H rs c hm hk I hf st qa qb sm hS hl hr
    (refine codeAny_builtin F.entry_extend_loop ?_)
    (rw [Around.under_plainId F.plain_extend_loop _])
    show wpAny _ A.in1 (pyNext (.ref z) >>= _) _ _ s
    refine wpAny_bind (zl_end hh D I (fun c hc => hf c (List.mem_cons_of_mem _ hc)) st qa qb (by lia) hxy hl hr fun h' I' kk => ?_)
    exact wpAny_pure (fin _ H rs c I' sm (hf S List.mem_cons_self) (kk S _ hS5 hS) (by lia) hr)
  | succ m ih =>
    intro k s H rs c hm hk I hf st qa qb sm hS hl hr
    have hlt : k < ys.length := by lia
    have hltx : k < xs.length := by
      rcases hxy with h | ⟨_, h⟩
      · lia
      · rw [h] at hlt; simp at hlt
    obtain ⟨_, _, _, hsz⟩ := I.tuple qb
    (refine codeAny_builtin F.entry_extend_loop ?_)
    (rw [Around.under_plainId F.plain_extend_loop _])
    show wpAny _ A.in1 (pyNext (.ref z) >>= _) _ _ s
    refine wpAny_bind (zl_turn D I (fun c hc => hf c (List.mem_cons_of_mem _ hc)) st qa qb (List.getElem?_eq_getElem hltx) (List.getElem?_eq_getElem hlt) hr fun r h' fr er I' st' kk => ?_)
    have hS' := kk S _ hS5 hS
    have su : Same H (upd H r (.tup [xs[k], ys[k]])) := same_upd fr
    have hf' : ∀ c ∈ S :: [z, p, q, i, j], FpOk X pins (upd H r (.tup [xs[k], ys[k]])) c := fun c hc => by
      have h0 := hf c hc
      refine ⟨?_, h0.2⟩
      rw [upd_ne]
      · exact h0.1
      · intro e
        have al : ∃ o, s.heap.get? c = some o := by
          rcases List.mem_cons.mp hc with h | h
          · rw [h]; exact ⟨_, hS⟩
          · obtain ⟨h1, h2, ⟨x, y, h3⟩, ⟨o4, e4, _⟩, o5, e5, _⟩ := id st
            simp only [List.mem_cons, List.not_mem_nil, or_false] at h
            rcases h with h | h | h | h | h
            · rw [h]; obtain ⟨vs, g⟩ := st.zp; exact ⟨_, g⟩
            · rw [h]; exact ⟨_, h2⟩
            · rw [h]; exact ⟨_, h3⟩
            · rw [h]; exact ⟨_, e4⟩
            · rw [h]; exact ⟨_, e5⟩
        obtain ⟨o, ho⟩ := al
        exact absurd (Heap.lt_size ho) (by rw [e, er]; exact Nat.lt_irrefl _)
    show wpAny _ A.in1 (updateSeq S (·.push (.ref r)) >>= _) _ _ _
    refine wpAny_bind ?_
    have up : ∀ c o, c ≠ S → h'.get? c = some o → (h'.update S (Obj.mapSeq (·.push (.ref r)))).get? c = some o := fun c o hc e => (Heap.get?_update_other _ _ (Ne.symm hc)).trans e
    have I2 : Inv X pins σ (upd H r (.tup [xs[k], ys[k]])) { s with heap := h'.update S (Obj.mapSeq (·.push (.ref r))) } :=
      Inv.stepL (s := { s with heap := h' }) (t' := s.toks) (ch := [S]) I' (fun c hc => by rw [List.mem_singleton] at hc; rw [hc]; exact hf' S List.mem_cons_self) fun c o hc e => up c o (fun w => hc (List.mem_singleton.mpr w)) e
    have el : (rs.map Value.ref).toArray.push (.ref r) = ((rs ++ [r]).map Value.ref).toArray := by simp
    have hn : (rs.map Value.ref).toArray.size = k := by simp [hl]
    obtain ⟨c2, hc2⟩ : ∃ c2, (h'.update S (Obj.mapSeq (·.push (.ref r)))).get? S = some { cls := .type "list", dict := none, data := .seq ((rs ++ [r]).map Value.ref).toArray c2, slots := #[] } := ⟨_, by rw [← el]; exact Heap.get?_update_self _ hS' rfl⟩
    refine wpAny_updateSeq hS' rfl (wpAny_pure ⟨plainId_quiet F.plain_extend_loop _, ih (k + 1) _ _ (rs ++ [r]) c2 (by lia) hlt I2 hf' (st'.keep fun c hc o e => up c o (fun w => hS5 (w ▸ hc)) e) (qa.same su) (qb.same su) (sm.trans su) hc2 (by simp [hl]) ?_⟩)
      (by rw [hn]; lia) (by show ((rs.map Value.ref).toArray.push (.ref r)).size ≤ sizeLine + 1; rw [Array.size_push, hn]; lia)
    · intro t r' ht
      rcases Nat.lt_or_ge t rs.length with w | w
      · rw [List.getElem?_append_left w] at ht
        obtain ⟨x, y, e1, e2, e3⟩ := hr t r' ht
        exact ⟨x, y, e1, e2, su _ _ e3⟩
      · have tk : t = k := by
          have := (List.getElem?_eq_some_iff.mp ht).1
          simp at this
          lia
        rw [List.getElem?_append_right w, tk, hl, Nat.sub_self] at ht
        cases ht
        exact ⟨_, _, by rw [tk]; exact List.getElem?_eq_getElem hltx, by rw [tk]; exact List.getElem?_eq_getElem hlt, upd_same⟩
theorem zl_call {A : Around} {E : Value → Shared → Prop} (hh : A.handled = none) {z p q i j a b : Addr} {xs ys : List V} (D : ZT.Apart z p q i j) (hxy : ys.length < xs.length ∨ (xs = [] ∧ ys = [])) (I : Inv X pins σ H s) (hf : ∀ c ∈ [z, p, q, i, j], FpOk X pins H c)
    (st : ZSt z p q i j a b 0 [] s.heap) (qa : SqT X.K H a xs) (qb : SqT X.K H b ys) {Q : VK} (qq : ∀ l H' rs, Same H H' → H l = none → H' l = some (.lst (rs.map V.ref)) → rs.length = ys.length → Rows2 H' xs ys rs → Q (.ref l) H') :
    wpAny (model X.prog X.w) A (call (.type "list") [.ref z]) (EP X pins σ Q) E s := by
  have lt5 : ∀ c ∈ [z, p, q, i, j], c < s.heap.objs.size := fun c h => by
    obtain ⟨h1, h2, ⟨x, y, h3⟩, ⟨o4, e4, _⟩, o5, e5, _⟩ := id st
    simp only [List.mem_cons, List.not_mem_nil, or_false] at h
    rcases h with h | h | h | h | h
    · rw [h]; obtain ⟨vs, g⟩ := st.zp; exact Heap.lt_size g
    · rw [h]; exact Heap.lt_size h2
    · rw [h]; exact Heap.lt_size h3
    · rw [h]; exact Heap.lt_size e4
    · rw [h]; exact Heap.lt_size e5
  have hS5 : s.heap.objs.size ∉ [z, p, q, i, j] := fun h => Nat.lt_irrefl _ (lt5 _ h)
  have hSz : s.heap.objs.size ≠ z := fun e => hS5 (by rw [e]; simp)
  have fr : H s.heap.objs.size = none := I.hok.fresh (Nat.le_refl _)
  have fS : FpOk X pins H s.heap.objs.size := I.fpOk (Nat.le_refl _) fr
  refine callType_codes (Q₁ := fun ob sA => ob = .ref s.heap.objs.size ∧ sA = { s with heap := s.heap.push { cls := .type "list", data := .seq #[] } }) F.called_list (F.typeCall_list_1 _) F.entry_list_init
    (code_list_new _ ⟨rfl, rfl⟩) fun ob sA hA => ?_
  obtain ⟨rfl, rfl⟩ := hA
  (have hS : (s.heap.push { cls := .type "list", data := .seq #[] }).get? s.heap.objs.size = some { cls := .type "list", data := .seq #[] } := Heap.get?_push_size _ rfl)
  have I1 : Inv X pins σ H { s with heap := s.heap.push { cls := .type "list", data := .seq #[] } } := I.kept (t' := s.toks) fun b o e => Heap.get?_push_of_some _ e
  have st1 := st.keep (h' := s.heap.push { cls := .type "list", data := .seq #[] }) fun c _ o e => Heap.get?_push_of_some _ e
  refine ⟨⟨_, hS, rfl⟩, F.args_list_init_2 _ _, ?_⟩
  generalize hs1 : ({ s with heap := s.heap.push { cls := .type "list", data := .seq #[] } } : Shared) = s1 at *
  have e1 : s1.heap = s.heap.push { cls := .type "list", data := .seq #[] } := by rw [← hs1]
  rw [← e1] at hS st1
  generalize s.heap.objs.size = S at *
  show wpAny _ A.in1.in1 (do let old ← Builtin.List.listItems (.ref S); Builtin.List.listUpdate (.ref S) (fun _ => #[]); letGo old.toList.reverse; Builtin.List.listExtendWith (.ref S) (.ref z) .none) _ _ s1
  refine wpAny_bind ?_
  unfold Builtin.List.listItems
  (refine wpAny_bind (wpAny_seqItems hS rfl (wpAny_pure ?_)))
  show wpAny _ A.in1.in1 (updateSeq S (fun _ => #[]) >>= fun _ => letGo (#[] : Array Value).toList.reverse >>= fun _ => Builtin.List.listExtendWith (.ref S) (.ref z) .none) _ _ s1
  (refine wpAny_bind (wpAny_updateSeq hS rfl ?_))
  have hS2 := Heap.get?_update_self (Obj.mapSeq (fun _ => (#[] : Array Value))) hS rfl
  have up : ∀ (h : Heap) (f : Array Value → Array Value) c o, c ≠ S → h.get? c = some o → (h.update S (Obj.mapSeq f)).get? c = some o := fun h f c o hc e => (Heap.get?_update_other _ _ (Ne.symm hc)).trans e
  have stp : ∀ (h : Heap) (f : Array Value → Array Value), Inv X pins σ H { s1 with heap := h } → Inv X pins σ H { s1 with heap := h.update S (Obj.mapSeq f) } := fun h f I => Inv.stepL (s := { s1 with heap := h }) (t' := s1.toks) (ch := [S]) I
    (fun c hc => by rw [List.mem_singleton] at hc; rw [hc]; exact fS) fun c o hc e => up h f c o (fun w => hc (List.mem_singleton.mpr w)) e
  refine wpAny_bind (wpAny_letGo ?_)
  (unfold Builtin.List.listExtendWith)
  have st2 := st1.keep (h' := s1.heap.update S (Obj.mapSeq (fun _ => (#[] : Array Value)))) fun c hc o e => up _ _ c o (fun w => hS5 (w ▸ hc)) e
  have I2 := stp s1.heap (fun _ => #[]) I1
  obtain ⟨vs2, z2⟩ := id st2.zp
  have ty : Shared.TypeIs { s1 with heap := s1.heap.update S (Obj.mapSeq (fun _ => (#[] : Array Value))) } (.ref z) "zip" := ⟨_, z2, rfl⟩
  refine wpAny_bind (wpAny_typeOf ty ?_)
  have h1 : Builtin.List.listSameRef (.ref S) (.ref z) = false := by simp [Builtin.List.listSameRef, hSz]
  have h2 : (Value.type "zip" == Value.type "list") = false := by decide
  have h3 : (Value.type "zip" == Value.type "tuple") = false := by decide
  (simp only [h1, h2, h3, Bool.or_false, Bool.false_eq_true, if_false])
  have zN : IsZip (s1.heap.update S (Obj.mapSeq (fun _ => (#[] : Array Value)))) z p q .none := by
    rcases st2.hz with ⟨_, g⟩ | ⟨_, _, _, g, _⟩
    · exact g
    · cases g
  refine wpAny_bind (wpAny_pyIter_zip zN ?_)
  (refine wpAny_bind (wpAny_holding ?_))
  (unfold Builtin.List.listLengthHint)
  refine wpAny_bind (wpAny_specialOf ty F17.zip_no_len ?_)
  show wpAny _ A.in1.in1 (specialOf (Value.ref z) (Str.ofString "__length_hint__") >>= _) _ _ _
  refine wpAny_bind (wpAny_specialOf ty F17.zip_no_hint ?_)
  refine wpAny_pure ?_
  show wpAny _ A.in1.in1 (rule "list.extend.makes-room" >>= fun _ => Builtin.List.listTouch (.ref S) >>= fun _ =>
    again (.builtin "list.extend.loop" ⟨[.ref S, .ref z, .none], []⟩)) _ _ _
  refine wpAny_bind (wpAny_rule ?_)
  refine wpAny_bind ?_
  show wpAny _ A.in1.in1 (updateSeq S (·.push .none) >>= fun _ => updateSeq S (·.pop)) _ _ _
  refine wpAny_bind (wpAny_updateSeq hS2 rfl ?_)
  have hS3 := Heap.get?_update_self (Obj.mapSeq (·.push Value.none)) hS2 rfl
  have st3 := st2.keep (h' := (s1.heap.update S (Obj.mapSeq (fun _ => (#[] : Array Value)))).update S (Obj.mapSeq (·.push Value.none))) fun c hc o e => up _ _ c o (fun w => hS5 (w ▸ hc)) e
  have I3 := stp _ (·.push Value.none) I2
  refine wpAny_updateSeq (hz := by seq_fits) hS3 rfl ?_
  have hS4 := Heap.get?_update_self (Obj.mapSeq (·.pop)) hS3 rfl
  have st4 := st3.keep (h' := ((s1.heap.update S (Obj.mapSeq (fun _ => (#[] : Array Value)))).update S (Obj.mapSeq (·.push Value.none))).update S (Obj.mapSeq (·.pop))) fun c hc o e => up _ _ c o (fun w => hS5 (w ▸ hc)) e
  have I4 := stp _ (·.pop) I3
  obtain ⟨_, _, _, hsz⟩ := I.tuple qb
  refine wpAny_pure ⟨plainId_quiet F.plain_extend_loop _, zl_loop (X := X) (pins := pins) (σ := σ) (A := A.in1) (show A.in1.in1.handled = none from hh) (z := z) (p := p) (q := q) (i := i) (j := j) (a := a) (b := b) (S := S) (xs := xs) (ys := ys) D hS5 hxy .none H (fun s' H' rs c' I' sm fS' hS' hl hr => ?_) ys.length 0 _ H [] _ rfl (Nat.zero_le _) I4
    (fun c hc => by
      rcases List.mem_cons.mp hc with h | h
      · rw [h]; exact fS
      · exact hf c h) st4 qa qb (fun _ _ e => e) hS4 rfl (fun t r h => by simp at h)⟩
  have I5 : Inv X pins σ (upd H' S (.lst (rs.map V.ref))) s' := I'.trackF fS' ⟨by rw [List.length_map, hl]; exact hsz, rs.map Value.ref, c', ?_, hS'⟩
  · refine ⟨rfl, .ref S, _, I5, rfl, qq S _ rs (sm.trans (same_upd fS'.1)) fr upd_same hl fun t r ht => ?_⟩
    obtain ⟨x, y, e1, e2, e3⟩ := hr t r ht
    exact ⟨x, y, e1, e2, same_upd fS'.1 _ _ e3⟩
  · clear hl hS' hr
    induction rs with
    | nil => exact .nil
    | cons r rest ih => exact .cons rfl ih
end
noncomputable def tLZ (K : PySem.W.Frag) (ta : TA) : TE := fun σ H Q => ta σ H fun vs H1 => ∃ a b xs ys, vs = [.ref a, .ref b] ∧ SqT K H1 a xs ∧ SqT K H1 b ys ∧ (ys.length < xs.length ∨ (xs = [] ∧ ys = [])) ∧
  ∀ l H' rs, Same H1 H' → H1 l = none → H' l = some (.lst (rs.map V.ref)) → rs.length = ys.length → Rows2 H' xs ys rs → Q (.ref l) H'
theorem pe_lzip {X : Cx} (hc : X.calm = true) {a b : Expr} {ta : TA} {p1 p2 pos1 pos2 : Pos} (hgl : Gl X "list") (hml : X.mg "list" = none) (hvl : bootBuiltins "list" = some (.type "list")) (hg : Gl X "zip") (hm : X.mg "zip" = none) (hv : bootBuiltins "zip" = some (.type "zip")) (ha : PA X [a, b] ta)
    (hs : starEach [a, b] X.env = [(false, eval a X.env), (false, eval b X.env)] := by rfl) (hs2 : starEach [b] X.env = [(false, eval b X.env)] := by rfl)
    (hs0 : starEach [.Call (.Name "zip" p2) [a, b] [] pos2] X.env = [(false, eval (.Call (.Name "zip" p2) [a, b] [] pos2) X.env)] := by rfl) :
    PE X (.Call (.Name "list" p1) [.Call (.Name "zip" p2) [a, b] [] pos2] [] pos1) (tLZ X.K ta) := by
  intro pins s σ H Q I h
  refine wpAny_Call_Name_kw (ld_blt I hgl hml hvl ?_)
  refine PyProof.Rows.callWith_type1 ?_ (by rw [hs0]; rfl) rfl
  rw [hs0]
  show wpAny _ _ (spliced ((false, eval (.Call (.Name "zip" p2) [a, b] [] pos2) X.env) :: backTo pos1 [])) _ _ s
  refine Calls.spliced_cons ?_
  refine Call_ (ld_blt I hg hm hv (PyProof.Rows.callWith_type1 (thn (ha pos2 pins s σ H _ I h) fun us s1 hp0 => ?_) (by rw [hs, hs2]) (by rw [hs2]; rfl)))
  obtain ⟨vs, H1, I1, r1, q1⟩ := hp0
  obtain ⟨x, y, xs, ys, rfl, qa, qb, hxy, q⟩ := q1
  obtain ⟨u, v, rfl, ru, rv⟩ := vals2 r1
  cases ru
  cases rv
  obtain ⟨its, r2, pa, _⟩ := I1.tuple qa
  obtain ⟨jts, r3, pb, _⟩ := I1.tuple qb
  refine callType_new F.called_zip (by decide) (F.typeCall_zip_2 _ _) (F.newCall_zip_2 _ _) (fun obj => F.args_object_init_3 obj _ _) F.entry_zip_new (ZT.make x y its.toArray jts.toArray) ⟨show s1.heap.IsTuple x its.toArray from pa, show s1.heap.IsTuple y jts.toArray from pb, ?_⟩
  have e1 : (s1.heap.push (ZT.zI x)).objs.size = s1.heap.objs.size + 1 := Heap.size_push ..
  have e2 : ((s1.heap.push (ZT.zI x)).push (ZT.zI y)).objs.size = s1.heap.objs.size + 2 := by rw [Heap.size_push, e1]
  have e3 : (((s1.heap.push (ZT.zI x)).push (ZT.zI y)).push (ZT.zP s1.heap.objs.size (s1.heap.push (ZT.zI x)).objs.size)).objs.size = s1.heap.objs.size + 3 := by rw [Heap.size_push, e2]
  have e4 : ((((s1.heap.push (ZT.zI x)).push (ZT.zI y)).push (ZT.zP s1.heap.objs.size (s1.heap.push (ZT.zI x)).objs.size)).push ZT.zQ).objs.size = s1.heap.objs.size + 4 := by rw [Heap.size_push, e3]
  have g5 : (ZT.zH s1.heap x y).get? ((((s1.heap.push (ZT.zI x)).push (ZT.zI y)).push (ZT.zP s1.heap.objs.size (s1.heap.push (ZT.zI x)).objs.size)).push ZT.zQ).objs.size = some _ := Heap.get?_push_size _ rfl
  have g4 : (ZT.zH s1.heap x y).get? (((s1.heap.push (ZT.zI x)).push (ZT.zI y)).push (ZT.zP s1.heap.objs.size (s1.heap.push (ZT.zI x)).objs.size)).objs.size = some _ := Heap.get?_push_of_some _ (Heap.get?_push_size _ rfl)
  have g3 : (ZT.zH s1.heap x y).get? ((s1.heap.push (ZT.zI x)).push (ZT.zI y)).objs.size = some _ := Heap.get?_push_of_some _ (Heap.get?_push_of_some _ (Heap.get?_push_size _ rfl))
  have g2 : (ZT.zH s1.heap x y).get? (s1.heap.push (ZT.zI x)).objs.size = some _ := Heap.get?_push_of_some _ (Heap.get?_push_of_some _ (Heap.get?_push_of_some _ (Heap.get?_push_size _ rfl)))
  have g1 : (ZT.zH s1.heap x y).get? s1.heap.objs.size = some _ := Heap.get?_push_of_some _ (Heap.get?_push_of_some _ (Heap.get?_push_of_some _ (Heap.get?_push_of_some _ (Heap.get?_push_size _ rfl))))
  have kept : ∀ c o, s1.heap.get? c = some o → (ZT.zH s1.heap x y).get? c = some o := fun c o e => Heap.get?_push_of_some _ (Heap.get?_push_of_some _ (Heap.get?_push_of_some _ (Heap.get?_push_of_some _ (Heap.get?_push_of_some _ e))))
  show _ ∧ _
  refine ⟨⟨_, g5, rfl⟩, Calls.spliced_nil ?_⟩
  have Ik : Inv X pins σ H1 { s1 with heap := ZT.zH s1.heap x y } := I1.kept (t' := s1.toks) kept
  refine zl_call (A := X.A) (i := s1.heap.objs.size) (j := (s1.heap.push (ZT.zI x)).objs.size) (a := x) (b := y) (I1.ok.hd hc) ?_ hxy Ik ?_ ⟨.inl ⟨rfl, g5⟩, g3, ⟨_, _, g4⟩, ⟨_, g1, rfl, rfl⟩, _, g2, rfl, rfl⟩ qa qb q
  · constructor <;> (show @Ne Nat _ _; lia)
  · intro c hc
    have hc' : s1.heap.objs.size ≤ c := by
      simp only [List.mem_cons, List.not_mem_nil, or_false] at hc
      rcases hc with e | e | e | e | e <;> (rw [e]; show @LE.le Nat _ _ _; lia)
    exact I1.fpOk hc' (I1.hok.fresh hc')
end L2
namespace K14
open PySem L2 Tx Rk PyProof.Rows PySem.SeqAt
open PySem.PyData (strOk)
section
variable {P : Program} {w : World} {K : PySem.W.Frag} {mg : Str → Option Value} {base : Heap}
noncomputable def top (i : Nat) : Stmt := PySem.Challenge.pw_grope_k14_facts_joined.main.body.getD i (.Pass ⟨0, 0, 0, 0⟩)
noncomputable abbrev sHeapIn : Stmt := top 6
noncomputable abbrev sLidOn : Stmt := top 7
noncomputable abbrev sHolds : Stmt := top 10
noncomputable abbrev sReadErrand : Stmt := top 11
noncomputable abbrev sReadFact : Stmt := top 12
noncomputable abbrev sReadPart : Stmt := top 13
noncomputable abbrev sReadTerm : Stmt := top 14
noncomputable abbrev sIsAtom : Stmt := top 15
noncomputable abbrev sIsShortAtom : Stmt := top 16
noncomputable abbrev sIsSpot : Stmt := top 17
noncomputable abbrev sPartHolds : Stmt := top 18
noncomputable abbrev sAtomHolds : Stmt := top 19
noncomputable abbrev sHoldsOfThing : Stmt := top 20
noncomputable abbrev sLiesOn : Stmt := top 21
noncomputable abbrev sIsName : Stmt := top 29
noncomputable abbrev sReadLine : Stmt := top 30
noncomputable abbrev sReadRows : Stmt := top 31
noncomputable abbrev sReadThings : Stmt := top 32
noncomputable abbrev sReadPlaces : Stmt := top 33
noncomputable abbrev sCheckKeys : Stmt := top 34
noncomputable abbrev sInit : Stmt := inClass (top 35) 0
noncomputable abbrev sPlaces : Stmt := inClass (top 35) 1
noncomputable abbrev sThings : Stmt := inClass (top 35) 2
noncomputable abbrev sPick : Stmt := top 37
noncomputable abbrev sFixed : Stmt := top 38
noncomputable abbrev sNames : Stmt := top 39
noncomputable abbrev sLine : Stmt := top 40
noncomputable abbrev sRoom : Stmt := top 41
noncomputable abbrev sSizes : Stmt := top 42
noncomputable abbrev sLids : Stmt := top 43
noncomputable abbrev sWorld : Stmt := top 44
noncomputable abbrev sLAtom : Stmt := top 45
noncomputable abbrev sLStands : Stmt := top 46
noncomputable abbrev sLAtomHolds : Stmt := top 47
noncomputable abbrev sLParts : Stmt := top 48
noncomputable abbrev sLText : Stmt := top 49
noncomputable abbrev sLFactHolds : Stmt := top 50
noncomputable abbrev sLaw : Stmt := top 51
structure Bl (mg : Str → Option Value) : Prop where
  len : mg "len" = none
  range : mg "range" = none
  tuple : mg "tuple" = none
  zip : mg "zip" = none
  isi : mg "isinstance" = none
  str : mg "str" = none
  list : mg "list" = none
  set : mg "set" = none
  all : mg "all" = none
  sorted : mg "sorted" = none
  int : mg "int" = none
  bool : mg "bool" = none
  any : mg "any" = none
noncomputable abbrev pPick : List Str := ["_law_script", "_law_k", "_law_many"]
noncomputable def cellV (ns : List Int) (k : Int) : Int := if 0 < ns.length then ns.getD (k % (ns.length : Int)).toNat 0 else 0
noncomputable def pk (ns : List Int) (k m : Int) : Int := (cellV ns k % 10 ^ (12 : Int).toNat + 104729) * (k * k + 48271 * k + 11) % 2147483647 * 742938285 % 2147483629 % m
theorem pk_lo (ns : List Int) (k : Int) {m : Int} (h : 0 < m) : 0 ≤ pk ns k m := Int.emod_nonneg _ (by lia)
theorem pk_hi (ns : List Int) (k : Int) {m : Int} (h : 0 < m) : pk ns k m < m := Int.emod_lt_of_pos _ h
inductive spPickD (K : PySem.W.Frag) (vs : List V) (H : Hp) (Q : VK) (E0_ : XK) : Prop
  | mk (a : Addr) (ns : List Int) (k m : Int) (c0 : vs = [.ref a, .int k, .int m]) (c1 : SqL K H a (ns.map V.int)) (c2 : ns.length ≤ 63) (c3 : 0 ≤ k) (c4 : k < 1000000) (c5 : 0 < m) (c6 : Q (.int (pk ns k m)) H) : spPickD K vs H Q E0_
inductive spPick (K : PySem.W.Frag) (vs : List V) (H : Hp) (Q : VK) (E0_ : XK) : Prop
  | mk (a : Addr) (ns : List Int) (k m : Int) (c0 : vs = [.ref a, .int k, .int m]) (c1 : SqL K H a (ns.map V.int)) (c2 : ns.length ≤ 63) (c3 : 0 ≤ k) (c4 : k < 1000000) (c5 : 0 < m) (c6 : ∀ r : Int, 0 ≤ r → r < m → Q (.int r) H) : spPick K vs H Q E0_
inductive spFixed (vs : List V) (H : Hp) (Q : VK) (E0_ : XK) : Prop
  | mk (x : Str) (c0 : vs = [.str x]) (c1 : ∀ (H' : Hp), Same H H' → Q (.bl (decide (x ∈ fixedS))) H') : spFixed  vs H Q E0_
inductive spNames (K : PySem.W.Frag) (vs : List V) (H : Hp) (Q : VK) (E0_ : XK) : Prop
  | mk (a : Addr) (ns : List Int) (k m : Int) (c0 : vs = [.ref a, .int k, .int m]) (c1 : SqL K H a (ns.map V.int)) (c2 : ns.length ≤ 63) (c3 : 0 ≤ k) (c4 : k < 1000) (c5 : 0 ≤ m) (c6 : m ≤ 12) (c7 : ∀ (l : Addr) (xs : List Str) (H' : Hp), Same H H' → H l = none → H' l = some (.lst (xs.map V.str)) → (xs.length : Int) = m → (∀ x ∈ xs, Nv x) → xs.Nodup → Q (.ref l) H') : spNames K vs H Q E0_
inductive spSizes (K : PySem.W.Frag) (vs : List V) (H : Hp) (Q : VK) (E0_ : XK) : Prop
  | mk (a : Addr) (ns : List Int) (c0 : vs = [.ref a]) (c1 : SqL K H a (ns.map V.int)) (c2 : ns.length ≤ 63) (c3 : ∀ (t : Addr) (p m : Int) (H' : Hp), Same H H' → H' t = some (.tup [.int p, .int m]) → 1 ≤ p → p ≤ 6 → 0 ≤ m → m ≤ 6 → Q (.ref t) H') : spSizes K vs H Q E0_
theorem cell_ok (c : Int) : -(2 ^ 64) < c % 10 ^ (12 : Int).toNat + 104729 ∧ c % 10 ^ (12 : Int).toNat + 104729 < 2 ^ 64 := by
  have e : (10 : Int) ^ (12 : Int).toNat = 1000000000000 := by decide +kernel
  rw [e]
  lia
theorem scPick : FnScope ["_law_script", "_law_k", "_law_many", "_law_cell", "_law_number"] pPick (defScope sPick) := ⟨rfl, rfl, rfl, by decide +kernel, rfl, by decide +kernel, by decide +kernel⟩
theorem scFixed : FnScope ["_law_text_here", "_law_words"] ["_law_text_here"] (defScope sFixed) := ⟨rfl, rfl, rfl, by decide +kernel, rfl, by decide +kernel, by decide +kernel⟩
theorem pa_strsE {X : Cx} {es : List Expr} (vs : List V) (h : es.all isStrC = true) (hv : es.map strC = vs) : PA X es (fun _ H Q => Q vs H) := by
  subst hv
  exact pa_strs h
noncomputable def wordsE : List Expr := match (defBody sFixed).getD 0 (.Pass ⟨0, 0, 0, 0⟩) with
  | .Assign _ (.List es _) _ => es
  | _ => []
noncomputable def fixedB (es : List Expr) : List Stmt := match defBody sFixed with
  | [.Assign a (.List _ p2) p3, r] => [.Assign a (.List es p2) p3, r]
  | l => l
theorem fixedB_eq : fixedB wordsE = defBody sFixed := by rfl
noncomputable abbrev nNames : List Str := ["_law_script", "_law_k", "_law_many", "_law_signs", "_law_at", "_law_i", "_law_size", "_law_alike", "_law_names_here", "_law_name", "_law_j", "_law_number"]
theorem scNames : FnScope nNames pPick (defScope sNames) := ⟨rfl, rfl, rfl, by decide +kernel, rfl, by decide +kernel, by decide +kernel⟩
theorem scSizes : FnScope ["_law_script"] ["_law_script"] (defScope sSizes) := ⟨rfl, rfl, rfl, by decide +kernel, rfl, by decide +kernel, by decide +kernel⟩
noncomputable def numF (ns : List Int) (k al at' : Int) (i j : Nat) : Int := if (j : Int) = at' then (pk ns (k + 12) 26 + 5 * (i : Int)) % 26 else pk ns (k + 3 + (j : Int) * al) 26
theorem numF_lo (ns : List Int) (k al at' : Int) (i j : Nat) : 0 ≤ numF ns k al at' i j ∧ numF ns k al at' i j < 26 := by
  unfold numF
  split
  · exact ⟨Int.emod_nonneg _ (by decide), Int.emod_lt_of_pos _ (by decide)⟩
  · exact ⟨pk_lo _ _ (by decide), pk_hi _ _ (by decide)⟩
noncomputable def signs (ns : List Int) (k al at' : Int) (i n : Nat) : List Nat := (List.range n).map fun j => 97 + (numF ns k al at' i j).toNat
noncomputable def nameF (ns : List Int) (k al at' : Int) (n i : Nat) : Str := zed ⟨(signs ns k al at' i n).toArray⟩
theorem signs_succ (ns : List Int) (k al at' : Int) (i n : Nat) : signs ns k al at' i (n + 1) = signs ns k al at' i n ++ [97 + (numF ns k al at' i n).toNat] := by
  unfold signs
  rw [List.range_succ, List.map_append]
  rfl
theorem cs_mk (l : List Nat) : cs ⟨l.toArray⟩ = l := rfl
theorem signs_low {ns : List Int} {k al at' : Int} {i n c : Nat} (h : c ∈ signs ns k al at' i n) : 97 ≤ c ∧ c ≤ 122 := by
  obtain ⟨j, _, rfl⟩ := List.mem_map.mp h
  have := numF_lo ns k al at' i j
  lia
theorem signs_len (ns : List Int) (k al at' : Int) (i n : Nat) : (signs ns k al at' i n).length = n := by
  unfold signs
  rw [List.length_map, List.length_range]
theorem mk_len (l : List Nat) : (Str.mk l.toArray).length = l.length := by
  rw [← cs_len, cs_mk]
theorem nameF_nv (ns : List Int) (k al at' : Int) {n : Nat} (i : Nat) (h1 : 1 ≤ n) (h2 : n ≤ 8) : Nv (nameF ns k al at' n i) :=
  zed_nv (fun c hc => signs_low (show c ∈ signs ns k al at' i n from hc)) (by rw [mk_len, signs_len]; exact h1) (by rw [mk_len, signs_len]; exact h2)
theorem nameF_inj {ns : List Int} {k al : Int} {n a i j : Nat} (ha : a < n) (hi : i < 26) (hj : j < 26) (h : nameF ns k al (a : Int) n i = nameF ns k al (a : Int) n j) : i = j := by
  have e := zed_inj (by rw [mk_len, mk_len, signs_len, signs_len]) h
  have e2 : signs ns k al a i n = signs ns k al a j n := by
    have := congrArg cs e
    rwa [cs_mk, cs_mk] at this
  have e3 : (signs ns k al a i n)[a]? = (signs ns k al a j n)[a]? := by rw [e2]
  unfold signs at e3
  rw [List.getElem?_map, List.getElem?_map, List.getElem?_range ha] at e3
  have e4 : 97 + (numF ns k al a i a).toNat = 97 + (numF ns k al a j a).toNat := Option.some.inj e3
  have l1 := numF_lo ns k al a i a
  have l2 := numF_lo ns k al a j a
  have e5 : numF ns k al a i a = numF ns k al a j a := by lia
  unfold numF at e5
  rw [if_pos rfl, if_pos rfl] at e5
  exact five_inj hi hj e5
noncomputable def repF (at' : Int) (i : Nat) : Str := Txt.mul ⟨#[97 + ((at' + (i : Int) / 8) % 23).toNat]⟩ (1 + (i : Int) % 8)
theorem cs_mul {c : Nat} {i : Int} (h1 : 1 ≤ i) : cs (Txt.mul ⟨#[c]⟩ i) = List.replicate i.toNat c := by
  have e0 : ¬ i < 1 := by lia
  unfold Txt.mul
  rw [if_neg e0]
  by_cases he : (i == 1 || (⟨#[c]⟩ : Str).length == 0) = true
  · rw [if_pos he]
    have : i = 1 := by
      rw [Bool.or_eq_true] at he
      rcases he with q | q
      · exact eq_of_beq q
      · cases q
    subst this
    rfl
  · rw [if_neg he]
    have el := foldl_app #[c] i.toNat #[]
    show (List.foldl (fun x y => x ++ y) #[] (List.replicate i.toNat #[c])).toList = _
    rw [el]
    have : ∀ n : Nat, (List.replicate n [c]).flatten = List.replicate n c := fun n => by
      induction n with
      | zero => rfl
      | succ n ih => rw [List.replicate_succ, List.flatten_cons, ih, List.replicate_succ]; rfl
    simpa using this i.toNat
theorem repF_cs (at' : Int) (i : Nat) : cs (repF at' i) = List.replicate (1 + (i : Int) % 8).toNat (97 + ((at' + (i : Int) / 8) % 23).toNat) := cs_mul (by lia)
theorem repF_nv (at' : Int) (i : Nat) : Nv (repF at' i) := nv_rep (repF_cs at' i) (by lia) (by lia) (by lia) (by lia)
theorem repF_inj {at' : Int} {i j : Nat} (hi : i < 16) (hj : j < 16) (h : repF at' i = repF at' j) : i = j := by
  have e := congrArg cs h
  rw [repF_cs, repF_cs] at e
  have l := congrArg List.length e
  rw [List.length_replicate, List.length_replicate] at l
  have hm : 97 + ((at' + (i : Int) / 8) % 23).toNat ∈ List.replicate (1 + (j : Int) % 8).toNat (97 + ((at' + (j : Int) / 8) % 23).toNat) := by
    rw [← e]
    exact List.mem_replicate.mpr ⟨by lia, rfl⟩
  have e2 := (List.mem_replicate.mp hm).2
  lia
theorem nodup_range {f : Nat → Str} {n : Nat} (inj : ∀ i j, i < n → j < n → f i = f j → i = j) : ((List.range n).map f).Nodup := by
  rw [List.nodup_iff_pairwise_ne, List.pairwise_map]
  refine List.Pairwise.imp_of_mem (R := fun a b => a ≠ b) (fun {a b} ha hb ne e => ne (inj a b (List.mem_range.mp ha) (List.mem_range.mp hb) e)) (List.nodup_range)
end
end K14
namespace K14
open PySem L2 Tx Rk PyProof.Rows PySem.SeqAt
open PySem.PyData (strOk)
section
variable {P : Program} {w : World} {K : PySem.W.Frag} {mg : Str → Option Value} {base : Heap}
theorem ok_pickD {f : Addr} {fd : FuncData} (F : Fun K "_law_pick" "_law_pick" sPick f fd) (T : Bl mg) : FnOk P w K mg base CX0 1 f fd pPick (spPickD K) := by
  refine F.ok scPick (fun vs H Q E h => ?_) (fun cdv A outer s H vs Q E hr h => ?_)
  · obtain ⟨a, ns, k, m, rfl, _⟩ := h
    rfl
  · obtain ⟨a, ns, k, m, rfl, hS, hn, k0, k1, m0, q⟩ := h
    refine ⟨_, pss_cons (ps_set (i := 3) scPick.nd rfl (Or.inl rfl) pe_int)
      (pss_cons (ps_if (pt_cmpR op_gt (pe_callB call_len (by rfl) T.len PySem.boot_len (pa_cons (pv 0) pa_nil)) pe_int (nomark _))
        (pss_one (ps_set (i := 3) scPick.nd rfl (Or.inl rfl) (pe_ix ix_list (pv 0) (pe_op op_mod (pv 1) (pe_callB call_len (by rfl) T.len PySem.boot_len (pa_cons (pv 0) pa_nil))) (fun _ _ => rfl)))) pss_nil)
      (pss_cons (ps_set (i := 4) scPick.nd rfl (Or.inl rfl) (pe_op op_mod (pe_op op_mul (pe_op op_add (pe_op op_mod (pv 3) (pe_op op_pow pe_int pe_int)) pe_int)
        (pe_op op_add (pe_op op_add (pe_op op_mul (pv 1) (pv 1)) (pe_op op_mul pe_int (pv 1))) pe_int)) pe_int))
      (pss_one (ps_ret (pe_op op_mod (pe_op op_mod (pe_op op_mul (pv 4) pe_int) pe_int) (pv 2)))))), ?_⟩
    refine ⟨_, rfl, _, _, rfl, .inl ⟨_, hS, rfl⟩, _, _, rfl, rfl, _, rfl, ?_⟩
    have hl : (ns.map V.int).length = ns.length := List.length_map ..
    refine ite2 (fun hp => ?_) (fun hp => ?_)
    · have hp' : 0 < ns.length := by
        have := of_decide_eq_true hp
        rw [hl] at this
        lia
      have hpi : (0 : Int) < ((ns.map V.int).length : Int) := by rw [hl]; lia
      obtain ⟨j, hj⟩ : ∃ j : Nat, (j : Int) = k % ((ns.map V.int).length : Int) := ⟨(k % ((ns.map V.int).length : Int)).toNat, Int.toNat_of_nonneg (Int.emod_nonneg _ (by lia))⟩
      have hjl : j < ns.length := by
        have := Int.emod_lt_of_pos k hpi
        rw [hl] at this hj
        lia
      have hat : atI (ns.map V.int) (k % ((ns.map V.int).length : Int)) = some (.int ns[j]) := by
        rw [← hj]
        exact atI_nat (by simp [hjl])
      have hcv : cellV ns k = ns[j] := by
        unfold cellV
        rw [if_pos hp', ← hl, ← hj, Int.toNat_natCast]
        simp [List.getD, hjl]
      unfold pk at q
      rw [hcv] at q
      refine ⟨_, rfl, _, rfl, _, rfl, _, _, rfl, .inl ⟨_, hS, rfl⟩, _, _, rfl, rfl, hpi, _, _, _, _, rfl, rfl, hS, hat, ?_⟩
      refine ⟨_, rfl, _, _, rfl, rfl, ⟨by decide, by decide, by decide⟩, _, _, rfl, rfl, (by show (0 : Int) < _; decide +kernel), _, _, rfl, rfl, _, rfl, _, rfl, _, _, rfl, rfl, .inl ⟨by lia, by lia⟩, _, rfl, _, _, rfl, rfl, .inl ⟨by decide, by decide⟩,
        _, _, rfl, rfl, _, _, rfl, rfl, _, _, rfl, rfl, .inl (cell_ok _), _, _, rfl, rfl, (by show (0 : Int) < _; decide), ?_⟩
      exact ⟨_, rfl, _, _, rfl, rfl, .inr ⟨by decide, by decide⟩, _, _, rfl, rfl, (by show (0 : Int) < _; decide), _, rfl, _, _, rfl, rfl, m0, q⟩
    · have hcv : cellV ns k = 0 := by
        unfold cellV
        rw [if_neg]
        intro z
        exact hp (decide_eq_true (by rw [hl]; lia))
      unfold pk at q
      rw [hcv] at q
      refine ⟨_, rfl, _, _, rfl, rfl, ⟨by decide, by decide, by decide⟩, _, _, rfl, rfl, (by show (0 : Int) < _; decide +kernel), _, _, rfl, rfl, _, rfl, _, rfl, _, _, rfl, rfl, .inl ⟨by lia, by lia⟩, _, rfl, _, _, rfl, rfl, .inl ⟨by decide, by decide⟩,
        _, _, rfl, rfl, _, _, rfl, rfl, _, _, rfl, rfl, .inl (cell_ok _), _, _, rfl, rfl, (by show (0 : Int) < _; decide), ?_⟩
      exact ⟨_, rfl, _, _, rfl, rfl, .inr ⟨by decide, by decide⟩, _, _, rfl, rfl, (by show (0 : Int) < _; decide), _, rfl, _, _, rfl, rfl, m0, q⟩
end
end K14
namespace K14
open PySem L2 Tx Rk PyProof.Rows PySem.SeqAt
open PySem.PyData (strOk)
section
variable {P : Program} {w : World} {K : PySem.W.Frag} {mg : Str → Option Value} {base : Heap}
theorem ok_pick {f : Addr} {fd : FuncData} (G : FnOk P w K mg base CX0 1 f fd pPick (spPickD K)) : FnOk P w K mg base CX0 1 f fd pPick (spPick K) :=
  G.imp fun vs H Q E h => by
    obtain ⟨a, ns, k, m, e, hS, hn, k0, k1, m0, q⟩ := h
    exact ⟨a, ns, k, m, e, hS, hn, k0, k1, m0, q _ (pk_lo _ _ m0) (pk_hi _ _ m0)⟩
end
end K14
namespace K14
open PySem L2 Tx Rk PyProof.Rows PySem.SeqAt
open PySem.PyData (strOk)
section
variable {P : Program} {w : World} {K : PySem.W.Frag} {mg : Str → Option Value} {base : Heap}
theorem fixedB_ok {f : Addr} {cdv : Value} {A : Around} {outer : List Env} {s : Shared} {H : Hp} {E : XK} {es : List Expr} (vs : List V) (h : es.all isStrC = true) (hv : es.map strC = vs) (hl : vs.length ≤ sizeLine) (hf : vs.all flatV = true) :
    ∃ t, PSs (cxOf CX0 P w K mg base ["_law_text_here", "_law_words"] "_law_fixed" (defScope sFixed) f cdv A outer s H E).nox (fixedB es) t ∧
      ∀ (x : Str) (Q : VK), (∀ (H' : Hp), Same H H' → Q (.bl (inV (.str x) vs)) H') → t { nx := fun _ H' => Q .non H', rt := Q } [some (.str x), none] H := by
  refine ⟨_, pss_cons (ps_set (i := 1) scFixed.nd rfl (Or.inl rfl) (pe_lst (pa_strsE vs h hv))) (pss_one (ps_ret (pe_cmpR op_in_seq (pv 0) (pv 1) (by rfl)))), ?_⟩
  intro x Q q
  refine ⟨hl, fun l hl => ?_⟩
  exact ⟨_, rfl, _, rfl, l, _, rfl, .inl (SqL.of upd_same), rfl, hf, q _ (Same.new hl)⟩
theorem ok_fixed {f : Addr} {fd : FuncData} (F : Fun K "_law_fixed" "_law_fixed" sFixed f fd) : FnOk P w K mg base CX0 1 f fd ["_law_text_here"] spFixed := by
  refine F.ok scFixed (fun vs H Q E h => ?_) (fun cdv A outer s H vs Q E hr h => ?_)
  · obtain ⟨x, rfl, _⟩ := h
    rfl
  · obtain ⟨x, rfl, q⟩ := h
    obtain ⟨t, ht, rt⟩ := fixedB_ok (P := P) (w := w) (K := K) (mg := mg) (base := base) (f := f) (cdv := cdv) (A := A) (outer := outer) (s := s) (H := H) (E := E) (es := wordsE) (fixedS.map V.str) (by decide +kernel) (by rfl) (by rw [sizeLine_eq]; decide +kernel) (flat_strs _)
    rw [fixedB_eq] at ht
    refine ⟨t, ?_, rt x Q fun H' s' => ?_⟩
    · assumption
    · rw [inV_strs]
      exact q H' s'
end
end K14
namespace K14
open PySem L2 Tx Rk PyProof.Rows PySem.SeqAt
open PySem.PyData (strOk)
section
variable {P : Program} {w : World} {K : PySem.W.Frag} {mg : Str → Option Value} {base : Heap}
theorem ok_names {f fP fX : Addr} {fd fdP fdX : FuncData} (F : Fun K "_law_names" "_law_names" sNames f fd) (DP : Df K mg "_law_pick" sPick pPick fP fdP) (DX : Df K mg "_law_fixed" sFixed ["_law_text_here"] fX fdX) (T : Bl mg)
    (GP : FnOk P w K mg base CX0 1 fP fdP pPick (spPickD K)) (GX : FnOk P w K mg base CX0 1 fX fdX ["_law_text_here"] spFixed) :
    FnOk P w K mg base CX0 2 f fd pPick (spNames K) := by
  refine F.ok scNames (fun vs H Q E h => ?_) (fun cdv A outer s H vs Q E hr h => ?_)
  · obtain ⟨a, ns, k, m, rfl, _⟩ := h
    rfl
  · obtain ⟨a, ns, k, m, rfl, hS, hn, k0, k1, m0, m1, q⟩ := h
    refine ⟨_, (pss_cons (ps_set (i := 3) scNames.nd rfl (Or.inr rfl) pe_str)
      (pss_cons (ps_if (pt_cmpR op_eq (pe_call GP hr (by rfl) DP.m DP.F.kp DP.b .nil pass0 (pa_cons (pv 0) (pa_cons (pe_op op_add (pv 1) pe_int) (pa_cons pe_int pa_nil)))) pe_int (nomark _)) (pss_cons (ps_set (i := 4) scNames.nd rfl (Or.inr rfl) (pe_call GP hr (by rfl) DP.m DP.F.kp DP.b .nil pass0 (pa_cons (pv 0) (pa_cons (pv 1) (pa_cons pe_int pa_nil)))))
      (pss_one (ps_ret (pe_lc (N := ["_law_i", "_law_signs", "_law_at"]) (sc := defScope sNames) (own := ["_law_i"]) (fr := ["_law_signs", "_law_at"]) (js := [3, 4]) ⟨rfl, rfl, rfl, rfl, by decide +kernel, by decide +kernel, by decide +kernel, rfl, by decide +kernel⟩ rfl (pi_range1 (by rfl) T.range (pa_cons (pv 2) pa_nil)) (fun _ _ _ _ => pg_name (i := 0) (show List.Nodup (["_law_i", "_law_signs", "_law_at"] : List Str) by decide +kernel) rfl (Or.inl rfl)) (fun _ _ _ _ => pif_nil) (fun _ _ _ _ => (pe_op op_mulS (pe_ix ix_str (pv 1) (pe_op op_mod (pe_op op_add (pv 2) (pe_op op_fdiv (pv 0) pe_int)) pe_int) (fun _ _ => rfl)) (pe_op op_add pe_int (pe_op op_mod (pv 0) pe_int)))))))) pss_nil)
      (pss_cons (ps_set (i := 6) scNames.nd rfl (Or.inl rfl) (pe_op op_add pe_int (pe_call GP hr (by rfl) DP.m DP.F.kp DP.b .nil pass0 (pa_cons (pv 0) (pa_cons (pv 1) (pa_cons pe_int pa_nil))))))
      (pss_cons (ps_set (i := 4) scNames.nd rfl (Or.inr rfl) (pe_call GP hr (by rfl) DP.m DP.F.kp DP.b .nil pass0 (pa_cons (pv 0) (pa_cons (pe_op op_add (pv 1) pe_int) (pa_cons (pv 6) pa_nil)))))
      (pss_cons (ps_set (i := 7) scNames.nd rfl (Or.inl rfl) (pe_call GP hr (by rfl) DP.m DP.F.kp DP.b .nil pass0 (pa_cons (pv 0) (pa_cons (pe_op op_add (pv 1) pe_int) (pa_cons pe_int pa_nil)))))
      (pss_cons (ps_set (i := 8) scNames.nd rfl (Or.inl rfl) (pe_lst pa_nil))
      (pss_cons (ps_for PassesOwn.never rfl (pi_range1 (by rfl) T.range (pa_cons (pv 2) pa_nil)) (pg_name (i := 5) scNames.nd rfl (Or.inl rfl)) (pss_cons (ps_set (i := 9) scNames.nd rfl (Or.inl rfl) pe_str)
      (pss_cons (ps_for PassesOwn.never rfl (pi_range1 (by rfl) T.range (pa_cons (pv 6) pa_nil)) (pg_name (i := 10) scNames.nd rfl (Or.inl rfl)) (pss_cons (ps_set (i := 11) scNames.nd rfl (Or.inl rfl) (pe_call GP hr (by rfl) DP.m DP.F.kp DP.b .nil pass0 (pa_cons (pv 0) (pa_cons (pe_op op_add (pe_op op_add (pv 1) pe_int) (pe_op op_mul (pv 10) (pv 7))) (pa_cons pe_int pa_nil)))))
      (pss_cons (ps_if (pt_cmpR op_eq (pv 10) (pv 4) (nomark _)) (pss_one (ps_set (i := 11) scNames.nd rfl (Or.inl rfl) (pe_op op_mod (pe_op op_add (pe_call GP hr (by rfl) DP.m DP.F.kp DP.b .nil pass0 (pa_cons (pv 0) (pa_cons (pe_op op_add (pv 1) pe_int) (pa_cons pe_int pa_nil)))) (pe_op op_mul pe_int (pv 5))) pe_int))) pss_nil)
      (pss_one (ps_set (i := 9) scNames.nd rfl (Or.inl rfl) (pe_op op_add_str (pv 9) (pe_ix ix_str (pv 3) (pv 11) (fun _ _ => rfl))))))))
      (pss_cons (ps_if (pt_val (pe_call GX hr (by rfl) DX.m DX.F.kp DX.b .nil pass0 (pa_cons (pv 9) pa_nil))) (pss_one (ps_set (i := 9) scNames.nd rfl (Or.inl rfl) (pe_op op_add_str pe_str (pv 9)))) pss_nil)
      (pss_one (ps_expr (pe_bm PySem.F.plainAttrs_list PySem.F.slot_list_append PySem.F.type_list_append mt_append (pv 8) (pa_cons (pv 9) pa_nil))))))))
      (pss_one (ps_ret (pv 8)))))))))), ?_⟩
    have abc_e : (Str.ofString "abcdefghijklmnopqrstuvwxyz") = abc := rfl
    have hsl : sizeLine = 16777216 := sizeLine_eq
    -- the first draw
    refine ⟨_, rfl, _, rfl, _, _, rfl, rfl, a, ns, _, _, rfl, hS, hn, by lia, by lia, by decide, ⟨rfl, _, rfl, ?_⟩⟩
    refine ite2 (fun _ => ?_) (fun _ => ?_)
    · -- beginnings of one another
      refine ⟨_, rfl, _, rfl, a, ns, _, _, rfl, hS, hn, by lia, by lia, by decide, ?_⟩
      have a0 := pk_lo ns k (m := 23) (by decide)
      have a1 := pk_hi ns k (m := 23) (by decide)
      generalize pk ns k 23 = at' at a0 a1 ⊢
      refine ⟨_, rfl, m, rfl, by lia, by lia, fun D hD => ?_⟩
      refine lcJ (n := m.toNat) (fun i ys H2 => ys = ((List.range i).map (repF at')).map V.str ∧ Same H H2 ∧ H2 D = some (.lst ys)) ⟨rfl, Same.new hD, upd_same⟩
        (fun i _ _ hi _ => hi) (fun _ _ _ => Nat.le_refl _) ?_ ?_
      · rintro i ys H2 x H3 hi ⟨rfl, sm, hD2⟩ ⟨rfl, rfl⟩
        refine lc_yes ?_
        have b0 := Int.emod_nonneg (at' + (0 + (i : Int)) / 8) (b := 23) (by decide)
        have b1 := Int.emod_lt_of_pos (at' + (0 + (i : Int)) / 8) (b := 23) (by decide)
        have hc := abc_num b0 (by lia)
        have d0 := Int.emod_nonneg (0 + (i : Int)) (b := 8) (by decide)
        have d1 := Int.emod_lt_of_pos (0 + (i : Int)) (b := 8) (by decide)
        refine ⟨_, rfl, _, rfl, _, rfl, _, _, rfl, rfl, ⟨by decide, by decide⟩, _, _, rfl, rfl, _, _, rfl, rfl, (by show (0 : Int) < _; decide), abc, _, _, rfl, rfl, abc_len, hc, _, rfl, _, _, rfl, rfl, (by show (0 : Int) < _; decide), _, _, rfl, rfl, _, _, rfl, rfl, by lia, by lia, (by show 1 ≤ 1000; decide), ?_⟩
        refine ⟨_, hD2, by rw [List.length_map, List.length_map, List.length_range]; lia, ?_, sm.put hD, upd_same⟩
        rw [List.range_succ, List.map_append, List.map_append]
        show _ = _ ++ [V.str (repF at' i)]
        unfold repF
        rw [Int.zero_add]
      · rintro ys H2 ⟨rfl, sm, hD2⟩
        refine q D _ H2 sm hD hD2 (by rw [List.length_map, List.length_range]; lia) (fun x hx => ?_) (nodup_range fun i j hi hj e => repF_inj (by lia) (by lia) e)
        obtain ⟨i, _, rfl⟩ := List.mem_map.mp hx
        exact repF_nv at' i
    · -- names that differ at one place
      refine ⟨_, rfl, _, rfl, a, ns, _, _, rfl, hS, hn, by lia, by lia, by decide, ⟨_, _, rfl, rfl, ?_⟩⟩
      have s0 := pk_lo ns k (m := 8) (by decide)
      have s1 := pk_hi ns k (m := 8) (by decide)
      generalize pk ns k 8 = sz at s0 s1 ⊢
      refine ⟨_, rfl, _, rfl, _, _, rfl, rfl, _, rfl, a, ns, _, _, rfl, hS, hn, by lia, by lia, by lia, ?_⟩
      have a0 := pk_lo ns (k + 1) (m := 1 + sz) (by lia)
      have a1 := pk_hi ns (k + 1) (m := 1 + sz) (by lia)
      generalize pk ns (k + 1) (1 + sz) = at' at a0 a1 ⊢
      refine ⟨_, rfl, _, rfl, _, _, rfl, rfl, a, ns, _, _, rfl, hS, hn, by lia, by lia, by decide, ?_⟩
      have l0 := pk_lo ns (k + 2) (m := 2) (by decide)
      have l1 := pk_hi ns (k + 2) (m := 2) (by decide)
      generalize pk ns (k + 2) 2 = al at l0 l1 ⊢
      refine ⟨Nat.zero_le _, fun l hl => ?_⟩
      obtain ⟨n, hn'⟩ : ∃ n : Nat, (n : Int) = 1 + sz := ⟨(1 + sz).toNat, Int.toNat_of_nonneg (by lia)⟩
      obtain ⟨a', ha'⟩ : ∃ n : Nat, (n : Int) = at' := ⟨at'.toNat, Int.toNat_of_nonneg (by lia)⟩
      refine ⟨_, rfl, m, rfl, by lia, by lia, for_range (n := m.toNat) (fun i σ H2 => ∃ (v5 v9 v10 v11 : Option V),
        σ = [some (.ref a), some (.int k), some (.int m), some (.str abc), some (.int at'), v5, some (.int (1 + sz)), some (.int al), some (.ref l), v9, v10, v11] ∧
        Same H H2 ∧ H2 l = some (.lst (((List.range i).map (nameF ns k al at' n)).map V.str))) ⟨none, none, none, none, rfl, Same.new hl, upd_same⟩ ?_ ?_⟩
      · rintro i σ H2 hi ⟨v5, v9, v10, v11, rfl, sm, hl2⟩
        have hS2 := sm.seq hS
        refine ⟨_, rfl, _, rfl, by lia, by lia, for_range (n := (1 + sz).toNat) (fun j σ H3 => ∃ (v10 v11 : Option V),
          σ = [some (.ref a), some (.int k), some (.int m), some (.str abc), some (.int at'), some (.int (0 + (i : Int))), some (.int (1 + sz)), some (.int al), some (.ref l), some (.str ⟨(signs ns k al at' i j).toArray⟩), v10, v11] ∧
          H3 = H2) ⟨v10, v11, rfl, rfl⟩ ?_ ?_⟩
        · rintro j σ H3 hj ⟨w10, w11, rfl, rfl⟩
          have hjl : (j : Int) < 1 + sz := by lia
          have hja : 0 ≤ (0 + (j : Int)) * al ∧ (0 + (j : Int)) * al ≤ 8 := by
            have : al = 0 ∨ al = 1 := by lia
            rcases this with e | e
            · subst e; lia
            · subst e; lia
          refine ⟨_, rfl, _, rfl, _, _, rfl, rfl, _, rfl, _, rfl, _, _, rfl, rfl, .inl ⟨by lia, by lia⟩, _, _, rfl, rfl, a, ns, _, _, rfl, hS2, hn, by lia, by lia, by decide, ?_⟩
          refine ⟨_, rfl, _, rfl, rfl, _, rfl, ?_⟩
          have hnl := numF_lo ns k al at' i j
          have hc := abc_num hnl.1 hnl.2
          have hsg : (⟨(signs ns k al at' i j).toArray⟩ : Str) ++ ⟨#[97 + (numF ns k al at' i j).toNat]⟩ = ⟨(signs ns k al at' i (j + 1)).toArray⟩ := by
            apply cs_inj
            rw [cs_app, cs_one]
            show signs ns k al at' i j ++ [97 + (numF ns k al at' i j).toNat] = signs ns k al at' i (j + 1)
            rw [signs_succ]
          have hlen : (⟨(signs ns k al at' i j).toArray⟩ : Str).length = j := by rw [mk_len, signs_len]
          refine ite2 (fun he => ?_) (fun he => ?_)
          · have he' : (j : Int) = at' := by
              have := V.int.inj (of_decide_eq_true he)
              lia
            have hnu : numF ns k al at' i j = (pk ns (k + 12) 26 + 5 * (0 + (i : Int))) % 26 := by
              unfold numF
              rw [if_pos he', Int.zero_add]
            rw [hnu] at hc hsg
            refine ⟨_, rfl, _, rfl, _, _, rfl, rfl, a, ns, _, _, rfl, hS2, hn, by lia, by lia, by decide, ?_⟩
            refine ⟨_, rfl, _, _, rfl, rfl, .inl ⟨by decide, by decide⟩, _, _, rfl, rfl, _, _, rfl, rfl, (by show (0 : Int) < _; decide), ?_⟩
            refine ⟨_, rfl, _, rfl, _, rfl, abc, _, _, rfl, rfl, abc_len, hc, _, _, rfl, rfl, by show (⟨(signs ns k al at' i j).toArray⟩ : Str).length + 1 ≤ sizeLine; lia, some (.int (0 + (j : Int))), some (.int ((pk ns (k + 12) 26 + 5 * (0 + (i : Int))) % 26)), ?_, rfl⟩
            rw [← hsg]
            all_goals rfl
          · have he' : ¬ (j : Int) = at' := fun z => he (decide_eq_true (by rw [← z, Int.zero_add]))
            have hnu : numF ns k al at' i j = pk ns (k + 3 + (0 + (j : Int)) * al) 26 := by
              unfold numF
              rw [if_neg he', Int.zero_add]
            rw [hnu] at hc hsg
            refine ⟨_, rfl, _, rfl, _, rfl, abc, _, _, rfl, rfl, abc_len, hc, _, _, rfl, rfl, by show (⟨(signs ns k al at' i j).toArray⟩ : Str).length + 1 ≤ sizeLine; lia, some (.int (0 + (j : Int))), some (.int (pk ns (k + 3 + (0 + (j : Int)) * al) 26)), ?_, rfl⟩
            rw [← hsg]
            all_goals rfl
        · rintro σ H3 ⟨w10, w11, rfl, rfl⟩
          have en : (1 + sz).toNat = n := by lia
          rw [en]
          refine ⟨_, rfl, _, rfl, fun H4 s4 => ⟨_, rfl, ?_⟩⟩
          have hl4 := s4 _ _ hl2
          have hlen : (⟨(signs ns k al at' i n).toArray⟩ : Str).length = n := by rw [mk_len, signs_len]
          have hz : ((List.range i).map (nameF ns k al at' n)).map V.str ++ [V.str (nameF ns k al at' n i)] = ((List.range (i + 1)).map (nameF ns k al at' n)).map V.str := by
            rw [List.range_succ, List.map_append, List.map_append]
            rfl
          have hll : (((List.range i).map (nameF ns k al at' n)).map V.str).length < sizeLine := by rw [List.length_map, List.length_map, List.length_range]; lia
          refine ite2 (fun hx => ?_) (fun hx => ?_)
          · have hx' := of_decide_eq_true hx
            refine ⟨_, rfl, _, _, rfl, rfl, by show 1 + (⟨(signs ns k al at' i n).toArray⟩ : Str).length ≤ sizeLine; lia, ?_⟩
            refine ⟨_, rfl, .inl ⟨rfl, _, SqL.of hl4⟩, _, rfl, l, _, _, rfl, rfl, hl4, hll, _, _, _, _, rfl, (sm.trans s4).put hl, ?_⟩
            rw [upd_same, ← hz]
            unfold nameF zed
            rw [if_pos hx']
            all_goals rfl
          · have hx' : ¬ (⟨(signs ns k al at' i n).toArray⟩ : Str) ∈ fixedS := fun z => hx (decide_eq_true z)
            refine ⟨_, rfl, .inl ⟨rfl, _, SqL.of hl4⟩, _, rfl, l, _, _, rfl, rfl, hl4, hll, _, _, _, _, rfl, (sm.trans s4).put hl, ?_⟩
            rw [upd_same, ← hz]
            unfold nameF zed
            rw [if_neg hx']
      · rintro σ H2 ⟨v5, v9, v10, v11, rfl, sm, hl2⟩
        refine ⟨_, rfl, q l _ H2 sm hl hl2 (by rw [List.length_map, List.length_range]; lia) (fun x hx => ?_) (nodup_range fun i j hi hj e => ?_)⟩
        · obtain ⟨i, _, rfl⟩ := List.mem_map.mp hx
          exact nameF_nv ns k al at' i (by lia) (by lia)
        · rw [← ha'] at e
          exact nameF_inj (by lia) (by lia) (by lia) e
end
end K14
namespace K14
open PySem L2 Tx Rk PyProof.Rows PySem.SeqAt
open PySem.PyData (strOk)
section
variable {P : Program} {w : World} {K : PySem.W.Frag} {mg : Str → Option Value} {base : Heap}
theorem ok_sizes {f fP : Addr} {fd fdP : FuncData} (F : Fun K "_law_sizes" "_law_sizes" sSizes f fd) (DP : Df K mg "_law_pick" sPick pPick fP fdP) (T : Bl mg) (GP : FnOk P w K mg base CX0 1 fP fdP pPick (spPick K)) : FnOk P w K mg base CX0 2 f fd ["_law_script"] (spSizes K) := by
  refine F.ok scSizes (fun vs H Q E h => ?_) (fun cdv A outer s H vs Q E hr h => ?_)
  · obtain ⟨a, ns, rfl, _⟩ := h
    rfl
  · obtain ⟨a, ns, rfl, hS, hn, q⟩ := h
    refine ⟨_, pss_one (ps_ret (pe_tup (pa_cons (pe_op op_add pe_int (pe_call GP hr (by rfl) DP.m DP.F.kp DP.b .nil pass0 (pa_cons (pv 0) (pa_cons pe_int (pa_cons pe_int pa_nil)))))
      (pa_cons (pe_call GP hr (by rfl) DP.m DP.F.kp DP.b .nil pass0 (pa_cons (pv 0) (pa_cons pe_int (pa_cons pe_int pa_nil)))) pa_nil)))), ?_⟩
    refine ⟨_, rfl, a, ns, _, _, rfl, hS, hn, by decide, by decide, by decide, fun r r0 r1 => ⟨_, _, rfl, rfl, ?_⟩⟩
    refine ⟨_, rfl, a, ns, _, _, rfl, hS, hn, by decide, by decide, by decide, fun r' r2 r3 => ⟨by show 2 ≤ sizeLine; decide, fun t ht => ?_⟩⟩
    exact q t _ _ _ (Same.new ht) upd_same (by lia) (by lia) r2 (by lia)
end
end K14
namespace K14
open PySem L2 Tx Rk PyProof.Rows PySem.SeqAt
open PySem.PyData (strOk)
section
variable {P : Program} {w : World} {K : PySem.W.Frag} {mg : Str → Option Value} {base : Heap}
noncomputable abbrev Sk (x : Str) : Prop := strOk x = true ∧ x.length ≤ 16
theorem dget {H : Hp} {a : Addr} {kvs : List (Key × V)} {x : Str} {v : V} (e : H a = some (.dK kvs)) (h : valV kvs (Sum.inr x : Key) = some v) : DGet H a (.str x) (some v) := by
  have q := DGet.k (k := (Sum.inr x : Key)) e
  rw [h] at q
  exact q
noncomputable abbrev pLids : List Str := ["_law_room_here", "_law_place"]
noncomputable def Ad (L1 L2 : List (Key × V)) (x l : Str) : Prop := l = "open" ∨ (l = "shut" ∧ (valV L1 (Sum.inr x : Key)).isSome = true) ∨ (l = "locked" ∧ (valV L2 (Sum.inr x : Key)).isSome = true)
inductive spLids (vs : List V) (H : Hp) (Q : VK) (E0_ : XK) : Prop
  | mk (r d1 d2 : Addr) (x : Str) (kvs L1 L2 : List (Key × V)) (c0 : vs = [.ref r, .str x]) (c1 : H r = some (.dK kvs)) (c2 : valV kvs (Sum.inr "lids" : Key) = some (.ref d1)) (c3 : valV kvs (Sum.inr "keys" : Key) = some (.ref d2)) (c4 : H d1 = some (.dK L1)) (c5 : H d2 = some (.dK L2)) (c6 : ∀ (l : Addr) (ys : List Str) (H' : Hp), Same H H' → H l = none → H' l = some (.lst (ys.map V.str)) → 1 ≤ ys.length → (∀ y ∈ ys, Ad L1 L2 x y) → Q (.ref l) H') : spLids  vs H Q E0_
theorem scLids : FnScope ["_law_room_here", "_law_place", "_law_some"] pLids (defScope sLids) := ⟨rfl, rfl, rfl, by decide +kernel, rfl, by decide +kernel, by decide +kernel⟩
theorem kne {x y : Str} (h : ¬ x = y) : ¬ (Sum.inr x : Key) = Sum.inr y := fun e => h (Sum.inr.inj e)
noncomputable def room0 (p t d1 d2 d3 : Addr) : List (Key × V) := [(Sum.inr "places", .ref p), (Sum.inr "things", .ref t), (Sum.inr "lids", .ref d1), (Sum.inr "keys", .ref d2), (Sum.inr "shapes", .ref d3)]
theorem room0_things (p t d1 d2 d3 : Addr) : valV (room0 p t d1 d2 d3) (Sum.inr "things" : Key) = some (.ref t) := by
  unfold room0
  rw [valV_neg (kne (by decide +kernel)), valV_pos rfl]
theorem room0_lids (p t d1 d2 d3 : Addr) : valV (room0 p t d1 d2 d3) (Sum.inr "lids" : Key) = some (.ref d1) := by
  unfold room0
  rw [valV_neg (kne (by decide +kernel)), valV_neg (kne (by decide +kernel)), valV_pos rfl]
theorem room0_keys (p t d1 d2 d3 : Addr) : valV (room0 p t d1 d2 d3) (Sum.inr "keys" : Key) = some (.ref d2) := by
  unfold room0
  rw [valV_neg (kne (by decide +kernel)), valV_neg (kne (by decide +kernel)), valV_neg (kne (by decide +kernel)), valV_pos rfl]
theorem room0_shapes (p t d1 d2 d3 : Addr) : valV (room0 p t d1 d2 d3) (Sum.inr "shapes" : Key) = some (.ref d3) := by
  unfold room0
  rw [valV_neg (kne (by decide +kernel)), valV_neg (kne (by decide +kernel)), valV_neg (kne (by decide +kernel)), valV_neg (kne (by decide +kernel)), valV_pos rfl]
theorem room0_places (p t d1 d2 d3 : Addr) : valV (room0 p t d1 d2 d3) (Sum.inr "places" : Key) = some (.ref p) := by
  unfold room0
  rw [valV_pos rfl]
noncomputable abbrev pLine : List Str := ["_law_script", "_law_k", "_law_room_here", "_law_name"]
inductive spLine (K : PySem.W.Frag) (vs : List V) (H : Hp) (Q : VK) (E0_ : XK) : Prop
  | mk (a : Addr) (ns : List Int) (k : Int) (r p t d1 d2 d3 : Addr) (x : Str) (ts : List Str) (L1 L2 : List (Key × V)) (c0 : vs = [.ref a, .int k, .ref r, .str x]) (c1 : SqL K H a (ns.map V.int)) (c2 : ns.length ≤ 63) (c3 : 0 ≤ k) (c4 : k < 100) (c5 : Nv x) (c6 : H r = some (.dK (room0 p t d1 d2 d3))) (c7 : H t = some (.lst (ts.map V.str))) (c8 : (∀ y ∈ ts, Nv y)) (c9 : ts.length ≤ 12) (c10 : H d1 = some (.dK L1)) (c11 : H d2 = some (.dK L2)) (c12 : L1.length ≤ 100) (c13 : L2.length ≤ 100) (c14 : r ≠ d1) (c15 : r ≠ d2) (c16 : d1 ≠ d2) (c17 : valV L1 (Sum.inr x : Key) = none) (c18 : valV L2 (Sum.inr x : Key) = none) (c19 : ∀ (ro : Ro) (H' : Hp), ro.name = x → ro.isP = true → ro.nv → (k = 0 → ro = .pl x) → (∀ y, ro = .lk x y → y ∈ ts) → H' d1 = some (.dK (L1 ++ lidsK [ro])) → H' d2 = some (.dK (L2 ++ keysK [ro])) → (∀ b o, H b = some o → b ≠ d1 → b ≠ d2 → H' b = some o) → Q (.str ro.txt) H') : spLine K vs H Q E0_
theorem scLine : FnScope ["_law_script", "_law_k", "_law_room_here", "_law_name", "_law_way", "_law_key"] pLine (defScope sLine) := ⟨rfl, rfl, rfl, by decide +kernel, rfl, by decide +kernel, by decide +kernel⟩
theorem seq_keep {H H' : Hp} {a d1 : Addr} {xs : List V} (h : SqL K H a xs) (k : ∀ b o, H b = some o → b ≠ d1 → H' b = some o) {L : List (Key × V)} (hd : H d1 = some (.dK L)) : SqL K H' a xs := by
  rcases h with (h | ⟨o, h⟩) | h
  · exact .inl (.inl (k _ _ h (ne_of h hd (by intro z; cases z))))
  · exact .inl (.inr ⟨o, k _ _ h (ne_of h hd (by intro z; cases z))⟩)
  · exact .inr h
end
end K14
namespace K14
open PySem L2 Tx Rk PyProof.Rows PySem.SeqAt
open PySem.PyData (strOk)
section
variable {P : Program} {w : World} {K : PySem.W.Frag} {mg : Str → Option Value} {base : Heap}
theorem ok_lids {f : Addr} {fd : FuncData} (F : Fun K "_law_lids" "_law_lids" sLids f fd) : FnOk P w K mg base CX0 1 f fd pLids spLids := by
  refine F.ok scLids (fun vs H Q E h => ?_) (fun cdv A outer s H vs Q E hr h => ?_)
  · obtain ⟨r, d1, d2, x, kvs, L1, L2, rfl, _⟩ := h
    rfl
  · obtain ⟨r, d1, d2, x, kvs, L1, L2, rfl, h1, h4, h5, h8, h9, q⟩ := h
    have hu := hu_of hr
    refine ⟨_, pss_cons (ps_set (i := 2) scLids.nd rfl (Or.inl rfl) (pe_lst (pa_cons pe_str pa_nil)))
      (pss_cons (ps_if (pt_cmp (pc_din hu (pv 1) (pe_dget hu (pv 0) pe_str (fun _ _ => rfl)))) (pss_one (ps_expr (pe_bm PySem.F.plainAttrs_list PySem.F.slot_list_append PySem.F.type_list_append mt_append (pv 2) (pa_cons pe_str pa_nil)))) pss_nil)
      (pss_cons (ps_if (pt_cmp (pc_din hu (pv 1) (pe_dget hu (pv 0) pe_str (fun _ _ => rfl)))) (pss_one (ps_expr (pe_bm PySem.F.plainAttrs_list PySem.F.slot_list_append PySem.F.type_list_append mt_append (pv 2) (pa_cons pe_str pa_nil)))) pss_nil)
      (pss_one (ps_ret (pv 2))))), ?_⟩
    refine ⟨by show 1 ≤ sizeLine; decide, fun l hl => ?_⟩
    have hsl : sizeLine = 16777216 := sizeLine_eq
    have s0 : Same H (upd H l (.lst [V.str "open"])) := Same.new hl
    refine ⟨_, rfl, _, rfl, r, _, rfl, dget (s0 _ _ h1) h4, _, _, rfl, DGet.k (k := (Sum.inr x : Key)) (s0 _ _ h8), _, rfl, ?_⟩
    have s1 : ∀ o, Same H (upd (upd H l (.lst [V.str "open"])) l o) := fun o => s0.put hl
    refine ite2 (fun c1 => ?_) (fun _ => ?_)
    · refine ⟨_, rfl, .inl ⟨rfl, _, SqL.of upd_same⟩, l, _, _, rfl, rfl, upd_same, by show 1 < sizeLine; decide, ?_⟩
      refine ⟨_, rfl, _, rfl, r, _, rfl, dget (s1 _ _ _ h1) h5, _, _, rfl, DGet.k (k := (Sum.inr x : Key)) (s1 _ _ _ h9), _, rfl, ?_⟩
      refine ite2 (fun c2 => ?_) (fun _ => ?_)
      · refine ⟨_, rfl, .inl ⟨rfl, _, SqL.of upd_same⟩, l, _, _, rfl, rfl, upd_same, by show 2 < sizeLine; decide, ?_⟩
        refine ⟨_, rfl, q l ["open", "shut", "locked"] _ ((s1 _).put hl) hl upd_same (by decide) fun y hy => ?_⟩
        simp only [List.mem_cons, List.not_mem_nil, or_false] at hy
        rcases hy with e | e | e
        · exact .inl e
        · exact .inr (.inl ⟨e, c1⟩)
        · exact .inr (.inr ⟨e, c2⟩)
      · refine ⟨_, rfl, q l ["open", "shut"] _ (s1 _) hl upd_same (by decide) fun y hy => ?_⟩
        simp only [List.mem_cons, List.not_mem_nil, or_false] at hy
        rcases hy with e | e
        · exact .inl e
        · exact .inr (.inl ⟨e, c1⟩)
    · refine ⟨_, rfl, _, rfl, r, _, rfl, dget (s0 _ _ h1) h5, _, _, rfl, DGet.k (k := (Sum.inr x : Key)) (s0 _ _ h9), _, rfl, ?_⟩
      refine ite2 (fun c2 => ?_) (fun _ => ?_)
      · refine ⟨_, rfl, .inl ⟨rfl, _, SqL.of upd_same⟩, l, _, _, rfl, rfl, upd_same, by show 1 < sizeLine; decide, ?_⟩
        refine ⟨_, rfl, q l ["open", "locked"] _ (s1 _) hl upd_same (by decide) fun y hy => ?_⟩
        simp only [List.mem_cons, List.not_mem_nil, or_false] at hy
        rcases hy with e | e
        · exact .inl e
        · exact .inr (.inr ⟨e, c2⟩)
      · refine ⟨_, rfl, q l ["open"] _ s0 hl upd_same (by decide) fun y hy => ?_⟩
        simp only [List.mem_cons, List.not_mem_nil, or_false] at hy
        exact .inl hy
end
end K14
namespace K14
open PySem L2 Tx Rk PyProof.Rows PySem.SeqAt
open PySem.PyData (strOk)
section
variable {P : Program} {w : World} {K : PySem.W.Frag} {mg : Str → Option Value} {base : Heap}
theorem ok_line {f fP : Addr} {fd fdP : FuncData} (F : Fun K "_law_place_line" "_law_place_line" sLine f fd) (DP : Df K mg "_law_pick" sPick pPick fP fdP) (T : Bl mg) (GP : FnOk P w K mg base CX0 1 fP fdP pPick (spPick K)) : FnOk P w K mg base CX0 2 f fd pLine (spLine K) := by
  refine F.ok scLine (fun vs H Q E h => ?_) (fun cdv A outer s H vs Q E hr h => ?_)
  · obtain ⟨a, ns, k, r, p, t, d1, d2, d3, x, ts, L1, L2, rfl, _⟩ := h
    rfl
  · obtain ⟨a, ns, k, r, p, t, d1, d2, d3, x, ts, L1, L2, rfl, hS, hn, k0, k1, hx, hr0, ht, hts, htl, h1, h2, z1, z2, n1, n2, n3, v1, v2, q⟩ := h
    have hu := hu_of hr
    have hsl : sizeLine = 16777216 := sizeLine_eq
    have hxl := hx.len
    refine ⟨_, pss_cons (ps_set (i := 4) scLine.nd rfl (Or.inl rfl) (pe_call GP hr (by rfl) DP.m DP.F.kp DP.b .nil pass0 (pa_cons (pv 0) (pa_cons (pe_op op_add pe_int (pv 1)) (pa_cons pe_int pa_nil)))))
      (pss_cons (ps_if (PW.pt (pw_or (pt_cmpR op_eq (pv 1) pe_int (nomark _)) (pw_or1 (pt_cmpR op_eq (pv 4) pe_int (nomark _))))) (pss_one (ps_ret (pe_op op_add_str pe_str (pv 3)))) pss_nil)
      (pss_cons (ps_dput hu (pe_dget hu (pv 2) pe_str (fun _ _ => rfl)) (pv 3) pe_bl rfl)
      (pss_cons (ps_if (PW.pt (pw_or (pt_cmpR op_eq (pv 4) pe_int (nomark _)) (pw_or1 (pt_cmpR op_eq (pe_callB call_len (by rfl) T.len PySem.boot_len (pa_cons (pe_dget hu (pv 2) pe_str (fun _ _ => rfl)) pa_nil)) pe_int (nomark _)))))
        (pss_one (ps_ret (pe_op op_add_str pe_str (pv 3)))) pss_nil)
      (pss_cons (ps_set (i := 5) scLine.nd rfl (Or.inl rfl) (pe_ix ix_list (pe_dget hu (pv 2) pe_str (fun _ _ => rfl)) (pe_call GP hr (by rfl) DP.m DP.F.kp DP.b .nil pass0 (pa_cons (pv 0) (pa_cons (pe_op op_add pe_int (pv 1))
        (pa_cons (pe_callB call_len (by rfl) T.len PySem.boot_len (pa_cons (pe_dget hu (pv 2) pe_str (fun _ _ => rfl)) pa_nil)) pa_nil)))) (fun _ _ => rfl)))
      (pss_cons (ps_dput hu (pe_dget hu (pv 2) pe_str (fun _ _ => rfl)) (pv 3) (pv 5) rfl)
      (pss_one (ps_ret (pe_op op_add_str (pe_op op_add_str (pe_op op_add_str pe_str (pv 3)) pe_str) (pv 5))))))))), ?_⟩
    have plain : Q (.str (("place " : Str) ++ x)) H := q (.pl x) H rfl rfl hx (fun _ => rfl) (fun y e => nomatch e) (by show H d1 = some (.dK (L1 ++ [])); rw [List.append_nil]; exact h1) (by show H d2 = some (.dK (L2 ++ [])); rw [List.append_nil]; exact h2) fun b o e _ _ => e
    refine ⟨_, rfl, _, rfl, _, _, rfl, rfl, a, ns, _, _, rfl, hS, hn, by lia, by lia, by decide, fun way w0 w1 => ?_⟩
    refine ⟨_, rfl, rfl, _, rfl, ?_⟩
    refine ite2 (fun _ => ?_) (fun hk0 => ?_)
    · refine iteT ?_
      exact ⟨_, rfl, _, _, rfl, rfl, by show 6 + x.length ≤ sizeLine; lia, plain⟩
    have hk : k ≠ 0 := fun z => hk0 (decide_eq_true (by rw [z]))
    refine ⟨_, rfl, rfl, _, rfl, ?_⟩
    refine ite2 (fun _ => ?_) (fun _ => ?_)
    · exact ⟨_, rfl, _, _, rfl, rfl, by show 6 + x.length ≤ sizeLine; lia, plain⟩
    -- a lid
    refine ⟨_, rfl, r, _, rfl, dget hr0 (room0_lids _ _ _ _ _), _, rfl, d1, _, rfl, DPut.k (k := (Sum.inr x : Key)) h1 (by lia), ?_⟩
    rw [putK_new _ v1]
    have k1' : ∀ (u : HO) b o, H b = some o → b ≠ d1 → upd H d1 u b = some o := fun u b o e hb => by rw [upd_ne hb]; exact e
    have rK := k1' (.dK (L1 ++ [(Sum.inr x, V.bl true)])) _ _ hr0 n1
    have tK := k1' (.dK (L1 ++ [(Sum.inr x, V.bl true)])) _ _ ht (ne_of ht h1 (by intro z; cases z))
    have dK := k1' (.dK (L1 ++ [(Sum.inr x, V.bl true)])) _ _ h2 (Ne.symm n3)
    have sK := seq_keep (K := K) hS (fun b o e hb => k1' (.dK (L1 ++ [(Sum.inr x, V.bl true)])) b o e hb) h1
    have box : Q (.str (("box " : Str) ++ x)) (upd H d1 (.dK (L1 ++ [(Sum.inr x, V.bl true)]))) :=
      q (.bx x) _ rfl rfl hx (fun z => absurd z hk) (fun y e => nomatch e) upd_same (by show (upd H d1 (.dK (L1 ++ [(Sum.inr x, V.bl true)]))) d2 = some (HO.dK (L2 ++ [])); rw [List.append_nil]; exact dK) fun b o e hb _ => k1' _ b o e hb
    refine ⟨_, rfl, rfl, _, rfl, ?_⟩
    refine ite2 (fun _ => ?_) (fun _ => ?_)
    · refine iteT ?_
      exact ⟨_, rfl, _, _, rfl, rfl, by show 4 + x.length ≤ sizeLine; lia, box⟩
    refine ⟨_, rfl, r, _, rfl, dget rK (room0_things _ _ _ _ _), _, _, rfl, .inl ⟨_, SqL.of tK, rfl⟩, rfl, _, rfl, ?_⟩
    refine ite2 (fun _ => ?_) (fun hne => ?_)
    · exact ⟨_, rfl, _, _, rfl, rfl, by show 4 + x.length ≤ sizeLine; lia, box⟩
    have hlm : (ts.map V.str).length = ts.length := List.length_map ..
    have tpos : 0 < ts.length := by
      rcases Nat.eq_zero_or_pos ts.length with z | z
      · exact absurd (decide_eq_true (by rw [hlm, z]; rfl)) hne
      · exact z
    refine ⟨_, rfl, r, _, rfl, dget rK (room0_things _ _ _ _ _), _, rfl, _, rfl, _, _, rfl, rfl, _, rfl, r, _, rfl, dget rK (room0_things _ _ _ _ _), _, _, rfl, .inl ⟨_, SqL.of tK, rfl⟩, a, ns, _, _, rfl, sK, hn, by lia, by lia, by rw [hlm]; lia, fun j j0 j1 => ?_⟩
    have hj : j.toNat < ts.length := by rw [hlm] at j1; lia
    have hat : atI (ts.map V.str) j = some (.str ts[j.toNat]) := by
      have q := atI_nat (xs := ts.map V.str) (j := j.toNat) (v := .str ts[j.toNat]) (by simp [hj])
      rw [Int.toNat_of_nonneg j0] at q
      exact q
    have hym := List.getElem_mem hj
    have hy := hts _ hym
    have hyl := hy.len
    refine ⟨_, _, _, _, rfl, rfl, SqL.of tK, hat, ?_⟩
    generalize ts[j.toNat] = y at hym hy hyl
    refine ⟨_, rfl, _, rfl, r, _, rfl, dget rK (room0_keys _ _ _ _ _), _, rfl, d2, _, rfl, DPut.k (k := (Sum.inr x : Key)) dK (by lia), ?_⟩
    rw [putK_new _ v2]
    have e1 : ("box " : Str).length = 4 := by decide +kernel
    have e2 : (" " : Str).length = 1 := by decide +kernel
    refine ⟨_, rfl, _, _, rfl, rfl, by show 4 + x.length ≤ sizeLine; lia, _, _, rfl, rfl, by rw [len_app, e1, e2]; lia, _, rfl, _, _, rfl, rfl, by rw [len_app, len_app, e1, e2]; lia, ?_⟩
    refine q (.lk x y) _ rfl rfl ⟨hx, hy⟩ (fun z => absurd z hk) (fun y' e => by cases e; exact hym) ?_ upd_same fun b o e hb hb' => ?_
    · rw [upd_ne n3]
      exact upd_same
    · rw [upd_ne hb']
      exact k1' _ b o e hb
end
end K14
namespace K14
open PySem L2 Tx Rk PyProof.Rows PySem.SeqAt
open PySem.PyData (strOk)
section
variable {P : Program} {w : World} {K : PySem.W.Frag} {mg : Str → Option Value} {base : Heap}
noncomputable abbrev pRoom : List Str := ["_law_script", "_law_places", "_law_things"]
inductive RmSE (H : Hp) (r : Addr) (rs : List Ro) : Prop
  | mk (kvs L3 : List (Key × V)) (p t d1 d2 d3 D : Addr) (c0 : H r = some (.dK kvs)) (c1 : valV kvs (Sum.inr "places" : Key) = some (.ref p)) (c2 : valV kvs (Sum.inr "things" : Key) = some (.ref t)) (c3 : valV kvs (Sum.inr "lids" : Key) = some (.ref d1)) (c4 : valV kvs (Sum.inr "keys" : Key) = some (.ref d2)) (c5 : valV kvs (Sum.inr "shapes" : Key) = some (.ref d3)) (c6 : valV kvs (Sum.inr "lines" : Key) = some (.ref D)) (c7 : H p = some (.lst (((plc rs).map (·.1)).map V.str))) (c8 : H t = some (.lst (((ths rs).map (·.1)).map V.str))) (c9 : H d1 = some (.dK (lidsK rs))) (c10 : H d2 = some (.dK (keysK rs))) (c11 : H d3 = some (.dK L3)) (c12 : H D = some (.lst ((rs.map Ro.txt).map V.str))) (c13 : ∀ x ∈ ths rs, valV L3 (Sum.inr x.1 : Key) = some (.str x.2)) : RmSE H r rs
structure RmS (H : Hp) (r : Addr) (rs : List Ro) : Prop where
  ex : RmSE H r rs
  good : Good rs
theorem RmS.same {H H' : Hp} {r : Addr} {rs : List Ro} (R : RmS H r rs) (s : Same H H') : RmS H' r rs := by
  obtain ⟨⟨kvs, L3, p, t, d1, d2, d3, D, h1, h2, h3, h4, h5, h6, h7, g1, g2, g3, g4, g5, g6, g7⟩, g⟩ := R
  exact ⟨⟨kvs, L3, p, t, d1, d2, d3, D, s _ _ h1, h2, h3, h4, h5, h6, h7, s _ _ g1, s _ _ g2, s _ _ g3, s _ _ g4, s _ _ g5, s _ _ g6, g7⟩, g⟩
theorem good_nv {rs : List Ro} (g : Good rs) {x : Str} (h : x ∈ rs.map Ro.name) : Nv x := by
  obtain ⟨r, hr, rfl⟩ := List.mem_map.mp h
  exact Ro.nv_name (g.nv r hr)
theorem nv_sk {x : Str} (h : Nv x) : Sk x := ⟨h.ok, by have := h.len; lia⟩
inductive spRoom (K : PySem.W.Frag) (vs : List V) (H : Hp) (Q : VK) (E0_ : XK) : Prop
  | mk (a : Addr) (ns : List Int) (p m : Int) (c0 : vs = [.ref a, .int p, .int m]) (c1 : SqL K H a (ns.map V.int)) (c2 : ns.length ≤ 63) (c3 : 1 ≤ p) (c4 : p ≤ 6) (c5 : 0 ≤ m) (c6 : m ≤ 6) (c7 : ∀ (r : Addr) (rs : List Ro) (H' : Hp), Same H H' → RmS H' r rs → ((plc rs).length : Int) = p → ((ths rs).length : Int) = m → rs.length ≤ 12 → Q (.ref r) H') : spRoom K vs H Q E0_
noncomputable abbrev nRoom : List Str := ["_law_script", "_law_places", "_law_things", "_law_names_here", "_law_room_here", "_law_k", "_law_lines", "_law_shapes", "_law_thing", "_law_at"]
structure Mk (H H2 : Hp) (r p t d1 d2 d3 l D : Addr) (xs : List Str) (n : Nat) (rs : List Ro) (i : Nat) : Prop where
  sm : Same H H2
  room : H2 r = some (.dK (room0 p t d1 d2 d3))
  pl : H2 p = some (.lst ((xs.take n).map V.str))
  th : H2 t = some (.lst ((xs.drop n).map V.str))
  l1 : H2 d1 = some (.dK (lidsK rs))
  l2 : H2 d2 = some (.dK (keysK rs))
  l3 : ∃ L, H2 d3 = some (.dK L) ∧ L.length ≤ i ∧ ∀ x ∈ ths rs, valV L (Sum.inr x.1 : Key) = some (.str x.2)
  nm : H2 l = some (.lst (xs.map V.str))
  ln : H2 D = some (.lst ((rs.map Ro.txt).map V.str))
  ok : ∀ x ∈ rs, x.nv
  len : rs.length = i
  ks : ∀ x y, Ro.lk x y ∈ rs → y ∈ xs.drop n
structure Ap (H : Hp) (r p t d1 d2 d3 l D : Addr) : Prop where
  fr : H r = none
  f1 : H d1 = none
  f2 : H d2 = none
  f3 : H d3 = none
  fl : H l = none
  fD : H D = none
  r1 : r ≠ d1
  r2 : r ≠ d2
  r3 : r ≠ d3
  n12 : d1 ≠ d2
  n13 : d1 ≠ d3
  n23 : d2 ≠ d3
  Dp : D ≠ p
  Dt : D ≠ t
  Dl : D ≠ l
theorem scRoom : FnScope nRoom pRoom (defScope sRoom) := ⟨rfl, rfl, rfl, by decide +kernel, rfl, by decide +kernel, by decide +kernel⟩
theorem kind_ne {H : Hp} {a b : Addr} {xs : List V} {L : List (Key × V)} (h : H a = some (.lst xs)) (h' : H b = some (.dK L)) : a ≠ b := ne_of h h' (by intro z; cases z)
theorem upd_none {H : Hp} {a b : Addr} {o : HO} (h : upd H a o b = none) : b ≠ a ∧ H b = none := by
  by_cases e : b = a
  · subst e
    rw [upd_same] at h
    cases h
  · rw [upd_ne e] at h
    exact ⟨e, h⟩
theorem at_mapI {xs : List Str} {j : Int} (h0 : 0 ≤ j) (h1 : j < (xs.length : Int)) : ∃ x ∈ xs, xs[j.toNat]? = some x ∧ atI (xs.map V.str) j = some (.str x) := by
  have hj : j.toNat < xs.length := by lia
  refine ⟨xs[j.toNat], List.getElem_mem hj, List.getElem?_eq_getElem hj, ?_⟩
  have q := atI_nat (xs := xs.map V.str) (j := j.toNat) (v := .str xs[j.toNat]) (by simp [hj])
  rw [Int.toNat_of_nonneg h0] at q
  exact q
theorem at_map {xs : List Str} {j : Int} (h0 : 0 ≤ j) (h1 : j < (xs.length : Int)) : ∃ x ∈ xs, atI (xs.map V.str) j = some (.str x) := by
  obtain ⟨x, a, _, b⟩ := at_mapI h0 h1
  exact ⟨x, a, b⟩
theorem room0_merge (p t d1 d2 d3 : Addr) : mergeK [] (room0 p t d1 d2 d3) = room0 p t d1 d2 d3 := by
  with_unfolding_all rfl
theorem plc_names : ∀ {rs : List Ro}, (∀ r ∈ rs, r.isP = true) → (plc rs).map (·.1) = rs.map Ro.name ∧ ths rs = []
  | [], _ => ⟨rfl, rfl⟩
  | .th n s :: r, h => nomatch h _ List.mem_cons_self
  | .pl n :: r, h => by
    obtain ⟨a, b⟩ := plc_names (rs := r) fun x hx => h x (List.mem_cons_of_mem _ hx)
    exact ⟨by rw [show plc (.pl n :: r) = (n, false, none) :: plc r from rfl, List.map_cons, List.map_cons, a]; rfl, b⟩
  | .bx n :: r, h => by
    obtain ⟨a, b⟩ := plc_names (rs := r) fun x hx => h x (List.mem_cons_of_mem _ hx)
    exact ⟨by rw [show plc (.bx n :: r) = (n, true, none) :: plc r from rfl, List.map_cons, List.map_cons, a]; rfl, b⟩
  | .lk n k :: r, h => by
    obtain ⟨a, b⟩ := plc_names (rs := r) fun x hx => h x (List.mem_cons_of_mem _ hx)
    exact ⟨by rw [show plc (.lk n k :: r) = (n, true, some k) :: plc r from rfl, List.map_cons, List.map_cons, a]; rfl, b⟩
theorem plc_key : ∀ {rs : List Ro} {p : Str × Bool × Option Str} {k : Str}, p ∈ plc rs → p.2.2 = some k → ∃ n, Ro.lk n k ∈ rs
  | [], _, _, h, _ => nomatch h
  | .th n s :: r, p, k, h, e => by
    obtain ⟨n, z⟩ := plc_key (rs := r) h e
    exact ⟨n, List.mem_cons_of_mem _ z⟩
  | .pl n :: r, p, k, h, e => by
    rcases List.mem_cons.mp (show p ∈ (n, false, none) :: plc r from h) with z | z
    · rw [z] at e; cases e
    · obtain ⟨n, z⟩ := plc_key (rs := r) z e
      exact ⟨n, List.mem_cons_of_mem _ z⟩
  | .bx n :: r, p, k, h, e => by
    rcases List.mem_cons.mp (show p ∈ (n, true, none) :: plc r from h) with z | z
    · rw [z] at e; cases e
    · obtain ⟨n, z⟩ := plc_key (rs := r) z e
      exact ⟨n, List.mem_cons_of_mem _ z⟩
  | .lk n k' :: r, p, k, h, e => by
    rcases List.mem_cons.mp (show p ∈ (n, true, some k') :: plc r from h) with z | z
    · rw [z] at e
      cases e
      exact ⟨n, List.mem_cons_self⟩
    · obtain ⟨n, z⟩ := plc_key (rs := r) z e
      exact ⟨n, List.mem_cons_of_mem _ z⟩
theorem len_rows (rs : List Ro) : rs.length = (plc rs).length + (ths rs).length := by
  have h := (names_perm rs).length_eq
  rw [List.length_map, List.length_append, List.length_map, List.length_map] at h
  exact h
theorem good_of {rs : List Ro} {xs : List Str} {n : Nat} (nd : xs.Nodup) (hn : n ≤ 6) (hl : xs.length ≤ n + 6) (ok : ∀ x ∈ rs, x.nv) (hp : (plc rs).map (·.1) = xs.take n) (ht : ((ths rs).map (·.1)).Perm (xs.drop n)) (fl : ∃ m t, plc rs = (m, false, none) :: t)
    (ks : ∀ x y, Ro.lk x y ∈ rs → y ∈ xs.drop n) : Good rs := by
  have hpl : (plc rs).length ≤ n := by
    have := congrArg List.length hp
    rw [List.length_map, List.length_take] at this
    lia
  have htl : (ths rs).length ≤ 6 := by
    have := ht.length_eq
    rw [List.length_map, List.length_drop] at this
    lia
  refine ⟨ok, ?_, fl, by lia, htl, fun p h k e => ?_⟩
  · refine (names_perm rs).nodup_iff.mpr ?_
    rw [hp]
    refine (List.Perm.append_left _ ht).nodup_iff.mpr ?_
    rw [List.take_append_drop]
    exact nd
  · obtain ⟨m, z⟩ := plc_key h e
    exact ht.mem_iff.mpr (ks m k z)
end
end K14
namespace K14
open PySem L2 Tx Rk PyProof.Rows PySem.SeqAt
open PySem.PyData (strOk)
section
variable {P : Program} {w : World} {K : PySem.W.Frag} {mg : Str → Option Value} {base : Heap}
theorem ok_room {f fP fN fL : Addr} {fd fdP fdN fdL : FuncData} (F : Fun K "_law_room" "_law_room" sRoom f fd) (DP : Df K mg "_law_pick" sPick pPick fP fdP)
    (DN : Df K mg "_law_names" sNames pPick fN fdN) (DL : Df K mg "_law_place_line" sLine pLine fL fdL) (T : Bl mg)
    (GP : FnOk P w K mg base CX0 1 fP fdP pPick (spPick K)) (GN : FnOk P w K mg base CX0 2 fN fdN pPick (spNames K)) (GL : FnOk P w K mg base CX0 2 fL fdL pLine (spLine K)) : FnOk P w K mg base CX0 3 f fd pRoom (spRoom K) := by
  refine F.ok scRoom (fun vs H Q E h => ?_) (fun cdv A outer s H vs Q E hr h => ?_)
  · obtain ⟨a, ns, p, m, rfl, _⟩ := h
    rfl
  · obtain ⟨a, ns, p, m, rfl, hS, hn, p0, p1, m0, m1, q⟩ := h
    have hr1 : Room 1 _ := hr.mono (by decide)
    have hu := hu_of hr
    have hsl : sizeLine = 16777216 := sizeLine_eq
    -- all behind the reversal
    have tail : ∃ t, PSs (cxOf CX0 P w K mg base nRoom "_law_room" (defScope sRoom) f cdv A outer s H E).nox ((defBody sRoom).drop 2) t ∧
        ∀ (l : Addr) (xs : List Str) (H2 : Hp), Same H H2 → H l = none → H2 l = some (.lst (xs.map V.str)) → (xs.length : Int) = p + m → (∀ x ∈ xs, Nv x) → xs.Nodup →
          t { nx := fun _ H' => Q .non H', rt := Q } [some (.ref a), some (.int p), some (.int m), some (.ref l), none, none, none, none, none, none] H2 := by
      refine ⟨_, (pss_cons (ps_set (i := 4) scRoom.nd rfl (Or.inr rfl) (pe_disp (pps_cons pe_str (pe_slice sl_list (pv 3) po_none (po_some (pv 1))) (pps_cons pe_str (pe_slice sl_list (pv 3) (po_some (pv 1)) po_none) (pps_cons pe_str pe_dnewK (pps_cons pe_str pe_dnewK (pps_cons pe_str pe_dnewK pps_nil))))) rfl rfl (by decide) (by decide)))
      (pss_cons (ps_lc (i := 6) (N := ["_law_k", "_law_script", "_law_room_here", "_law_names_here"]) (sc := defScope sRoom) (own := ["_law_k"]) (fr := ["_law_script", "_law_room_here", "_law_names_here"]) (js := [0, 4, 3]) scRoom.nd rfl rfl ⟨rfl, rfl, rfl, rfl, by decide +kernel, by decide +kernel, by decide +kernel, rfl, by decide +kernel⟩ rfl (pi_range1 (by rfl) T.range (pa_cons (pv 1) pa_nil)) (fun _ _ _ _ => pg_name (i := 0) (show List.Nodup (["_law_k", "_law_script", "_law_room_here", "_law_names_here"] : List Str) by decide +kernel) rfl (Or.inl rfl)) (fun _ _ _ _ => pif_nil) (fun _ _ _ _ => (pe_call GL hr (by rfl) DL.m DL.F.kp DL.b .nil pass0 (pa_cons (pv 1) (pa_cons (pv 0) (pa_cons (pv 2) (pa_cons (pe_ix (ix_listK K rfl) (pv 3) (pv 0) (fun _ _ => rfl)) pa_nil)))))))
      (pss_cons (ps_set (i := 7) scRoom.nd rfl (Or.inl rfl) (pe_op op_cat (pe_call GN hr (by rfl) DN.m DN.F.kp DN.b .nil pass0 (pa_cons (pv 0) (pa_cons pe_int (pa_cons pe_int pa_nil)))) (pe_lst (pa_cons (pe_ix ix_list (pv 3) pe_int (fun _ _ => rfl)) pa_nil))))
      (pss_cons (ps_for PassesOwn.never rfl (pi_range1 (by rfl) T.range (pa_cons (pv 2) pa_nil)) (pg_name (i := 5) scRoom.nd rfl (Or.inl rfl)) (pss_cons (ps_set (i := 8) scRoom.nd rfl (Or.inl rfl) (pe_ix ix_list (pv 3) (pe_op op_add (pv 1) (pv 5)) (fun _ _ => rfl)))
      (pss_cons (ps_dput hu (pe_dget hu (pv 4) pe_str (fun _ _ => rfl)) (pv 8) (pe_ix ix_list (pv 7) (pe_call GP hr1 (by rfl) DP.m DP.F.kp DP.b .nil pass0 (pa_cons (pv 0) (pa_cons (pe_op op_add pe_int (pv 5)) (pa_cons pe_int pa_nil)))) (fun _ _ => rfl)) rfl)
      (pss_cons (ps_set (i := 9) scRoom.nd rfl (Or.inl rfl) (pe_call GP hr1 (by rfl) DP.m DP.F.kp DP.b .nil pass0 (pa_cons (pv 0) (pa_cons (pe_op op_add pe_int (pv 5)) (pa_cons (pe_op op_add (pe_callB call_len (by rfl) T.len PySem.boot_len (pa_cons (pv 6) pa_nil)) pe_int) pa_nil)))))
      (pss_one (ps_expr (pe_bm PySem.F.plainAttrs_list PySem.F.slot_list_insert PySem.F.type_list_insert mt_insert (pv 6) (pa_cons (pv 9) (pa_cons (pe_op op_add_str (pe_op op_add_str (pe_op op_add_str pe_str (pv 8)) pe_str) (pe_dget hu (pe_dget hu (pv 4) pe_str (fun _ _ => rfl)) (pv 8) (fun _ _ => rfl))) pa_nil)))))))))
      (pss_cons (ps_dput hu (pv 4) pe_str (pe_lc (N := ["_law_line"]) (sc := defScope sRoom) (own := ["_law_line"]) (fr := []) (js := []) ⟨rfl, rfl, rfl, rfl, by decide +kernel, by decide +kernel, by decide +kernel, rfl, by decide +kernel⟩ rfl (pi_list (pv 6)) (fun _ _ _ _ => pg_name (i := 0) (show List.Nodup (["_law_line"] : List Str) by decide +kernel) rfl (Or.inl rfl)) (fun _ _ _ _ => pif_one (pt_val (bmK K rfl (pe_bm PySem.F.plainAttrs_str PySem.F.slot_str_startswith PySem.F.type_str_startswith mt_starts (pv 0) (pa_cons pe_str pa_nil))))) (fun _ _ _ _ => (pe_ix (ix_listK K rfl) (bmK K rfl (pe_bm PySem.F.plainAttrs_str PySem.F.slot_str_split PySem.F.type_str_split mt_split (pv 0) (pa_cons pe_str pa_nil))) pe_int (fun _ _ => rfl)))) rfl)
      (pss_cons (ps_dput hu (pv 4) pe_str (pv 6) rfl)
      (pss_one (ps_ret (pv 4))))))))), ?_⟩
      intro l xs H2 sm hl hl2 hxl hxs hnd
      have hml : (xs.map V.str).length = xs.length := List.length_map ..
      obtain ⟨pn, hpn⟩ : ∃ pn : Nat, (pn : Int) = p := ⟨p.toNat, Int.toNat_of_nonneg (by lia)⟩
      obtain ⟨mn, hmn⟩ : ∃ mn : Nat, (mn : Int) = m := ⟨m.toNat, Int.toNat_of_nonneg (by lia)⟩
      have hS2 := sm.seq hS
      -- the dict
      intro r hr2
      refine ⟨_, rfl, _, rfl, _, rfl, l, _, rfl, SqL.of (by rw [upd_ne (ne_of_none hl2 hr2)]; exact hl2), fun pl hpl => ?_⟩
      obtain ⟨a1, a2⟩ := upd_none hpl
      refine ⟨_, rfl, _, rfl, _, rfl, l, _, rfl, SqL.of (by rw [upd_ne (ne_of_none hl2 a2), upd_ne (ne_of_none hl2 hr2)]; exact hl2), fun th hth => ?_⟩
      obtain ⟨b1, b2⟩ := upd_none hth
      obtain ⟨b3, b4⟩ := upd_none b2
      intro d1 hd1
      obtain ⟨c1, c2⟩ := upd_none hd1
      obtain ⟨c3, c4⟩ := upd_none c2
      obtain ⟨c5, c6⟩ := upd_none c4
      intro d2 hd2
      obtain ⟨e1, e2⟩ := upd_none hd2
      obtain ⟨e3, e4⟩ := upd_none e2
      obtain ⟨e5, e6⟩ := upd_none e4
      obtain ⟨e7, e8⟩ := upd_none e6
      intro d3 hd3
      obtain ⟨g1, g2⟩ := upd_none hd3
      obtain ⟨g3, g4⟩ := upd_none g2
      obtain ⟨g5, g6⟩ := upd_none g4
      obtain ⟨g7, g8⟩ := upd_none g6
      obtain ⟨g9, g10⟩ := upd_none g8
      have cut1 : cutV (xs.map V.str) none (some p) = (xs.take pn).map V.str := by
        rw [← hpn]
        unfold cutV
        rw [HT.sIx_none, HT.sIx_nat, List.drop_zero, Nat.sub_zero, hml, List.map_take]
        congr 1
        lia
      have cut2 : cutV (xs.map V.str) (some p) none = (xs.drop pn).map V.str := by
        rw [← hpn]
        unfold cutV
        rw [HT.sIx_none, HT.sIx_nat, hml, List.map_drop, Nat.min_eq_left (by lia)]
        refine List.take_of_length_le ?_
        simp
      refine ⟨by rw [upd_ne g9.symm, upd_ne e7.symm, upd_ne c5.symm, upd_ne b3.symm, upd_ne a1.symm]; exact upd_same, room0 pl th d1 d2 d3, rfl, by show 5 ≤ 15; decide, ?_⟩
      rw [room0_merge]
      have frH : ∀ {b : Addr}, H2 b = none → H b = none := fun e => sm.free e
      -- the heap with the room in it
      have sm3 : ∀ b o, H2 b = some o → (upd (upd (upd (upd (upd (upd (upd H2 r (.dK [])) pl (.lst (cutV (xs.map V.str) none (some p)))) th (.lst (cutV (xs.map V.str) (some p) none))) d1 (.dK [])) d2 (.dK [])) d3 (.dK [])) r (.dK (room0 pl th d1 d2 d3))) b = some o := fun b o e => by
        rw [upd_ne (ne_of_none e hr2), upd_ne (ne_of_none e g10), upd_ne (ne_of_none e e8), upd_ne (ne_of_none e c6), upd_ne (ne_of_none e b4), upd_ne (ne_of_none e a2), upd_ne (ne_of_none e hr2)]
        exact e
      have M0 : ∀ D, (upd (upd (upd (upd (upd (upd (upd H2 r (.dK [])) pl (.lst (cutV (xs.map V.str) none (some p)))) th (.lst (cutV (xs.map V.str) (some p) none))) d1 (.dK [])) d2 (.dK [])) d3 (.dK [])) r (.dK (room0 pl th d1 d2 d3))) D = none →
          Ap H r pl th d1 d2 d3 l D ∧ Mk H (upd (upd (upd (upd (upd (upd (upd (upd H2 r (.dK [])) pl (.lst (cutV (xs.map V.str) none (some p)))) th (.lst (cutV (xs.map V.str) (some p) none))) d1 (.dK [])) d2 (.dK [])) d3 (.dK [])) r (.dK (room0 pl th d1 d2 d3))) D (.lst [])) r pl th d1 d2 d3 l D xs pn [] 0 := fun D hD => by
        obtain ⟨k1, k2⟩ := upd_none hD
        obtain ⟨k3, k4⟩ := upd_none k2
        obtain ⟨k5, k6⟩ := upd_none k4
        obtain ⟨k7, k8⟩ := upd_none k6
        obtain ⟨k9, k10⟩ := upd_none k8
        obtain ⟨k11, k12⟩ := upd_none k10
        obtain ⟨k13, k14⟩ := upd_none k12
        refine ⟨⟨frH hr2, frH c6, frH e8, frH g10, hl, frH k14, c5.symm, e7.symm, g9.symm, e1.symm, g3.symm, g1.symm, k11, k9, fun z => by rw [z] at k14; rw [k14] at hl2; cases hl2⟩, ?_⟩
        refine ⟨fun b o e => by rw [upd_ne (ne_of_none (sm b o e) k14)]; exact sm3 b o (sm b o e), by rw [upd_ne k1.symm]; exact upd_same, ?_, ?_, ?_, ?_, ⟨[], ?_, Nat.le_refl _, fun _ z => nomatch z⟩, by rw [upd_ne (ne_of_none hl2 k14)]; exact sm3 _ _ hl2, upd_same, (fun _ z => nomatch z), rfl, fun _ _ z => nomatch z⟩
        · rw [upd_ne k11.symm, upd_ne a1, upd_ne g7.symm, upd_ne e5.symm, upd_ne c3.symm, upd_ne b1.symm, upd_same, cut1]
        · rw [upd_ne k9.symm, upd_ne b3, upd_ne g5.symm, upd_ne e3.symm, upd_ne c1.symm, upd_same, cut2]
        · rw [upd_ne k7.symm, upd_ne c5, upd_ne g3.symm, upd_ne e1.symm, upd_same]
          rfl
        · rw [upd_ne k5.symm, upd_ne e7, upd_ne g1.symm, upd_same]
          rfl
        · rw [upd_ne k3.symm, upd_ne g9, upd_same]
      generalize (upd (upd (upd (upd (upd (upd (upd H2 r (.dK [])) pl (.lst (cutV (xs.map V.str) none (some p)))) th (.lst (cutV (xs.map V.str) (some p) none))) d1 (.dK [])) d2 (.dK [])) d3 (.dK [])) r (.dK (room0 pl th d1 d2 d3))) = H3 at M0 sm3 ⊢
      -- the lines of the places
      refine ⟨_, rfl, p, rfl, by lia, by lia, fun D hD => ?_⟩
      obtain ⟨ap, m0'⟩ := M0 D hD
      refine lcJ (n := p.toNat) (fun i ys H4 => ∃ rs : List Ro, ys = (rs.map Ro.txt).map V.str ∧ rs.map Ro.name = xs.take i ∧ (∀ ro ∈ rs, ro.isP = true) ∧ (rs = [] ∨ ∃ x t, rs = .pl x :: t) ∧ Mk H H4 r pl th d1 d2 d3 l D xs pn rs i) ⟨[], rfl, rfl, (fun _ z => nomatch z), .inl rfl, m0'⟩ (fun i _ _ hi _ => hi) (fun _ _ _ => Nat.le_refl _) ?_ ?_
      · rintro i ys H4 x H5 hi ⟨rs, rfl, hnm, hisP, hfl, M⟩ ⟨rfl, rfl⟩
        refine lc_yes ?_
        obtain ⟨x, hxm, hxi, hat⟩ := at_mapI (xs := xs) (j := 0 + (i : Int)) (by lia) (by lia)
        have hxi' : xs[i]? = some x := by
          rw [show (0 + (i : Int)).toNat = i by lia] at hxi
          exact hxi
        have hil : i < xs.length := (List.getElem?_eq_some_iff.mp hxi').1
        have htk : xs.take (i + 1) = xs.take i ++ [x] := by
          rw [List.take_succ_eq_append_getElem hil]
          congr 2
          exact (List.getElem?_eq_some_iff.mp hxi').2
        have hxn : x ∉ rs.map Ro.name := by
          rw [hnm]
          have nd2 : (xs.take (i + 1)).Nodup := List.Sublist.nodup (List.take_sublist _ _) hnd
          rw [htk] at nd2
          intro z
          exact ((List.nodup_append.mp nd2).2.2 x z x (List.mem_singleton.mpr rfl)) rfl
        obtain ⟨L3, q3, z3, w3⟩ := M.l3
        have b1 := lidsK_len rs
        have b2 := keysK_len rs
        have bl := M.len
        refine ⟨_, rfl, _, rfl, _, rfl, _, rfl, _, rfl, l, _, _, _, rfl, rfl, SqL.of M.nm, hat, ?_⟩
        refine ⟨a, ns, _, r, pl, th, d1, d2, d3, x, xs.drop pn, lidsK rs, keysK rs, rfl, M.sm.seq hS, hn, by lia, by lia, hxs x hxm, M.room, M.th, fun y hy => hxs y (List.mem_of_mem_drop hy), by rw [List.length_drop]; lia, M.l1, M.l2, by lia, by lia, ap.r1, ap.r2, ap.n12, lidsK_none hxn, keysK_none hxn, fun ro H6 hro hP hnv hk0 hkt u1 u2 kp => ?_⟩
        have nD1 : D ≠ d1 := kind_ne M.ln M.l1
        have nD2 : D ≠ d2 := kind_ne M.ln M.l2
        have nD3 : D ≠ d3 := kind_ne M.ln q3
        have nDr : D ≠ r := kind_ne M.ln M.room
        have th0 := (plc_names hisP).2
        have th1 : ths (rs ++ [ro]) = [] := by
          rw [ths_app, th0]
          cases ro with
          | th n s => cases hP
          | _ => rfl
        refine ⟨_, kp D _ M.ln nD1 nD2, by rw [List.length_map, List.length_map]; lia, rs ++ [ro], by simp, by rw [List.map_append, hnm, htk]; show _ ++ [ro.name] = _; rw [hro], fun y hy => ?_, ?_, ?_⟩
        · rcases List.mem_append.mp hy with z | z
          · exact hisP y z
          · rw [List.mem_singleton.mp z]; exact hP
        · refine .inr ?_
          rcases hfl with z | ⟨x0, t, z⟩
          · rw [z]
            have hi0 : i = 0 := by
              have := congrArg List.length hnm
              rw [z, List.length_map, List.length_take] at this
              simp at this
              lia
            exact ⟨x, [], by rw [hk0 (by lia)]; rfl⟩
          · exact ⟨x0, t ++ [ro], by rw [z]; rfl⟩
        refine ⟨fun b o e => ?_, ?_, ?_, ?_, ?_, ?_, ⟨L3, by rw [upd_ne nD3.symm]; exact kp _ _ q3 ap.n13.symm ap.n23.symm, by lia, by rw [th1]; exact fun _ z => nomatch z⟩, ?_, by rw [upd_same]; simp, fun z hz => ?_, by rw [List.length_append, bl]; rfl, fun y z hz => ?_⟩
        · rw [upd_ne (ne_of_none e ap.fD)]
          exact kp b o (M.sm b o e) (ne_of_none e ap.f1) (ne_of_none e ap.f2)
        · rw [upd_ne nDr.symm]
          exact kp _ _ M.room ap.r1 ap.r2
        · rw [upd_ne ap.Dp.symm]
          exact kp _ _ M.pl (kind_ne M.pl M.l1) (kind_ne M.pl M.l2)
        · rw [upd_ne ap.Dt.symm]
          exact kp _ _ M.th (kind_ne M.th M.l1) (kind_ne M.th M.l2)
        · rw [upd_ne nD1.symm, lidsK_app]
          exact u1
        · rw [upd_ne nD2.symm, keysK_app]
          exact u2
        · rw [upd_ne ap.Dl.symm]
          exact kp _ _ M.nm (kind_ne M.nm M.l1) (kind_ne M.nm M.l2)
        · rcases List.mem_append.mp hz with hz | hz
          · exact M.ok z hz
          · rw [List.mem_singleton.mp hz]; exact hnv
        · rcases List.mem_append.mp hz with hz | hz
          · exact M.ks y z hz
          · have e := List.mem_singleton.mp hz
            have ey : y = x := by rw [← hro, ← e]; rfl
            subst ey
            exact hkt z e.symm
      · rintro ys H4 ⟨rs, rfl, hnm, hisP, hfl, M⟩
        have hpt : p.toNat = pn := by lia
        rw [hpt] at hnm M
        -- the shapes
        refine ⟨_, rfl, a, ns, _, _, rfl, M.sm.seq hS, hn, by decide, by decide, by decide, by decide, fun l2 zs H5 s5 f5 e5 hz5 hzn hznd => ?_⟩
        obtain ⟨x0, hx0, _, hat0⟩ := at_mapI (xs := xs) (j := 0) (by decide) (by lia)
        refine ⟨_, rfl, l, _, _, _, rfl, rfl, SqL.of (s5 _ _ M.nm), hat0, by show 1 ≤ sizeLine; decide, fun l3 hl3 => ?_⟩
        refine ⟨l2, l3, _, _, rfl, rfl, by rw [upd_ne (ne_of_none e5 hl3)]; exact e5, upd_same, by rw [List.length_map]; show zs.length + 1 ≤ sizeLine; lia, fun sh hsh => ?_⟩
        obtain ⟨y1, y2⟩ := upd_none hsh
        have s6 : ∀ b o, H4 b = some o → (upd (upd H5 l3 (.lst [V.str x0])) sh (.lst (zs.map V.str ++ [V.str x0]))) b = some o := fun b o e => by
          rw [upd_ne (ne_of_none (s5 b o e) y2), upd_ne (ne_of_none (s5 b o e) hl3)]
          exact s5 b o e
        have M6 : Mk H (upd (upd H5 l3 (.lst [V.str x0])) sh (.lst (zs.map V.str ++ [V.str x0]))) r pl th d1 d2 d3 l D xs pn rs (pn + 0) := by
          obtain ⟨L3, q3, z3, w3⟩ := M.l3
          exact ⟨fun b o e => s6 b o (M.sm b o e), s6 _ _ M.room, s6 _ _ M.pl, s6 _ _ M.th, s6 _ _ M.l1, s6 _ _ M.l2, ⟨L3, s6 _ _ q3, by lia, w3⟩, s6 _ _ M.nm, s6 _ _ M.ln, M.ok, M.len, M.ks⟩
        have hsh6 : (upd (upd H5 l3 (.lst [V.str x0])) sh (.lst (zs.map V.str ++ [V.str x0]))) sh = some (.lst ((zs ++ [x0]).map V.str)) := by rw [upd_same]; simp
        have hss : ∀ z ∈ zs ++ [x0], Nv z := fun z hz => by
          rcases List.mem_append.mp hz with hz | hz
          · exact hzn z hz
          · rw [List.mem_singleton.mp hz]; exact hxs x0 hx0
        have hsl4 : (zs ++ [x0]).length = 4 := by rw [List.length_append]; show zs.length + 1 = 4; lia
        generalize (upd (upd H5 l3 (.lst [V.str x0])) sh (.lst (zs.map V.str ++ [V.str x0]))) = H6 at M6 hsh6 ⊢
        generalize zs ++ [x0] = ss at hsh6 hss hsl4
        have fsh : sh ≠ D := fun z => by
          have := s5 _ _ M.ln
          rw [← z, y2] at this
          cases this
        have fsd : sh ≠ d3 := fun z => by
          obtain ⟨L3, q3, _⟩ := M.l3
          have := s5 _ _ q3
          rw [← z, y2] at this
          cases this
        have plN := plc_names hisP
        have hfl' : ∃ n t, plc rs = (n, false, none) :: t := by
          rcases hfl with z | ⟨x, t, z⟩
          · have := M.len
            rw [z] at this
            simp at this
            lia
          · exact ⟨x, plc t, by rw [z]; rfl⟩
        -- the lines of the things
        refine ⟨_, rfl, m, rfl, by lia, by lia, for_range (n := m.toNat) (fun i σ H7 => ∃ (v5 v8 v9 : Option V) (rs' : List Ro),
          σ = [some (.ref a), some (.int p), some (.int m), some (.ref l), some (.ref r), v5, some (.ref D), some (.ref sh), v8, v9] ∧ plc rs' = plc rs ∧ ((ths rs').map (·.1)).Perm ((xs.drop pn).take i) ∧ Mk H H7 r pl th d1 d2 d3 l D xs pn rs' (pn + i) ∧ H7 sh = some (.lst (ss.map V.str)))
          ⟨none, none, none, rs, rfl, rfl, by rw [plN.2]; exact .nil, M6, hsh6⟩ ?_ ?_⟩
        · rintro i σ H7 hi ⟨v5, v8, v9, rs', rfl, hpl', hth', M, hsh7⟩
          obtain ⟨x, hxm, hxi, hat⟩ := at_mapI (xs := xs) (j := p + (0 + (i : Int))) (by lia) (by lia)
          have hxN := hxs x hxm
          have hxL := hxN.len
          have hxi' : (xs.drop pn)[i]? = some x := by
            rw [List.getElem?_drop]
            rw [show (p + (0 + (i : Int))).toNat = pn + i by lia] at hxi
            exact hxi
          have hil : i < (xs.drop pn).length := (List.getElem?_eq_some_iff.mp hxi').1
          have htk : (xs.drop pn).take (i + 1) = (xs.drop pn).take i ++ [x] := by
            rw [List.take_succ_eq_append_getElem hil]
            congr 2
            exact (List.getElem?_eq_some_iff.mp hxi').2
          have hxn : x ∉ (xs.drop pn).take i := by
            have nd2 : ((xs.drop pn).take (i + 1)).Nodup := List.Sublist.nodup ((List.take_sublist _ _).trans (List.drop_sublist _ _)) hnd
            rw [htk] at nd2
            intro z
            exact ((List.nodup_append.mp nd2).2.2 x z x (List.mem_singleton.mpr rfl)) rfl
          obtain ⟨L3, q3, z3, w3⟩ := M.l3
          have bl := M.len
          have hS7 := M.sm.seq hS
          refine ⟨_, rfl, _, rfl, _, rfl, _, _, rfl, rfl, l, _, _, _, rfl, rfl, SqL.of M.nm, hat, ?_⟩
          refine ⟨_, rfl, _, rfl, _, rfl, _, _, rfl, rfl, a, ns, _, _, rfl, hS7, hn, by lia, by lia, by decide, fun j j0 j1 => ?_⟩
          obtain ⟨y, hym, _, hay⟩ := at_mapI (xs := ss) (j := j) j0 (by lia)
          have hyN := hss y hym
          have hyL := hyN.len
          refine ⟨sh, _, _, _, rfl, rfl, SqL.of hsh7, hay, _, rfl, r, _, rfl, dget M.room (room0_shapes _ _ _ _ _), _, rfl, d3, _, rfl, DPut.k (k := (Sum.inr x : Key)) q3 (by lia), ?_⟩
          have kp : ∀ b o, H7 b = some o → b ≠ d3 → (upd H7 d3 (.dK (putK L3 (Sum.inr x) (V.str y)))) b = some o := fun b o e hb => by rw [upd_ne hb]; exact e
          have nD3 : D ≠ d3 := kind_ne M.ln q3
          have lnK := kp _ _ M.ln nD3
          have sK := seq_keep (K := K) hS7 kp q3
          have z3' := length_putK L3 (Sum.inr x : Key) (V.str y)
          have hlm : ((rs'.map Ro.txt).map V.str).length = rs'.length := by rw [List.length_map, List.length_map]
          refine ⟨_, rfl, _, rfl, _, _, rfl, rfl, _, rfl, _, _, rfl, .inl ⟨_, SqL.of lnK, rfl⟩, _, _, rfl, rfl, a, ns, _, _, rfl, sK, hn, by lia, by lia, by lia, fun at' a0 a1 => ?_⟩
          rw [hlm] at a1
          have t1 : ("thing " : Str).length = 6 := by decide +kernel
          have t2 : (" " : Str).length = 1 := by decide +kernel
          have hv : valV (putK L3 (Sum.inr x : Key) (V.str y)) (Sum.inr x : Key) = some (V.str y) := by rw [valV_put, if_pos rfl]
          refine ⟨_, rfl, .inl ⟨rfl, _, SqL.of lnK⟩, _, rfl, _, rfl, _, _, rfl, rfl, by rw [t1]; lia, _, _, rfl, rfl, by rw [len_app, t1, t2]; lia, _, rfl, r, _, rfl, dget (kp _ _ M.room ap.r3) (room0_shapes _ _ _ _ _), _, rfl, d3, _, rfl, dget upd_same hv,
            _, _, rfl, rfl, by rw [len_app, len_app, t1, t2]; lia, D, _, _, _, rfl, rfl, a0, by rw [hlm]; lia, lnK, by rw [hlm]; lia, ?_⟩
          have nDr : D ≠ r := kind_ne M.ln M.room
          have thp := ths_ins rs' at'.toNat x y
          refine ⟨_, _, _, rs'.take at'.toNat ++ (.th x y :: rs'.drop at'.toNat), rfl, by rw [plc_ins]; exact hpl', ?_, ?_, ?_⟩
          · rw [htk]
            refine (thp.map (·.1)).trans ?_
            rw [List.map_cons]
            exact (List.Perm.cons x hth').trans (List.perm_append_singleton x _).symm
          · refine ⟨fun b o e => ?_, ?_, ?_, ?_, ?_, ?_, ⟨_, by rw [upd_ne nD3.symm]; exact upd_same, by lia, fun z hz => ?_⟩, ?_, ?_, fun z hz => ?_, ?_, fun u v huv => ?_⟩
            · rw [upd_ne (ne_of_none e ap.fD)]
              exact kp b o (M.sm b o e) (ne_of_none e ap.f3)
            · rw [upd_ne nDr.symm]
              exact kp _ _ M.room ap.r3
            · rw [upd_ne ap.Dp.symm]
              exact kp _ _ M.pl (kind_ne M.pl q3)
            · rw [upd_ne ap.Dt.symm]
              exact kp _ _ M.th (kind_ne M.th q3)
            · rw [upd_ne (kind_ne M.ln M.l1).symm, lidsK_ins]
              exact kp _ _ M.l1 ap.n13
            · rw [upd_ne (kind_ne M.ln M.l2).symm, keysK_ins]
              exact kp _ _ M.l2 ap.n23
            · rcases List.mem_cons.mp (thp.mem_iff.mp hz) with e | e
              · rw [e]
                exact hv
              · have hne : z.1 ≠ x := fun ez => hxn (hth'.mem_iff.mp (List.mem_map.mpr ⟨z, e, ez⟩))
                rw [valV_put, if_neg (kne hne)]
                exact w3 z e
            · rw [upd_ne ap.Dl.symm]
              exact kp _ _ M.nm (kind_ne M.nm q3)
            · rw [upd_same]
              simp [List.map_take, List.map_drop]
              rfl
            · rcases List.mem_append.mp hz with hz | hz
              · exact M.ok z (List.mem_of_mem_take hz)
              · rcases List.mem_cons.mp hz with hz | hz
                · rw [hz]
                  exact ⟨hxN, hyN⟩
                · exact M.ok z (List.mem_of_mem_drop hz)
            · rw [List.length_append, List.length_cons, List.length_take, List.length_drop]
              lia
            · rcases List.mem_append.mp huv with hz | hz
              · exact M.ks u v (List.mem_of_mem_take hz)
              · rcases List.mem_cons.mp hz with hz | hz
                · cases hz
                · exact M.ks u v (List.mem_of_mem_drop hz)
          · rw [upd_ne fsh]
            exact kp _ _ hsh7 fsd
        · rintro σ H7 ⟨v5, v8, v9, rs', rfl, hpl', hth', M, hsh7⟩
          have hdl : (xs.drop pn).length ≤ m.toNat := by rw [List.length_drop]; lia
          rw [List.take_of_length_le hdl] at hth'
          have G : Good rs' := good_of hnd (by lia) (by lia) M.ok (by rw [hpl', plN.1]; exact hnm) hth' (by rw [hpl']; exact hfl') M.ks
          -- the things, read off the lines
          refine ⟨_, rfl, D, rfl, ⟨_, SqL.of M.ln⟩, fun D2 hD2 => ?_⟩
          have hll : ((rs'.map Ro.txt).map V.str).length = rs'.length := by rw [List.length_map, List.length_map]
          have bl := M.len
          refine lcJ (n := rs'.length) (fun i ys H8 => ys = ((ths (rs'.take i)).map (·.1)).map V.str ∧ Same H7 H8 ∧ H8 D2 = some (.lst ys)) ⟨rfl, Same.new hD2, upd_same⟩
            (fun i ys H8 hi hh0 => by obtain ⟨_, s8, _⟩ := hh0; exact ⟨_, .str rs'[i].txt, SqL.of (s8 _ _ M.ln), by simp [hi]⟩) (fun ys H8 hh0 => by obtain ⟨_, s8, _⟩ := hh0; exact ⟨_, SqL.of (s8 _ _ M.ln), by simp⟩) ?_ ?_
          · rintro i ys H8 x H9 hi ⟨rfl, s8, hD8⟩ ⟨rfl, hx⟩
            have hx1 := hx _ (SqL.of (s8 _ _ M.ln))
            have hx2 : x = .str rs'[i].txt := by
              rw [List.getElem?_map, List.getElem?_map, List.getElem?_eq_getElem hi] at hx1
              exact (Option.some.inj hx1).symm
            subst hx2
            have hnv := M.ok _ (List.getElem_mem hi)
            have hLl := txt_len hnv
            have htk : rs'.take (i + 1) = rs'.take i ++ [rs'[i]] := List.take_succ_eq_append_getElem hi
            have hle : (((ths (rs'.take i)).map (·.1)).map V.str).length < sizeLine := by
              have h1 := len_rows (rs'.take i)
              rw [List.length_take] at h1
              rw [List.length_map, List.length_map]
              lia
            generalize rs'[i] = ro at hnv hLl htk
            refine ⟨_, rfl, rfl, _, _, rfl, rfl, _, rfl, ?_⟩
            have hst := starts_txt ro
            refine ite2 (fun hs => ?_) (fun hs => ⟨?_, s8, hD8⟩)
            · rw [show Txt.startswith ro.txt (Str.ofString "thing ") = !ro.isP from hst] at hs
              refine ⟨_, rfl, rfl, _, _, rfl, rfl, by decide +kernel, by lia, fun p3 hp3 => ?_⟩
              have hsp := split_txt hnv
              obtain ⟨n, sh', rfl⟩ : ∃ n s, ro = .th n s := by
                cases ro with
                | th n s => exact ⟨n, s, rfl⟩
                | _ => exact absurd (show false = true from hs) Bool.false_ne_true
              have hay : atI ((Txt.split (Ro.th n sh').txt blank).map V.str) ((1 : Nat) : Int) = some (.str n) := atI_nat (by rw [hsp]; rfl)
              refine ⟨p3, _, _, _, rfl, rfl, SqL.of upd_same, hay, _, by rw [upd_ne (ne_of_none hD8 hp3)]; exact hD8, hle, ?_, (s8.trans (Same.new hp3)).put hD2, upd_same⟩
              rw [htk, ths_app, List.map_append, List.map_append]
              rfl
            · rw [show Txt.startswith ro.txt (Str.ofString "thing ") = !ro.isP from hst] at hs
              have : ths (rs'.take (i + 1)) = ths (rs'.take i) := by
                rw [htk, ths_app]
                cases ro with
                | th n s => exact absurd rfl hs
                | _ => exact List.append_nil _
              rw [this]
          · rintro ys H8 ⟨rfl, s8, hD8⟩
            rw [List.take_length] at hD8
            refine ⟨_, rfl, r, _, rfl, DPut.k (k := (Sum.inr "things" : Key)) (s8 _ _ M.room) (by show 5 < sizeLine; decide), ?_⟩
            have z9 := length_putK (room0 pl th d1 d2 d3) (Sum.inr "things" : Key) (V.ref D2)
            refine ⟨_, rfl, _, rfl, r, _, rfl, DPut.k (k := (Sum.inr "lines" : Key)) upd_same (by show _ < sizeLine; have : (room0 pl th d1 d2 d3).length = 5 := rfl; lia), ?_⟩
            obtain ⟨L3, q3, z3, w3⟩ := M.l3
            have nr2 : D2 ≠ r := fun z => by rw [z] at hD2; rw [M.room] at hD2; cases hD2
            have up : ∀ (u v : HO) b o, H7 b = some o → b ≠ r → upd (upd H8 r u) r v b = some o := fun u v b o e hb => by rw [upd_ne hb, upd_ne hb]; exact s8 b o e
            have hplr : (plc rs').map (·.1) = xs.take pn := by rw [hpl', plN.1]; exact hnm
            have hc1 := congrArg List.length hplr
            rw [List.length_map, List.length_take] at hc1
            have hc2 := hth'.length_eq
            rw [List.length_map, List.length_drop] at hc2
            refine ⟨_, rfl, q r rs' _ (fun b o e => up _ _ b o (M.sm b o e) (ne_of_none e ap.fr)) ⟨⟨_, L3, pl, D2, d1, d2, d3, D, upd_same, ?_, ?_, ?_, ?_, ?_, ?_, ?_, ?_, up _ _ _ _ M.l1 ap.r1.symm, up _ _ _ _ M.l2 ap.r2.symm, up _ _ _ _ q3 ap.r3.symm, up _ _ _ _ M.ln (kind_ne M.ln M.room), w3⟩, G⟩ (by lia) (by lia) (by lia)⟩
            · rw [valV_put, if_neg (kne (by decide +kernel)), valV_put, if_neg (kne (by decide +kernel))]
              exact room0_places _ _ _ _ _
            · rw [valV_put, if_neg (kne (by decide +kernel)), valV_put, if_pos rfl]
            · rw [valV_put, if_neg (kne (by decide +kernel)), valV_put, if_neg (kne (by decide +kernel))]
              exact room0_lids _ _ _ _ _
            · rw [valV_put, if_neg (kne (by decide +kernel)), valV_put, if_neg (kne (by decide +kernel))]
              exact room0_keys _ _ _ _ _
            · rw [valV_put, if_neg (kne (by decide +kernel)), valV_put, if_neg (kne (by decide +kernel))]
              exact room0_shapes _ _ _ _ _
            · rw [valV_put, if_pos rfl]
            · rw [hplr]
              exact up _ _ _ _ M.pl (kind_ne M.pl M.room)
            · rw [upd_ne nr2, upd_ne nr2]
              exact hD8
    obtain ⟨tt, ht, rt⟩ := tail
    refine ⟨_, pss_cons (ps_set (i := 3) scRoom.nd rfl (Or.inr rfl) (pe_call GN hr (by rfl) DN.m DN.F.kp DN.b .nil pass0 (pa_cons (pv 0) (pa_cons pe_int (pa_cons (pe_op op_add (pv 1) (pv 2)) pa_nil)))))
      (pss_cons (ps_if (pt_cmpR op_eq (pe_call GP hr1 (by rfl) DP.m DP.F.kp DP.b .nil pass0 (pa_cons (pv 0) (pa_cons pe_int (pa_cons pe_int pa_nil)))) pe_int (nomark _))
        (pss_one (ps_expr (pe_bm0 PySem.F.plainAttrs_list PySem.F.slot_list_reverse PySem.F.type_list_reverse mt_reverse (pv 3)))) pss_nil) ht), ?_⟩
    refine ⟨_, rfl, _, rfl, _, rfl, _, _, rfl, rfl, a, ns, _, _, rfl, hS, hn, by decide, by decide, by lia, by lia, fun l xs H2 sm hl hl2 hxl hxs hnd => ?_⟩
    refine ⟨_, rfl, a, ns, _, _, rfl, sm.seq hS, hn, by decide, by decide, by decide, fun b b0 b1 => ⟨rfl, _, rfl, ?_⟩⟩
    refine ite2 (fun _ => ?_) (fun _ => ?_)
    · refine ⟨_, rfl, .inl ⟨rfl, _, SqL.of hl2⟩, l, _, rfl, rfl, hl2, ?_⟩
      exact rt l xs.reverse _ (sm.put hl) hl (by rw [upd_same, List.map_reverse]) (by rw [List.length_reverse]; lia) (fun x hx => hxs x (List.mem_reverse.mp hx)) ((List.reverse_perm xs).nodup_iff.mpr hnd)
    · exact rt l xs H2 sm hl hl2 hxl hxs hnd
end
end K14
namespace K14
open PySem L2 Tx Rk PyProof.Rows PySem.SeqAt
open PySem.PyData (strOk)
section
variable {P : Program} {w : World} {K : PySem.W.Frag} {mg : Str → Option Value} {base : Heap}
structure Wl where
  hand : Option Str
  heaps : List (List Str)
  lids : List Str
  deriving DecidableEq
noncomputable def dO : Option Str → PyData
  | none => .none
  | some x => .str x
noncomputable def dH (xs : List Str) : PyData := .tuple (xs.map PyData.str)
noncomputable def dW (W : Wl) : PyData := .tuple [dO W.hand, .tuple (W.heaps.map dH), .tuple (W.lids.map PyData.str)]
noncomputable def Sz (W : Wl) (n : Nat) : Prop := W.heaps.length = n ∧ W.lids.length = n
structure Ok (W : Wl) : Prop where
  hand : ∀ x ∈ W.hand, Sk x
  heaps : ∀ h ∈ W.heaps, ∀ x ∈ h, Sk x
  lids : ∀ x ∈ W.lids, Sk x
  few : ∀ h ∈ W.heaps, h.length ≤ 100
theorem parts {H : Hp} {v : V} {W : Wl} (h : RdV H v (dW W)) : ∃ (a : Addr) (v0 : V) (b c : Addr) (xs ys : List V), v = .ref a ∧ H a = some (.tup [v0, .ref b, .ref c]) ∧ RdV H v0 (dO W.hand) ∧
    H b = some (.tup xs) ∧ RdVs H xs (W.heaps.map dH) ∧ H c = some (.tup ys) ∧ RdVs H ys (W.lids.map PyData.str) := by
  unfold dW at h
  cases h with
  | tup e rs =>
    cases rs with
    | cons r0 rs =>
      cases rs with
      | cons r1 rs =>
        cases rs with
        | cons r2 rs =>
          cases rs
          cases r1 with
          | tup e1 s1 =>
            cases r2 with
            | tup e2 s2 => exact ⟨_, _, _, _, _, _, rfl, e, r0, e1, s1, e2, s2⟩
theorem whole {H : Hp} {a b c : Addr} {v0 : V} {xs ys : List V} {W : Wl} (e : H a = some (.tup [v0, .ref b, .ref c])) (r0 : RdV H v0 (dO W.hand)) (e1 : H b = some (.tup xs)) (s1 : RdVs H xs (W.heaps.map dH)) (e2 : H c = some (.tup ys)) (s2 : RdVs H ys (W.lids.map PyData.str)) :
    RdV H (.ref a) (dW W) := .tup e (.cons r0 (.cons (.tup e1 s1) (.cons (.tup e2 s2) .nil)))
theorem at0 {α : Type} {xs : List α} {i : Nat} {v : α} (h : xs[i]? = some v) : atI xs (0 + (i : Int)) = some v := by
  rw [Int.zero_add]
  exact atI_nat h
noncomputable def oV : Option Str → V
  | none => .non
  | some x => .str x
theorem rd_oV {H : Hp} : ∀ o : Option Str, RdV H (oV o) (dO o)
  | none => .non
  | some x => .str x
noncomputable abbrev pWorld : List Str := ["_law_script", "_law_k", "_law_room_here"]
structure Fw (rs : List Ro) (W : Wl) : Prop where
  perm : (W.hand.toList ++ W.heaps.flatten).Perm ((ths rs).map (·.1))
  lids : ∀ (i : Nat) p l, (plc rs)[i]? = some p → W.lids[i]? = some l → Lo p l
theorem lo_sk {p : Str × Bool × Option Str} {l : Str} (h : Lo p l) : Sk l := by
  rcases h with h | ⟨h, _⟩ | ⟨h, _⟩ <;> (rw [h]; exact ⟨by decide +kernel, by decide +kernel⟩)
theorem Fw.ok {rs : List Ro} {W : Wl} (g : Good rs) (f : Fw rs W) (sz : Sz W (plc rs).length) : Ok W := by
  have hm : ∀ x ∈ W.hand.toList ++ W.heaps.flatten, Sk x := fun x hx => nv_sk (good_nv g (mem_ths_name (f.perm.mem_iff.mp hx)))
  refine ⟨fun x hx => hm x (List.mem_append_left _ (by rw [Option.mem_toList]; exact hx)), fun h hh x hx => hm x (List.mem_append_right _ (List.mem_flatten.mpr ⟨h, hh, hx⟩)), fun l hl => ?_, fun h hh => ?_⟩
  · obtain ⟨i, hi⟩ := List.getElem?_of_mem hl
    have hlt := (List.getElem?_eq_some_iff.mp hi).1
    exact lo_sk (f.lids i _ l (List.getElem?_eq_getElem (by have := sz.2; lia)) hi)
  · have h1 := len_flat hh
    have h2 := f.perm.length_eq
    rw [List.length_append, List.length_map] at h2
    have := g.fewT
    lia
inductive spWorld (K : PySem.W.Frag) (vs : List V) (H : Hp) (Q : VK) (E0_ : XK) : Prop
  | mk (a : Addr) (ns : List Int) (k : Int) (r : Addr) (rs : List Ro) (c0 : vs = [.ref a, .int k, .ref r]) (c1 : SqL K H a (ns.map V.int)) (c2 : ns.length ≤ 63) (c3 : 0 ≤ k) (c4 : k < 100000) (c5 : RmS H r rs) (c6 : 1 ≤ (plc rs).length) (c7 : ∀ (v : V) (W : Wl) (H' : Hp), Same H H' → RdV H' v (dW W) → Sz W (plc rs).length → Fw rs W → Q v H') : spWorld K vs H Q E0_
structure Hs (H H2 : Hp) (D : Addr) (hs : List Addr) (xss : List (List Str)) : Prop where
  len : hs.length = xss.length
  lst : H2 D = some (.lst (hs.map V.ref))
  nd : hs.Nodup
  fr : ∀ h ∈ hs, H h = none ∧ h ≠ D
  at' : ∀ (i : Nat) h xs, hs[i]? = some h → xss[i]? = some xs → H2 h = some (.lst (xs.map V.str))
theorem Hs.same {H H2 H3 : Hp} {D : Addr} {hs : List Addr} {xss : List (List Str)} (S : Hs H H2 D hs xss) (s : Same H2 H3) : Hs H H3 D hs xss :=
  ⟨S.len, s _ _ S.lst, S.nd, S.fr, fun i h xs a b => s _ _ (S.at' i h xs a b)⟩
theorem Hs.has {H H2 : Hp} {D : Addr} {hs : List Addr} {xss : List (List Str)} (S : Hs H H2 D hs xss) {h : Addr} (hh : h ∈ hs) : ∃ o, H2 h = some o := by
  obtain ⟨i, hi⟩ := List.getElem?_of_mem hh
  have hlt := (List.getElem?_eq_some_iff.mp hi).1
  exact ⟨_, S.at' i h _ hi (List.getElem?_eq_getElem (by have := S.len; lia))⟩
theorem Hs.off {H H2 : Hp} {D l : Addr} {o : HO} {hs : List Addr} {xss : List (List Str)} (S : Hs H H2 D hs xss) (n1 : l ≠ D) (n2 : ∀ h ∈ hs, l ≠ h) : Hs H (upd H2 l o) D hs xss :=
  ⟨S.len, by rw [upd_ne n1.symm]; exact S.lst, S.nd, S.fr, fun i h xs a b => by rw [upd_ne (n2 h (List.mem_of_getElem? a)).symm]; exact S.at' i h xs a b⟩
theorem Hs.put {H H2 : Hp} {D : Addr} {hs : List Addr} {xss : List (List Str)} (S : Hs H H2 D hs xss) {j : Nat} {h : Addr} {new : List Str} (hj : hs[j]? = some h) : Hs H (upd H2 h (.lst (new.map V.str))) D hs (xss.set j new) := by
  have hne := (S.fr h (List.mem_of_getElem? hj)).2
  refine ⟨by rw [List.length_set]; exact S.len, by rw [upd_ne hne.symm]; exact S.lst, S.nd, S.fr, fun i g xs a b => ?_⟩
  have hjl := (List.getElem?_eq_some_iff.mp hj).1
  by_cases e : j = i
  · subst e
    rw [hj] at a
    cases a
    rw [List.getElem?_set_self (by have := S.len; lia)] at b
    cases b
    exact upd_same
  · rw [List.getElem?_set_ne e] at b
    have hgh : g ≠ h := fun z => by
      subst z
      have hil := (List.getElem?_eq_some_iff.mp a).1
      have e1 := (List.getElem?_eq_some_iff.mp a).2
      have e2 := (List.getElem?_eq_some_iff.mp hj).2
      exact e ((List.getElem_inj S.nd).mp (e2.trans e1.symm))
    rw [upd_ne hgh]
    exact S.at' i g xs a b
noncomputable abbrev nWorld : List Str := ["_law_script", "_law_k", "_law_room_here", "_law_heaps", "_law_hand", "_law_i", "_law_thing", "_law_where", "_law_heap", "_law_lids_here", "_law_some"]
theorem scWorld : FnScope nWorld pWorld (defScope sWorld) := ⟨rfl, rfl, rfl, by decide +kernel, rfl, by decide +kernel, by decide +kernel⟩
end
end K14
namespace K14
open PySem L2 Tx Rk PyProof.Rows PySem.SeqAt
open PySem.PyData (strOk)
section
variable {P : Program} {w : World} {K : PySem.W.Frag} {mg : Str → Option Value} {base : Heap}
theorem ok_world {f fP fL : Addr} {fd fdP fdL : FuncData} (F : Fun K "_law_world" "_law_world" sWorld f fd) (DP : Df K mg "_law_pick" sPick pPick fP fdP) (DL : Df K mg "_law_lids" sLids pLids fL fdL) (T : Bl mg) (GP : FnOk P w K mg base CX0 1 fP fdP pPick (spPick K)) (GL : FnOk P w K mg base CX0 1 fL fdL pLids spLids) :
    FnOk P w K mg base CX0 2 f fd pWorld (spWorld K) := by
  refine F.ok scWorld (fun vs H Q E h => ?_) (fun cdv A outer s H vs Q E hr h => ?_)
  · obtain ⟨a, ns, k, r, rs, rfl, _⟩ := h
    rfl
  · obtain ⟨a, ns, k, r, rs, rfl, hS, hn, k0, k1, R, p0', q⟩ := h
    have hu := hu_of hr
    have hsl : sizeLine = 16777216 := sizeLine_eq
    refine ⟨_, (pss_cons (ps_lc (i := 3) (N := ["_law_place"]) (sc := defScope sWorld) (own := ["_law_place"]) (fr := []) (js := []) scWorld.nd rfl rfl ⟨rfl, rfl, rfl, rfl, by decide +kernel, by decide +kernel, by decide +kernel, rfl, by decide +kernel⟩ rfl (pi_list (pe_dget hu (pv 2) pe_str (fun _ _ => rfl))) (fun _ _ _ _ => pg_name (i := 0) (show List.Nodup (["_law_place"] : List Str) by decide +kernel) rfl (Or.inl rfl)) (fun _ _ _ _ => pif_nil) (fun _ _ _ _ => pe_lst pa_nil))
      (pss_cons (ps_set (i := 4) scWorld.nd rfl (Or.inl rfl) pe_non)
      (pss_cons (ps_for PassesOwn.never rfl (pi_range1 (by rfl) T.range (pa_cons (pe_callB call_len (by rfl) T.len PySem.boot_len (pa_cons (pe_dget hu (pv 2) pe_str (fun _ _ => rfl)) pa_nil)) pa_nil)) (pg_name (i := 5) scWorld.nd rfl (Or.inl rfl)) (pss_cons (ps_set (i := 6) scWorld.nd rfl (Or.inl rfl) (pe_ix ix_list (pe_dget hu (pv 2) pe_str (fun _ _ => rfl)) (pv 5) (fun _ _ => rfl)))
      (pss_cons (ps_set (i := 7) scWorld.nd rfl (Or.inl rfl) (pe_call GP hr (by rfl) DP.m DP.F.kp DP.b .nil pass0 (pa_cons (pv 0) (pa_cons (pe_op op_add (pv 1) (pv 5)) (pa_cons (pe_op op_add (pe_callB call_len (by rfl) T.len PySem.boot_len (pa_cons (pv 3) pa_nil)) pe_int) pa_nil)))))
      (pss_one (ps_if (PW.pt (pw_and (pt_cmpR op_eq (pv 7) (pe_callB call_len (by rfl) T.len PySem.boot_len (pa_cons (pv 3) pa_nil)) (nomark _)) (pw_and1 (pt_cmpR op_isN (pv 4) pe_non (nomark _))))) (pss_one (ps_set (i := 4) scWorld.nd rfl (Or.inl rfl) (pv 6))) (pss_cons (ps_set (i := 8) scWorld.nd rfl (Or.inl rfl) (pe_ix ix_list (pv 3) (pe_op op_mod (pv 7) (pe_callB call_len (by rfl) T.len PySem.boot_len (pa_cons (pv 3) pa_nil))) (fun _ _ => rfl)))
      (pss_one (ps_expr (pe_bm PySem.F.plainAttrs_list PySem.F.slot_list_insert PySem.F.type_list_insert mt_insert (pv 8) (pa_cons (pe_call GP hr (by rfl) DP.m DP.F.kp DP.b .nil pass0 (pa_cons (pv 0) (pa_cons (pe_op op_add (pe_op op_add (pv 1) pe_int) (pv 5)) (pa_cons (pe_op op_add (pe_callB call_len (by rfl) T.len PySem.boot_len (pa_cons (pv 8) pa_nil)) pe_int) pa_nil)))) (pa_cons (pv 6) pa_nil)))))))))))
      (pss_cons (ps_set (i := 9) scWorld.nd rfl (Or.inl rfl) (pe_lst pa_nil))
      (pss_cons (ps_for PassesOwn.never rfl (pi_range1 (by rfl) T.range (pa_cons (pe_callB call_len (by rfl) T.len PySem.boot_len (pa_cons (pv 3) pa_nil)) pa_nil)) (pg_name (i := 5) scWorld.nd rfl (Or.inl rfl)) (pss_cons (ps_set (i := 10) scWorld.nd rfl (Or.inl rfl) (pe_call GL hr (by rfl) DL.m DL.F.kp DL.b .nil pass0 (pa_cons (pv 2) (pa_cons (pe_ix ix_list (pe_dget hu (pv 2) pe_str (fun _ _ => rfl)) (pv 5) (fun _ _ => rfl)) pa_nil))))
      (pss_one (ps_expr (pe_bm PySem.F.plainAttrs_list PySem.F.slot_list_append PySem.F.type_list_append mt_append (pv 9) (pa_cons (pe_ix ix_list (pv 10) (pe_call GP hr (by rfl) DP.m DP.F.kp DP.b .nil pass0 (pa_cons (pv 0) (pa_cons (pe_op op_add (pe_op op_add (pv 1) pe_int) (pv 5)) (pa_cons (pe_callB call_len (by rfl) T.len PySem.boot_len (pa_cons (pv 10) pa_nil)) pa_nil)))) (fun _ _ => rfl)) pa_nil))))))
      (pss_one (ps_ret (pe_tup (pa_cons (pv 4) (pa_cons (pe_callTy call_tuple_of (by rfl) T.tuple bt_tuple (pa_cons (pe_lc (N := ["_law_heap"]) (sc := defScope sWorld) (own := ["_law_heap"]) (fr := []) (js := []) ⟨rfl, rfl, rfl, rfl, by decide +kernel, by decide +kernel, by decide +kernel, rfl, by decide +kernel⟩ rfl (pi_list (pv 3)) (fun _ _ _ _ => pg_name (i := 0) (show List.Nodup (["_law_heap"] : List Str) by decide +kernel) rfl (Or.inl rfl)) (fun _ _ _ _ => pif_nil) (fun _ _ _ _ => (pe_callTy (call_tupK K rfl) (by rfl) T.tuple bt_tuple (pa_cons (pv 0) pa_nil)))) pa_nil)) (pa_cons (pe_callTy call_tuple_of (by rfl) T.tuple bt_tuple (pa_cons (pv 9) pa_nil)) pa_nil))))))))))), ?_⟩
    have g := R.good
    obtain ⟨kvs, L3, pl, th, d1, d2, d3, DD, h1, h2, h3, h4, h5, hb1, hb2, h6, h7, h8, h9, hb3, hb4, hb5⟩ := R.ex
    obtain ⟨ps, hps⟩ : ∃ ps, ps = (plc rs).map (·.1) := ⟨_, rfl⟩
    obtain ⟨ts, hts⟩ : ∃ ts, ts = (ths rs).map (·.1) := ⟨_, rfl⟩
    have hpl : ps.length = (plc rs).length := by rw [hps, List.length_map]
    have htl : ts.length = (ths rs).length := by rw [hts, List.length_map]
    have p0 : 1 ≤ ps.length := by lia
    have p1 : ps.length ≤ 6 := by have := g.fewP; lia
    have t1 : ts.length ≤ 6 := by have := g.fewT; lia
    rw [← hps] at h6
    rw [← hts] at h7
    have hpm : (ps.map V.str).length = ps.length := List.length_map ..
    have htm : (ts.map V.str).length = ts.length := List.length_map ..
    -- the empty heaps
    refine ⟨_, rfl, r, _, rfl, dget h1 h2, pl, rfl, ⟨_, SqL.of h6⟩, fun D hD => ?_⟩
    refine lcJ (n := ps.length) (fun i ys H2 => ∃ hs : List Addr, ys = hs.map V.ref ∧ Same H H2 ∧ hs.length = i ∧ Hs H H2 D hs (List.replicate i [])) ⟨[], rfl, Same.new hD, rfl, rfl, upd_same, .nil, (fun _ z => nomatch z), fun i h xs z => by simp at z⟩
      (fun i ys H2 hi hh0 => by obtain ⟨hs, _, sm, _⟩ := hh0; exact ⟨_, .str ps[i], SqL.of (sm _ _ h6), by simp [hi]⟩) (fun ys H2 hh0 => by obtain ⟨hs, _, sm, _⟩ := hh0; exact ⟨_, SqL.of (sm _ _ h6), by simp⟩) ?_ ?_
    · rintro i ys H2 x H3 hi ⟨hs, rfl, sm, hl, S⟩ ⟨rfl, _⟩
      refine lc_yes ?_
      refine ⟨Nat.zero_le _, fun p hp => ⟨_, by rw [upd_ne (ne_of_none S.lst hp)]; exact S.lst, by rw [List.length_map, hl]; lia, hs ++ [p], by simp, ?_, ?_, ?_⟩⟩
      · exact (sm.put (sm.free hp)).put hD
      · rw [List.length_append, hl]; rfl
      · have pD : p ≠ D := (ne_of_none S.lst hp).symm
        have hold : ∀ h ∈ hs, h ≠ p ∧ H3 h = some (.lst []) := fun h hh => by
          obtain ⟨j, hj⟩ := List.getElem?_of_mem hh
          have hlt := (List.getElem?_eq_some_iff.mp hj).1
          have e := S.at' j h [] hj (by rw [List.getElem?_replicate, if_pos (by lia)])
          exact ⟨ne_of_none e hp, e⟩
        refine ⟨by rw [List.length_append, hl, List.length_replicate]; rfl, by rw [upd_same]; simp, nodup_snoc S.nd (fun z => (hold p z).1 rfl), fun h hh => ?_, fun j h xs ha hb => ?_⟩
        · rcases List.mem_append.mp hh with hh | hh
          · exact S.fr h hh
          · rw [List.mem_singleton.mp hh]
            exact ⟨sm.free hp, pD⟩
        · have hx : xs = [] := List.eq_of_mem_replicate (List.mem_of_getElem? hb)
          subst hx
          rcases List.mem_append.mp (List.mem_of_getElem? ha) with hh | hh
          · rw [upd_ne (S.fr h hh).2, upd_ne (hold h hh).1]
            exact (hold h hh).2
          · rw [List.mem_singleton.mp hh, upd_ne pD]
            exact upd_same
    rintro ys H2 ⟨hs, rfl, sm, hl, S⟩
    -- the things, one by one
    have hrm : (hs.map V.ref).length = ps.length := by rw [List.length_map, hl]
    refine ⟨_, rfl, r, _, rfl, dget (sm _ _ h1) h3, _, _, rfl, .inl ⟨_, SqL.of (sm _ _ h7), rfl⟩, _, rfl, by lia, by rw [htm]; lia, for_range (n := (((ts.map V.str).length : Nat) : Int).toNat) (fun i σ H3 => ∃ (v5 v6 v7 v8 : Option V) (o : Option Str) (xss : List (List Str)),
      σ = [some (.ref a), some (.int k), some (.ref r), some (.ref D), some (oV o), v5, v6, v7, v8, none, none] ∧ Same H H3 ∧ Hs H H3 D hs xss ∧ (o.toList ++ xss.flatten).Perm (ts.take i)) ⟨none, none, none, none, none, _, rfl, sm, S, by simp⟩ ?_ ?_⟩
    · rintro i σ H3 hi ⟨v5, v6, v7, v8, o, xss, rfl, sm3, S3, pm⟩
      have hi' : i < ts.length := by rw [Int.toNat_natCast, htm] at hi; exact hi
      have hat : atI (ts.map V.str) (0 + (i : Int)) = some (.str ts[i]) := at0 (by simp [hi'])
      have htk : ts.take (i + 1) = ts.take i ++ [ts[i]] := List.take_succ_eq_append_getElem hi'
      generalize ts[i] = x at hat htk
      refine ⟨_, rfl, r, _, rfl, dget (sm3 _ _ h1) h3, _, rfl, _, _, _, _, rfl, rfl, SqL.of (sm3 _ _ h7), hat, ?_⟩
      refine ⟨_, rfl, _, rfl, _, rfl, _, _, rfl, rfl, _, rfl, _, _, rfl, .inl ⟨_, SqL.of S3.lst, rfl⟩, _, _, rfl, rfl, a, ns, _, _, rfl, sm3.seq hS, hn, by lia, by lia, by lia, fun wh w0 w1 => ?_⟩
      rw [hrm] at w1
      -- into a heap
      have hpos : (0 : Int) < ((hs.map V.ref).length : Int) := by lia
      obtain ⟨j, hj⟩ : ∃ j : Nat, (j : Int) = wh % ((hs.map V.ref).length : Int) := ⟨(wh % ((hs.map V.ref).length : Int)).toNat, Int.toNat_of_nonneg (Int.emod_nonneg _ (by lia))⟩
      have hjl : j < hs.length := by
        have := Int.emod_lt_of_pos wh hpos
        rw [List.length_map] at this hj
        lia
      have hjx : j < xss.length := by have := S3.len; lia
      have hah : atI (hs.map V.ref) (wh % ((hs.map V.ref).length : Int)) = some (.ref hs[j]) := by
        rw [← hj]
        exact atI_nat (by simp [hjl])
      have hhj : hs[j]? = some hs[j] := List.getElem?_eq_getElem hjl
      have hxj : xss[j]? = some xss[j] := List.getElem?_eq_getElem hjx
      have hxl : (xss[j]).length ≤ 6 := by
        have e1 := len_flat (List.getElem_mem hjx)
        have e2 := pm.length_eq
        rw [List.length_append, List.length_take] at e2
        lia
      generalize hs[j] = h at hah hhj
      generalize xss[j] = xs at hxj hxl
      have z3 := S3.at' j h xs hhj hxj
      have z1 := (S3.fr h (List.mem_of_getElem? hhj)).1
      have hxm' : (xs.map V.str).length = xs.length := List.length_map ..
      have ins : ∀ at' : Int, Same H (upd H3 h (.lst ((xs.map V.str).take at'.toNat ++ V.str x :: (xs.map V.str).drop at'.toNat))) ∧ Hs H (upd H3 h (.lst ((xs.map V.str).take at'.toNat ++ V.str x :: (xs.map V.str).drop at'.toNat))) D hs (xss.set j (xs.take at'.toNat ++ x :: xs.drop at'.toNat)) ∧
          (o.toList ++ (xss.set j (xs.take at'.toNat ++ x :: xs.drop at'.toNat)).flatten).Perm (ts.take (i + 1)) := fun at' => by
        have e : (xs.map V.str).take at'.toNat ++ V.str x :: (xs.map V.str).drop at'.toNat = (xs.take at'.toNat ++ x :: xs.drop at'.toNat).map V.str := by simp [List.map_take, List.map_drop]
        rw [e]
        refine ⟨sm3.put z1, S3.put hhj, ?_⟩
        have e1 := set_flat (a := xs.take at'.toNat) (b := xs.drop at'.toNat) (x := x) (xss := xss) (j := j) (by rw [List.take_append_drop]; exact hxj)
        rw [htk]
        refine (List.Perm.append_left _ e1).trans (List.perm_middle.trans ?_)
        exact (List.Perm.cons x pm).trans (List.perm_append_singleton x _).symm
      refine ⟨_, rfl, _, rfl, _, _, rfl, .inl ⟨_, SqL.of S3.lst, rfl⟩, rfl, _, rfl, ?_⟩
      refine ite2 (fun _ => ?_) (fun _ => ?_)
      · refine ⟨_, rfl, rfl, _, rfl, ?_⟩
        refine ite2 (fun ho => ?_) (fun _ => ?_)
        · have ho' : o = none := by
            cases o with
            | none => rfl
            | some y => exact absurd (of_decide_eq_true ho) (by intro z; cases z)
          subst ho'
          refine ⟨_, rfl, _, _, _, _, some x, xss, rfl, sm3, S3, ?_⟩
          rw [htk]
          exact (List.Perm.cons x pm).trans (List.perm_append_singleton x _).symm
        · refine ⟨_, rfl, _, rfl, _, rfl, _, _, rfl, .inl ⟨_, SqL.of S3.lst, rfl⟩, _, _, rfl, rfl, hpos, D, _, _, _, rfl, rfl, SqL.of S3.lst, hah, ?_⟩
          refine ⟨_, rfl, .inl ⟨rfl, _, SqL.of z3⟩, _, rfl, _, rfl, _, _, rfl, rfl, _, rfl, _, _, rfl, rfl, _, rfl, _, _, rfl, .inl ⟨_, SqL.of z3, rfl⟩, _, _, rfl, rfl, a, ns, _, _, rfl, sm3.seq hS, hn, by lia, by lia, by lia, fun at' a0 a1 => ?_⟩
          rw [hxm'] at a1
          obtain ⟨i1, i2, i3⟩ := ins at'
          exact ⟨_, rfl, h, _, _, _, rfl, rfl, a0, by rw [hxm']; lia, z3, by rw [hxm']; lia, _, _, _, _, o, _, rfl, i1, i2, i3⟩
      · refine iteF ?_
        refine ⟨_, rfl, _, rfl, _, rfl, _, _, rfl, .inl ⟨_, SqL.of S3.lst, rfl⟩, _, _, rfl, rfl, hpos, D, _, _, _, rfl, rfl, SqL.of S3.lst, hah, ?_⟩
        refine ⟨_, rfl, .inl ⟨rfl, _, SqL.of z3⟩, _, rfl, _, rfl, _, _, rfl, rfl, _, rfl, _, _, rfl, rfl, _, rfl, _, _, rfl, .inl ⟨_, SqL.of z3, rfl⟩, _, _, rfl, rfl, a, ns, _, _, rfl, sm3.seq hS, hn, by lia, by lia, by lia, fun at' a0 a1 => ?_⟩
        rw [hxm'] at a1
        obtain ⟨i1, i2, i3⟩ := ins at'
        exact ⟨_, rfl, h, _, _, _, rfl, rfl, a0, by rw [hxm']; lia, z3, by rw [hxm']; lia, _, _, _, _, o, _, rfl, i1, i2, i3⟩
    rintro σ H3 ⟨v5, v6, v7, v8, o, xss, rfl, sm3, S3, pm⟩
    rw [Int.toNat_natCast, htm, List.take_length] at pm
    -- the lids
    refine ⟨Nat.zero_le _, fun ll hll => ?_⟩
    have nD : ll ≠ D := (ne_of_none S3.lst hll).symm
    have nH : ∀ h ∈ hs, ll ≠ h := fun h hh => by
      obtain ⟨oo, z3⟩ := S3.has hh
      exact (ne_of_none z3 hll).symm
    have f0 : H ll = none := sm3.free hll
    have S4 := S3.same (Same.new (o := .lst []) hll)
    refine ⟨_, rfl, _, _, rfl, .inl ⟨_, SqL.of S4.lst, rfl⟩, _, rfl, by lia, by lia, for_range (n := (((hs.map V.ref).length : Nat) : Int).toNat) (fun i σ H4 => ∃ (v5 v10 : Option V) (ls : List Str),
      σ = [some (.ref a), some (.int k), some (.ref r), some (.ref D), some (oV o), v5, v6, v7, v8, some (.ref ll), v10] ∧ ls.length = i ∧ (∀ (j : Nat) p l, (plc rs)[j]? = some p → ls[j]? = some l → Lo p l) ∧ Same H H4 ∧ Hs H H4 D hs xss ∧ H4 ll = some (.lst (ls.map V.str)))
      ⟨_, none, [], rfl, rfl, (fun _ _ _ _ z => by simp at z), sm3.put f0, S4, upd_same⟩ ?_ ?_⟩
    · rintro i σ H4 hi ⟨v5, v10, ls, rfl, hls, hlo, sm4, S5, hl4⟩
      have hi' : i < ps.length := by rw [Int.toNat_natCast, hrm] at hi; exact hi
      have hip : i < (plc rs).length := by lia
      have hpi : ps[i]? = some ((plc rs)[i]).1 := by rw [hps, List.getElem?_map, List.getElem?_eq_getElem hip]; rfl
      have hat : atI (ps.map V.str) (0 + (i : Int)) = some (.str ((plc rs)[i]).1) := at0 (by rw [List.getElem?_map, hpi]; rfl)
      have hpm2 : (plc rs)[i] ∈ plc rs := List.getElem_mem hip
      have hpg : (plc rs)[i]? = some (plc rs)[i] := List.getElem?_eq_getElem hip
      generalize (plc rs)[i] = pp at hat hpm2 hpg
      refine ⟨_, rfl, _, rfl, r, _, rfl, dget (sm4 _ _ h1) h2, _, rfl, _, _, _, _, rfl, rfl, SqL.of (sm4 _ _ h6), hat, r, d1, d2, pp.1, kvs, _, _, rfl, sm4 _ _ h1, h4, h5, sm4 _ _ h8, sm4 _ _ h9, fun l ys H5 s5 f5 e5 y1 y2 => ?_⟩
      have hym : (ys.map V.str).length = ys.length := List.length_map ..
      have hl5 := s5 _ _ hl4
      refine ⟨_, rfl, .inl ⟨rfl, _, SqL.of hl5⟩, _, rfl, _, rfl, _, rfl, _, _, rfl, rfl, _, rfl, _, _, rfl, rfl, _, rfl, _, _, rfl, .inl ⟨_, SqL.of e5, rfl⟩, a, ns, _, _, rfl, (sm4.trans s5).seq hS, hn, by lia, by lia, by lia, fun j j0 j1 => ?_⟩
      rw [hym] at j1
      obtain ⟨y, hy, hay⟩ := at_map (xs := ys) j0 j1
      refine ⟨_, _, _, _, rfl, rfl, SqL.of e5, hay, ll, _, _, rfl, rfl, hl5, by rw [List.length_map]; lia, ?_⟩
      have S6 := S5.same s5
      refine ⟨_, _, ls ++ [y], rfl, by simp [hls], fun j' p' l' hp' hl' => ?_, (sm4.trans s5).put f0, S6.off nD nH, by rw [upd_same]; simp⟩
      by_cases hj' : j' < ls.length
      · rw [List.getElem?_append_left hj'] at hl'
        exact hlo j' p' l' hp' hl'
      · have hlt := (List.getElem?_eq_some_iff.mp hl').1
        rw [List.length_append, List.length_singleton] at hlt
        have e : j' = ls.length := by lia
        subst e
        rw [List.getElem?_concat_length] at hl'
        cases hl'
        rw [hls, hpg] at hp'
        cases hp'
        exact Al.lo g hpm2 (y2 y hy)
    rintro σ H4 ⟨v5', v10, ls, rfl, hls, hlo, sm4, S5, hl4⟩
    have hls' : ls.length = ps.length := by rw [hls, Int.toNat_natCast, hrm]
    have hxp : xss.length = ps.length := by have := S5.len; lia
    -- the world's tuple
    refine ⟨_, rfl, _, rfl, D, rfl, ⟨_, SqL.of S5.lst⟩, fun D2 hD2 => ?_⟩
    refine lcJ (n := hs.length) (fun i ys H5 => RdVs H5 ys ((xss.take i).map dH) ∧ ys.length = i ∧ Same H4 H5 ∧ H5 D2 = some (.lst ys)) ⟨.nil, rfl, Same.new hD2, upd_same⟩
      (fun i ys H5 hi hh0 => by obtain ⟨_, _, s5, _⟩ := hh0; exact ⟨_, .ref hs[i], SqL.of (s5 _ _ S5.lst), by simp [hi]⟩) (fun ys H5 hh0 => by obtain ⟨_, _, s5, _⟩ := hh0; exact ⟨_, SqL.of (s5 _ _ S5.lst), by simp⟩) ?_ ?_
    · rintro i ys H5o x H5 hi ⟨hrd, hx2, s5, e5⟩ ⟨rfl, hx⟩
      have hxi := hx _ (SqL.of (s5 _ _ S5.lst))
      have hx' : x = .ref hs[i] := by
        rw [List.getElem?_map, List.getElem?_eq_getElem hi] at hxi
        exact (Option.some.inj hxi).symm
      subst hx'
      have hix : i < xss.length := by have := S5.len; lia
      have z3 := S5.at' i hs[i] xss[i] (List.getElem?_eq_getElem hi) (List.getElem?_eq_getElem hix)
      have htk : xss.take (i + 1) = xss.take i ++ [xss[i]] := List.take_succ_eq_append_getElem hix
      generalize xss[i] = zs at z3 htk
      refine lc_yes ?_
      refine ⟨_, rfl, _, _, rfl, .inl ⟨SqL.of (s5 _ _ z3), fun l hl => ⟨_, by rw [upd_ne (ne_of_none e5 hl)]; exact e5, by lia, ?_, by simp [hx2], (s5.trans (Same.new hl)).put hD2, upd_same⟩⟩⟩
      have lD : l ≠ D2 := (ne_of_none e5 hl).symm
      have kp : ∀ b us, H5 b = some (.tup us) → (upd (upd H5 l (.tup (zs.map V.str))) D2 (.lst (ys ++ [V.ref l]))) b = some (.tup us) := fun b us e => by
        rw [upd_ne (ne_of e e5 (by intro z; cases z)), upd_ne (ne_of_none e hl)]
        exact e
      rw [htk, List.map_append]
      exact (hrd.same kp).append (.cons (.tup (by rw [upd_ne lD]; exact upd_same) (RdVs.strs zs)) .nil)
    rintro ys H5 ⟨hrd, hx2, s5, e5⟩
    rw [List.take_of_length_le (by have := S5.len; lia)] at hrd
    refine ⟨_, _, rfl, .inl ⟨SqL.of e5, fun tp htp => ?_⟩⟩
    have e6 := s5 _ _ hl4
    refine ⟨_, rfl, _, _, rfl, .inl ⟨SqL.of (by rw [upd_ne (ne_of_none e6 htp)]; exact e6), fun tl htl => ⟨by show 3 ≤ sizeLine; decide, fun t ht => ?_⟩⟩⟩
    have s6 : Same H5 (upd H5 tp (.tup ys)) := Same.new htp
    have s7 : Same (upd H5 tp (.tup ys)) (upd (upd H5 tp (.tup ys)) tl (.tup (ls.map V.str))) := Same.new htl
    have s8 : Same (upd (upd H5 tp (.tup ys)) tl (.tup (ls.map V.str))) (upd (upd (upd H5 tp (.tup ys)) tl (.tup (ls.map V.str))) t (.tup [oV o, .ref tp, .ref tl])) := Same.new ht
    refine q (.ref t) ⟨o, xss, ls⟩ _ (((sm4.trans s5).trans s6).trans (s7.trans s8)) (whole upd_same (rd_oV o) (s8 _ _ (s7 _ _ upd_same)) (s8.rds (s7.rds (s6.rds hrd))) (s8 _ _ upd_same) (RdVs.strs ls)) ⟨?_, ?_⟩ ⟨?_, hlo⟩
    · show xss.length = _
      lia
    · show ls.length = _
      lia
    · rw [hts] at pm
      exact pm
end
end K14
namespace K14
open PySem L2 Tx Rk PyProof.Rows PySem.SeqAt
open PySem.PyData (strOk)
section
variable {P : Program} {w : World} {K : PySem.W.Frag} {mg : Str → Option Value} {base : Heap}
noncomputable def formsD : List PyData := [.tuple [.str "place", .int 2], .tuple [.str "box", .int 2], .tuple [.str "box", .int 3], .tuple [.str "thing", .int 3]]
structure Md (K : PySem.W.Frag) (mg : Str → Option Value) (aN aF : Addr) : Prop where
  letters : ∃ t, mg "LETTERS" = some (.str abc t)
  most : ∃ t, mg "MOST_LETTERS" = some (.int 8 t)
  mp : ∃ t, mg "MOST_PLACES" = some (.int 6 t)
  mt : ∃ t, mg "MOST_THINGS" = some (.int 6 t)
  nn : mg "NO_NAMES" = some (.ref aN)
  nv : ∀ H : Hp, SqT K H aN (fixedS.map V.str)
  ff : mg "FORMS" = some (.ref aF)
  fv : RdK K (.ref aF) (.tuple formsD)
inductive spIsName (vs : List V) (H : Hp) (Q : VK) (E0_ : XK) : Prop
  | mk (x : Str) (c0 : vs = [.str x]) (c1 : Nv x) (c2 : ∀ H' : Hp, Same H H' → Q (.bl true) H') : spIsName  vs H Q E0_
theorem scIsName : FnScope ["text"] ["text"] (defScope sIsName) := ⟨rfl, rfl, rfl, by decide +kernel, rfl, by decide +kernel, by decide +kernel⟩
inductive spReadLine (vs : List V) (H : Hp) (Q : VK) (E0_ : XK) : Prop
  | mk (ro : Ro) (c0 : vs = [.str ro.txt]) (c1 : ro.nv) (c2 : ∀ (l : Addr) (H' : Hp), Same H H' → H l = none → H' l = some (.lst (ro.words.map V.str)) → Q (.ref l) H') : spReadLine  vs H Q E0_
theorem scReadLine : FnScope ["line", "words", "word"] ["line"] (defScope sReadLine) := ⟨rfl, rfl, rfl, by decide +kernel, rfl, by decide +kernel, by decide +kernel⟩
noncomputable def RowsAt (H : Hp) : List Ro → List Addr → Prop := Paired fun ro a => H a = some (.lst (ro.words.map V.str))
theorem RowsAt.same {H H' : Hp} (s : Same H H') : ∀ {rs : List Ro} {ls : List Addr}, RowsAt H rs ls → RowsAt H' rs ls
  | _, _, .nil => .nil
  | _, _, .cons a b => .cons (s _ _ a) (RowsAt.same s b)
theorem RowsAt.keep {H H' : Hp} : ∀ {rs : List Ro} {ls : List Addr}, RowsAt H rs ls → (∀ a ∈ ls, ∀ o, H a = some o → H' a = some o) → RowsAt H' rs ls
  | _, _, .nil, _ => .nil
  | _, _, .cons a b, k => .cons (k _ List.mem_cons_self _ a) (RowsAt.keep b fun x hx => k x (List.mem_cons_of_mem _ hx))
theorem RowsAt.snoc {H : Hp} {ro : Ro} {a : Addr} (h : H a = some (.lst (ro.words.map V.str))) : ∀ {rs : List Ro} {ls : List Addr}, RowsAt H rs ls → RowsAt H (rs ++ [ro]) (ls ++ [a])
  | _, _, .nil => .cons h .nil
  | _, _, .cons x b => .cons x (RowsAt.snoc h b)
theorem RowsAt.length {H : Hp} {rs : List Ro} {ls : List Addr} (h : RowsAt H rs ls) : rs.length = ls.length := Paired.length h
theorem RowsAt.get {H : Hp} : ∀ {rs : List Ro} {ls : List Addr} {i : Nat} {a : Addr}, RowsAt H rs ls → ls[i]? = some a → ∃ ro, rs[i]? = some ro ∧ H a = some (.lst (ro.words.map V.str))
  | _, _, _, _, .nil, e => by simp at e
  | _, _, 0, _, .cons x _, e => by
    simp at e
    subst e
    exact ⟨_, rfl, x⟩
  | _, _, i + 1, _, .cons _ b, e => by
    obtain ⟨ro, h1, h2⟩ := RowsAt.get (i := i) b (by simpa using e)
    exact ⟨ro, by simpa using h1, h2⟩
inductive spReadRows (vs : List V) (H : Hp) (Q : VK) (E0_ : XK) : Prop
  | mk (a : Addr) (rs : List Ro) (c0 : vs = [.ref a]) (c1 : H a = some (.lst ((rs.map Ro.txt).map V.str))) (c2 : Good rs) (c3 : rs.length ≤ 12) (c4 : ∀ (l : Addr) (ls : List Addr) (H' : Hp), Same H H' → H' l = some (.lst (ls.map V.ref)) → RowsAt H' rs ls → Q (.ref l) H') : spReadRows  vs H Q E0_
theorem scReadRows : FnScope ["lines", "rows", "names"] ["lines"] (defScope sReadRows) := ⟨rfl, rfl, rfl, by decide +kernel, rfl, by decide +kernel, by decide +kernel⟩
inductive spReadThings (vs : List V) (H : Hp) (Q : VK) (E0_ : XK) : Prop
  | mk (a : Addr) (rs : List Ro) (ls : List Addr) (c0 : vs = [.ref a]) (c1 : H a = some (.lst (ls.map V.ref))) (c2 : RowsAt H rs ls) (c3 : Good rs) (c4 : ∀ (d : Addr) (H' : Hp), Same H H' → H d = none → H' d = some (.dK (shK rs)) → Q (.ref d) H') : spReadThings  vs H Q E0_
theorem scReadThings : FnScope ["rows", "shapes", "words"] ["rows"] (defScope sReadThings) := ⟨rfl, rfl, rfl, by decide +kernel, rfl, by decide +kernel, by decide +kernel⟩
noncomputable def oV' : Option Str → V
  | none => .non
  | some x => .str x
noncomputable def PlOk (H : Hp) : List (Str × Bool × Option Str) → List (Key × V) → Prop := Paired fun p kv => kv.1 = Sum.inr p.1 ∧ ∃ t, kv.2 = .ref t ∧ H t = some (.tup [.bl p.2.1, oV' p.2.2])
theorem PlOk.same {H H' : Hp} (s : ∀ b xs, H b = some (.tup xs) → H' b = some (.tup xs)) : ∀ {ps : List (Str × Bool × Option Str)} {kvs : List (Key × V)}, PlOk H ps kvs → PlOk H' ps kvs
  | _, _, .nil => .nil
  | _, _, .cons ⟨e, t, e2, e3⟩ b => .cons ⟨e, t, e2, s _ _ e3⟩ (PlOk.same s b)
theorem PlOk.snoc {H : Hp} {p : Str × Bool × Option Str} {t : Addr} (h : H t = some (.tup [.bl p.2.1, oV' p.2.2])) : ∀ {ps : List (Str × Bool × Option Str)} {kvs : List (Key × V)}, PlOk H ps kvs → PlOk H (ps ++ [p]) (kvs ++ [(Sum.inr p.1, .ref t)])
  | _, _, .nil => .cons ⟨rfl, t, rfl, h⟩ .nil
  | _, _, .cons x b => .cons x (PlOk.snoc h b)
theorem PlOk.length {H : Hp} {ps : List (Str × Bool × Option Str)} {kvs : List (Key × V)} (h : PlOk H ps kvs) : ps.length = kvs.length := Paired.length h
theorem PlOk.keys {H : Hp} : ∀ {ps : List (Str × Bool × Option Str)} {kvs : List (Key × V)}, PlOk H ps kvs → kvs.map (fun kv => kV kv.1) = (ps.map (·.1)).map V.str
  | _, _, .nil => rfl
  | _, _, .cons ⟨e, _⟩ b => by
    rw [List.map_cons, List.map_cons, List.map_cons, PlOk.keys b, e]
    rfl
theorem PlOk.none {H : Hp} {x : Str} : ∀ {ps : List (Str × Bool × Option Str)} {kvs : List (Key × V)}, PlOk H ps kvs → x ∉ ps.map (·.1) → valV kvs (Sum.inr x : Key) = .none
  | _, _, .nil, _ => rfl
  | _, _, .cons ⟨e, _⟩ b, h => by
    rw [valV_neg (fun z => h (by rw [e] at z; rw [← Sum.inr.inj z]; exact List.mem_cons_self))]
    exact PlOk.none b fun z => h (List.mem_cons_of_mem _ z)
theorem PlOk.get {H : Hp} : ∀ {ps : List (Str × Bool × Option Str)} {kvs : List (Key × V)} {i : Nat} {k : Key} {v : V}, PlOk H ps kvs → kvs[i]? = some (k, v) → ∃ p t, ps[i]? = some p ∧ v = .ref t ∧ H t = some (.tup [.bl p.2.1, oV' p.2.2])
  | _, _, _, _, _, .nil, e => by simp at e
  | _, _, 0, _, _, .cons ⟨e1, t, e2, e3⟩ _, e => by
    simp at e
    rw [e] at e2
    exact ⟨_, t, rfl, e2, e3⟩
  | _, _, i + 1, _, _, .cons _ b, e => by
    obtain ⟨p, t, h1, h2, h3⟩ := PlOk.get (i := i) b (by simpa using e)
    exact ⟨p, t, by simpa using h1, h2, h3⟩
inductive spReadPlaces (vs : List V) (H : Hp) (Q : VK) (E0_ : XK) : Prop
  | mk (a : Addr) (rs : List Ro) (ls : List Addr) (c0 : vs = [.ref a]) (c1 : H a = some (.lst (ls.map V.ref))) (c2 : RowsAt H rs ls) (c3 : Good rs) (c4 : ∀ (d : Addr) (kvs : List (Key × V)) (H' : Hp), Same H H' → H d = none → H' d = some (.dK kvs) → PlOk H' (plc rs) kvs → Q (.ref d) H') : spReadPlaces  vs H Q E0_
theorem scReadPlaces : FnScope ["rows", "places", "words"] ["rows"] (defScope sReadPlaces) := ⟨rfl, rfl, rfl, by decide +kernel, rfl, by decide +kernel, by decide +kernel⟩
inductive spCheckKeys (vs : List V) (H : Hp) (Q : VK) (E0_ : XK) : Prop
  | mk (d1 d2 : Addr) (rs : List Ro) (kvs : List (Key × V)) (c0 : vs = [.ref d1, .ref d2]) (c1 : H d1 = some (.dK kvs)) (c2 : PlOk H (plc rs) kvs) (c3 : H d2 = some (.dK (shK rs))) (c4 : d1 ≠ d2) (c5 : Good rs) (c6 : ∀ (o : Obj) (H' : Hp), (∀ b u, H b = some u → b ≠ d1 → H' b = some u) → H' d1 = some (.frz o (.dK kvs)) → Q .non H') : spCheckKeys  vs H Q E0_
theorem scCheckKeys : FnScope ["places", "shapes", "lid", "key"] ["places", "shapes"] (defScope sCheckKeys) := ⟨rfl, rfl, rfl, by decide +kernel, rfl, by decide +kernel, by decide +kernel⟩
noncomputable def rFlds (d1 d2 : Addr) : List (Str × V) := putF "told_shapes" (.ref d2) (putF "told_places" (.ref d1) [])
theorem rf_ne : ¬ (("told_places" : Str) = "told_shapes") := by decide +kernel
theorem rf_places (d1 d2 : Addr) : (rFlds d1 d2).lookup ("told_places" : Str) = some (.ref d1) := by
  unfold rFlds
  rw [lookup_putF, if_neg rf_ne, lookup_putF, if_pos rfl]
theorem rf_no (d1 d2 : Addr) {m : Str} (h1 : ¬ m = "told_shapes") (h2 : ¬ m = "told_places") : (rFlds d1 d2).lookup m = none := by
  unfold rFlds
  rw [lookup_putF, if_neg h1, lookup_putF, if_neg h2]
  rfl
inductive RoomAtE (C : Addr) (H : Hp) (x : Addr) (rs : List Ro) : Prop
  | mk (dx d1 d2 : Addr) (o : Obj) (kvs : List (Key × V)) (c0 : H x = some (.ins C dx (rFlds d1 d2))) (c1 : H d1 = some (.frz o (.dK kvs))) (c2 : PlOk H (plc rs) kvs) (c3 : H d2 = some (.dK (shK rs))) : RoomAtE C H x rs
structure RoomAt (C : Addr) (H : Hp) (x : Addr) (rs : List Ro) : Prop where
  ex : RoomAtE C H x rs
theorem RoomAt.same {C : Addr} {H H' : Hp} {x : Addr} {rs : List Ro} (R : RoomAt C H x rs) (s : Same H H') : RoomAt C H' x rs := by
  obtain ⟨dx, d1, d2, o, kvs, h1, h2, h3, h4⟩ := R.ex
  exact ⟨dx, d1, d2, o, kvs, s _ _ h1, s _ _ h2, h3.same fun b xs e => s _ _ e, s _ _ h4⟩
structure Cl (K : PySem.W.Frag) (C : Addr) : Prop where
  cl : Cls K C
  nP : NoAttr K C "told_places"
  nS : NoAttr K C "told_shapes"
inductive spInit (C : Addr) (vs : List V) (H : Hp) (Q : VK) (E0_ : XK) : Prop
  | mk (x dx a : Addr) (rs : List Ro) (c0 : vs = [.ref x, .ref a]) (c1 : H x = some (.ins C dx [])) (c2 : H a = some (.lst ((rs.map Ro.txt).map V.str))) (c3 : Good rs) (c4 : rs.length ≤ 12) (c5 : ∀ H' : Hp, (∀ b u, H b = some u → b ≠ x → H' b = some u) → RoomAt C H' x rs → Q .non H') : spInit C vs H Q E0_
theorem scInit : FnScope ["self", "lines", "rows", "places", "shapes"] ["self", "lines"] (defScope sInit) := ⟨rfl, rfl, rfl, by decide +kernel, rfl, by decide +kernel, by decide +kernel⟩
inductive spPlaces (C : Addr) (vs : List V) (H : Hp) (Q : VK) (E0_ : XK) : Prop
  | mk (x : Addr) (rs : List Ro) (c0 : vs = [.ref x]) (c1 : RoomAt C H x rs) (c2 : ∀ (l : Addr) (H' : Hp), Same H H' → H l = none → H' l = some (.lst (((plc rs).map (·.1)).map V.str)) → Q (.ref l) H') : spPlaces C vs H Q E0_
theorem scPlaces : FnScope ["self"] ["self"] (defScope sPlaces) := ⟨rfl, rfl, rfl, by decide +kernel, rfl, by decide +kernel, by decide +kernel⟩
theorem for_vals {a : Addr} {o : Obj} {kvs : List (Key × V)} {g : TG} {tb : TS} {D : Ends} {σ : L2.St} {H : Hp} (Pv : Nat → L2.St → Hp → Prop) (h0 : Pv 0 σ H) (hl : ∀ i σ H, i ≤ kvs.length → Pv i σ H → H a = some (.frz o (.dK kvs)))
    (hs : ∀ i k x σ H, kvs[i]? = some (k, x) → Pv i σ H → g x σ H fun σ2 H2 => tb { D with nx := Pv (i + 1), ct := Pv (i + 1), bk := D.nx } σ2 H2) (hd : ∀ σ H, Pv kvs.length σ H → D.nx σ H) :
    ∃ W : Nat → Nat → L2.St → Hp → Prop, (∃ m, W 0 m σ H) ∧ ∀ i m σ H, W i m σ H →
      ((Itv a o kvs).stop i H ∧ D.nx σ H) ∨ ((Itv a o kvs).go i H ∧ ∃ N : L2.St → Hp → Prop, (∀ σ' H', N σ' H' → ∃ m', m' < m ∧ W (i + 1) m' σ' H') ∧ ∀ x H', (Itv a o kvs).yld i H x H' → g x σ H' fun σ2 H2 => tb { D with nx := N, ct := N, bk := D.nx } σ2 H2) := by
  refine ⟨fun i m σ H => m = kvs.length - i ∧ i ≤ kvs.length ∧ Pv i σ H, ⟨kvs.length, by simp, Nat.zero_le _, h0⟩, ?_⟩
  rintro i m σ H ⟨rfl, hi, p⟩
  have q := hl i σ H hi p
  by_cases hlt : i < kvs.length
  · refine .inr ⟨⟨hlt, q⟩, Pv (i + 1), fun σ' H' p' => ⟨kvs.length - (i + 1), by lia, rfl, hlt, p'⟩, fun x H' y => ?_⟩
    obtain ⟨e, k, y⟩ := y
    subst e
    exact hs i k x σ _ y p
  · have e : i = kvs.length := by lia
    subst e
    exact .inl ⟨⟨Nat.le_refl _, q⟩, hd σ H p⟩
end
end K14
namespace K14
open PySem L2 Tx Rk PyProof.Rows PySem.SeqAt
open PySem.PyData (strOk)
section
variable {P : Program} {w : World} {K : PySem.W.Frag} {mg : Str → Option Value} {base : Heap}
theorem ok_isname {f aN aF : Addr} {fd : FuncData} (F : Fun K "is_name" "is_name" sIsName f fd) (T : Bl mg) (M : Md K mg aN aF) : FnOk P w K mg base CX0 1 f fd ["text"] spIsName := by
  obtain ⟨t1, m1⟩ := M.letters
  obtain ⟨t2, m2⟩ := M.most
  refine F.ok scIsName (fun vs H Q E h => ?_) (fun cdv A outer s H vs Q E hr h => ?_)
  · obtain ⟨x, rfl, _⟩ := h
    rfl
  · obtain ⟨x, rfl, hx, q⟩ := h
    have hsl : sizeLine = 16777216 := sizeLine_eq
    have hl := hx.len
    have hp := hx.pos
    refine ⟨_, pss_cons (ps_if (PW.pt (pw_or (pt_cmpR op_eq (pv 0) pe_str (nomark _)) (pw_or (pt_cmpR op_gt (pe_callB call_len (by rfl) T.len PySem.boot_len (pa_cons (pv 0) pa_nil)) (pe_glob (v := .int 8) (by rfl) m2 ⟨_, rfl⟩) (nomark _))
        (pw_or1 (pt_cmpR op_in_seq (pv 0) (pe_glob (v := .ref aN) (by rfl) M.nn rfl) (by rfl)))))) (pss_one (ps_ret pe_bl)) pss_nil)
      (pss_one (ps_ret (pe_callB (call_all rfl) (by rfl) T.all bt_all (pa_cons (pe_lc (N := ["sign"]) (sc := defScope sIsName) (own := ["sign"]) (fr := []) (js := []) ⟨rfl, rfl, rfl, rfl, by decide +kernel, by decide +kernel, by decide +kernel, rfl, by decide +kernel⟩ rfl (pi_str (pv 0))
        (fun _ _ _ _ => pg_name (i := 0) (show List.Nodup (["sign"] : List Str) by decide +kernel) rfl (Or.inl rfl)) (fun _ _ _ _ => pif_nil) (fun _ _ _ _ => pe_cmpR op_in_str (pv 0) (pe_glob (v := .str abc) (by rfl) m1 ⟨_, rfl⟩) (by rfl))) pa_nil)))), ?_⟩
    refine ⟨_, rfl, rfl, _, rfl, ?_⟩
    refine ite2 (fun he => ?_) (fun _ => ?_)
    · exfalso
      have e := V.str.inj (of_decide_eq_true he)
      rw [e] at hp
      exact absurd hp (by decide +kernel)
    refine ⟨_, rfl, _, _, rfl, ⟨by lia, rfl⟩, _, _, rfl, rfl, _, rfl, ?_⟩
    refine ite2 (fun he => ?_) (fun _ => ?_)
    · exfalso
      have := of_decide_eq_true he
      lia
    refine ⟨_, rfl, aN, _, rfl, .inr (M.nv H), rfl, flat_strs _, _, rfl, ?_⟩
    refine ite2 (fun he => ?_) (fun _ => ?_)
    · exfalso
      have he' : inV (.str x) (fixedS.map V.str) = true := he
      rw [inV_strs] at he'
      exact hx.fix (of_decide_eq_true he')
    refine ⟨_, rfl, x, rfl, hx.ascii, fun D hD => ?_⟩
    refine lcJ (n := x.cps.size) (fun i ys H2 => ys = List.replicate i (V.bl true) ∧ Same H H2 ∧ H2 D = some (.lst ys)) ⟨rfl, Same.new hD, upd_same⟩ (fun i _ _ hi _ => hi) (fun _ _ _ => Nat.le_refl _) ?_ ?_
    · rintro i ys H2 v H3 hi ⟨rfl, sm, hD2⟩ ⟨rfl, c, hc, rfl⟩
      refine lc_yes ?_
      have hcm : c ∈ cs x := by
        have := List.mem_of_getElem? (l := x.cps.toList) (i := i) (a := c) (by simpa using hc)
        exact this
      have hcl := hx.low c hcm
      have hxz : x.cps.size ≤ 8 := hl
      refine ⟨_, rfl, _, _, rfl, rfl, _, hD2, by rw [List.length_replicate]; lia, ?_, sm.put hD, upd_same⟩
      rw [in_abc hcl.1 hcl.2, List.replicate_succ']
    · rintro ys H2 ⟨rfl, sm, hD2⟩
      refine ⟨D, List.replicate x.cps.size true, rfl, SqL.of (by rw [hD2, List.map_replicate]), ?_⟩
      have e : (List.replicate x.cps.size true).all (fun b => b) = true := by
        rw [List.all_eq_true]
        intro b hb
        exact (List.mem_replicate.mp hb).2
      rw [e]
      exact q H2 sm
end
end K14
namespace K14
open PySem L2 Tx Rk PyProof.Rows PySem.SeqAt
open PySem.PyData (strOk)
section
variable {P : Program} {w : World} {K : PySem.W.Frag} {mg : Str → Option Value} {base : Heap}
theorem ok_readline {f fI aN aF : Addr} {fd fdI : FuncData} (F : Fun K "read_line" "read_line" sReadLine f fd) (DI : Df K mg "is_name" sIsName ["text"] fI fdI) (T : Bl mg) (M : Md K mg aN aF) (GI : FnOk P w K mg base CX0 1 fI fdI ["text"] spIsName) : FnOk P w K mg base CX0 2 f fd ["line"] spReadLine := by
  refine F.ok scReadLine (fun vs H Q E h => ?_) (fun cdv A outer s H vs Q E hr h => ?_)
  · obtain ⟨ro, rfl, _⟩ := h
    rfl
  · obtain ⟨ro, rfl, hv, q⟩ := h
    have hun : (A.deeper (envOfC "read_line" (defScope sReadLine) s.heap.objs.size f cdv)).units + 65 < cLine := by have := hr.un; lia
    have hsl : sizeLine = 16777216 := sizeLine_eq
    have hll := txt_len hv
    refine ⟨_, pss_cons (ps_set (i := 1) scReadLine.nd rfl (Or.inl rfl) (pe_bm PySem.F.plainAttrs_str PySem.F.slot_str_split PySem.F.type_str_split mt_split (pv 0) (pa_cons pe_str pa_nil)))
      (pss_cons (ps_if (pt_cmpR (op_notinD hun) (pe_tup (pa_cons (pe_ix ix_list (pv 1) pe_int (fun _ _ => rfl)) (pa_cons (pe_callB call_len (by rfl) T.len PySem.boot_len (pa_cons (pv 1) pa_nil)) pa_nil))) (pe_glob (v := .ref aF) (by rfl) M.ff rfl) (by rfl)) pss_never pss_nil)
      (pss_cons (ps_for PassesOwn.never rfl (pi_list (pe_slice sl_list (pv 1) (po_some pe_int) po_none)) (pg_name (i := 2) scReadLine.nd rfl (Or.inl rfl))
        (pss_one (ps_if (pt_not (pt_val (pe_call GI hr (by rfl) DI.m DI.F.kp DI.b .nil pass0 (pa_cons (pv 2) pa_nil)))) pss_never pss_nil)))
      (pss_one (ps_ret (pv 1))))), ?_⟩
    refine ⟨_, rfl, rfl, _, _, rfl, rfl, by decide +kernel, by lia, fun l hl => ?_⟩
    rw [show Txt.split ro.txt (Str.ofString " ") = ro.words from split_txt hv]
    have s1 : Same H (upd H l (.lst (ro.words.map V.str))) := Same.new hl
    have e1 : (upd H l (.lst (ro.words.map V.str))) l = some (.lst (ro.words.map V.str)) := upd_same
    generalize upd H l (.lst (ro.words.map V.str)) = H1 at s1 e1 ⊢
    obtain ⟨w0, rest, ew⟩ : ∃ w0 rest, ro.words = w0 :: rest := by cases ro <;> exact ⟨_, _, rfl⟩
    have hat : atI (ro.words.map V.str) ((0 : Nat) : Int) = some (.str w0) := atI_nat (by rw [ew]; rfl)
    refine ⟨_, rfl, l, _, _, _, rfl, rfl, SqL.of e1, hat, _, rfl, _, _, rfl, .inl ⟨_, SqL.of e1, rfl⟩, by show 2 ≤ sizeLine; decide, fun p hp => ?_⟩
    have s2 : Same H1 (upd H1 p (.tup [.str w0, .int ((ro.words.map V.str).length : Nat)])) := Same.new hp
    have hwl : (ro.words.map V.str).length = ro.words.length := List.length_map ..
    refine ⟨.tuple [.str w0, .int (ro.words.length : Nat)], formsD, .tup (by rw [upd_same, hwl]) (.cons (.str w0) (.cons (.int _) .nil)), M.fv, ?_, by decide +kernel, _, rfl, ?_⟩
    · cases ro with
      | pl n => cases ew; exact (by decide +kernel : shaped (PyData.tuple [PyData.str "place", PyData.int ((2 : Nat) : Int)]) = true)
      | bx n => cases ew; exact (by decide +kernel : shaped (PyData.tuple [PyData.str "box", PyData.int ((2 : Nat) : Int)]) = true)
      | lk n k => cases ew; exact (by decide +kernel : shaped (PyData.tuple [PyData.str "box", PyData.int ((3 : Nat) : Int)]) = true)
      | th n k => cases ew; exact (by decide +kernel : shaped (PyData.tuple [PyData.str "thing", PyData.int ((3 : Nat) : Int)]) = true)
    have hany : (formsD.any fun e => PyData.eqv e (.tuple [.str w0, .int (ro.words.length : Nat)])) = true := by
      cases ro with
      | pl n => cases ew; exact (by decide +kernel : (formsD.any fun e => PyData.eqv e (.tuple [.str "place", .int ((2 : Nat) : Int)])) = true)
      | bx n => cases ew; exact (by decide +kernel : (formsD.any fun e => PyData.eqv e (.tuple [.str "box", .int ((2 : Nat) : Int)])) = true)
      | lk n k => cases ew; exact (by decide +kernel : (formsD.any fun e => PyData.eqv e (.tuple [.str "box", .int ((3 : Nat) : Int)])) = true)
      | th n k => cases ew; exact (by decide +kernel : (formsD.any fun e => PyData.eqv e (.tuple [.str "thing", .int ((3 : Nat) : Int)])) = true)
    rw [hany]
    refine iteF ?_
    -- each word behind the first
    have s12 := s1.trans s2
    generalize (upd H1 p (.tup [.str w0, .int ((ro.words.map V.str).length : Nat)])) = H2 at s2 s12 ⊢
    have e2 := s2 _ _ e1
    refine ⟨_, rfl, _, rfl, l, _, rfl, SqL.of e2, fun z hz => ?_⟩
    have s3 : Same H2 (upd H2 z (.lst (cutV (ro.words.map V.str) (some 1) none))) := Same.new hz
    have hcut : cutV (ro.words.map V.str) (some ((1 : Nat) : Int)) none = (ro.words.drop 1).map V.str := by
      unfold cutV
      rw [HT.sIx_none, HT.sIx_nat, hwl, ew, List.length_cons, Nat.min_eq_left (by lia), List.map_drop]
      refine List.take_of_length_le ?_
      simp
    have e3 : (upd H2 z (.lst (cutV (ro.words.map V.str) (some 1) none))) z = some (.lst ((ro.words.drop 1).map V.str)) := by rw [upd_same]; exact congrArg (fun x => some (HO.lst x)) hcut
    generalize upd H2 z (.lst (cutV (ro.words.map V.str) (some 1) none)) = H3 at s3 e3 ⊢
    have hnm : ∀ x ∈ ro.words.drop 1, Nv x := fun x hx => by
      cases ro with
      | pl n => rw [List.mem_singleton.mp hx]; exact hv
      | bx n => rw [List.mem_singleton.mp hx]; exact hv
      | lk n k =>
        rcases List.mem_cons.mp hx with e | e
        · rw [e]; exact hv.1
        · rw [List.mem_singleton.mp e]; exact hv.2
      | th n k =>
        rcases List.mem_cons.mp hx with e | e
        · rw [e]; exact hv.1
        · rw [List.mem_singleton.mp e]; exact hv.2
    refine ⟨z, rfl, ⟨_, SqL.of e3⟩, for_list (K := K) (a := z) (xs := (ro.words.drop 1).map V.str) (fun i σ H4 => ∃ v2 : Option V, σ = [some (.str ro.txt), some (.ref l), v2] ∧ Same H3 H4) ⟨none, rfl, Same.refl _⟩ (fun i σ H4 _ hh0 => by obtain ⟨_, _, s4⟩ := hh0; exact SqL.of (s4 _ _ e3)) ?_ ?_⟩
    · rintro i x σ H4 hx ⟨v2, rfl, s4⟩
      rw [List.getElem?_map] at hx
      cases e : (ro.words.drop 1)[i]? with
      | none => rw [e] at hx; cases hx
      | some y =>
        rw [e] at hx
        cases hx
        refine ⟨_, rfl, y, rfl, hnm y (List.mem_of_getElem? e), fun H5 s5 => ⟨_, rfl, ?_⟩⟩
        refine iteF ?_
        exact ⟨_, rfl, s4.trans s5⟩
    · rintro σ H4 ⟨v2, rfl, s4⟩
      have s34 := s3.trans s4
      exact ⟨_, rfl, q l H4 (s12.trans s34) hl (s34 _ _ e2)⟩
end
end K14
namespace K14
open PySem L2 Tx Rk PyProof.Rows PySem.SeqAt
open PySem.PyData (strOk)
section
variable {P : Program} {w : World} {K : PySem.W.Frag} {mg : Str → Option Value} {base : Heap}
theorem ok_readrows {f fR : Addr} {fd fdR : FuncData} (F : Fun K "read_rows" "read_rows" sReadRows f fd) (DR : Df K mg "read_line" sReadLine ["line"] fR fdR) (T : Bl mg) (GR : FnOk P w K mg base CX0 2 fR fdR ["line"] spReadLine) : FnOk P w K mg base CX0 3 f fd ["lines"] spReadRows := by
  refine F.ok scReadRows (fun vs H Q E h => ?_) (fun cdv A outer s H vs Q E hr h => ?_)
  · obtain ⟨a, rs, rfl, _⟩ := h
    rfl
  · obtain ⟨a, rs, rfl, ha, g, hrl, q⟩ := h
    have hsl : sizeLine = 16777216 := sizeLine_eq
    refine ⟨_, pss_cons (ps_lc (i := 1) (N := ["line"]) (sc := defScope sReadRows) (own := ["line"]) (fr := []) (js := []) scReadRows.nd rfl rfl ⟨rfl, rfl, rfl, rfl, by decide +kernel, by decide +kernel, by decide +kernel, rfl, by decide +kernel⟩ rfl (pi_list (pv 0))
        (fun _ _ _ _ => pg_name (i := 0) (show List.Nodup (["line"] : List Str) by decide +kernel) rfl (Or.inl rfl)) (fun _ _ _ _ => pif_nil) (fun _ _ _ _ => pe_call GR hr (by rfl) DR.m DR.F.kp DR.b .nil pass0 (pa_cons (pv 0) pa_nil)))
      (pss_cons (ps_lc (i := 2) (N := ["words"]) (sc := defScope sReadRows) (own := ["words"]) (fr := []) (js := []) scReadRows.nd rfl rfl ⟨rfl, rfl, rfl, rfl, by decide +kernel, by decide +kernel, by decide +kernel, rfl, by decide +kernel⟩ rfl (pi_list (pv 1))
        (fun _ _ _ _ => pg_name (i := 0) (show List.Nodup (["words"] : List Str) by decide +kernel) rfl (Or.inl rfl)) (fun _ _ _ _ => pif_nil) (fun _ _ _ _ => pe_ix (ix_listK K rfl) (pv 0) pe_int (fun _ _ => rfl)))
      (pss_cons (ps_if (pt_cmpR op_lt (pe_callB call_lenS (by rfl) T.len PySem.boot_len (pa_cons (pe_callTy (call_setK rfl) (by rfl) T.set bt_set (pa_cons (pv 2) pa_nil)) pa_nil)) (pe_callB call_len (by rfl) T.len PySem.boot_len (pa_cons (pv 2) pa_nil)) (nomark _)) pss_never pss_nil)
      (pss_one (ps_ret (pv 1))))), ?_⟩
    refine ⟨_, rfl, a, rfl, ⟨_, SqL.of ha⟩, fun D hD => ?_⟩
    refine lcJ (n := rs.length) (fun i ys H2 => ∃ ls : List Addr, ys = ls.map V.ref ∧ RowsAt H2 (rs.take i) ls ∧ (∀ l ∈ ls, l ≠ D) ∧ Same H H2 ∧ H2 D = some (.lst ys)) ⟨[], rfl, .nil, (fun _ z => nomatch z), Same.new hD, upd_same⟩
      (fun i ys H2 hi hh0 => by obtain ⟨_, _, _, _, s2, _⟩ := hh0; exact ⟨_, .str rs[i].txt, SqL.of (s2 _ _ ha), by simp [hi]⟩) (fun ys H2 hh0 => by obtain ⟨_, _, _, _, s2, _⟩ := hh0; exact ⟨_, SqL.of (s2 _ _ ha), by simp⟩) ?_ ?_
    · rintro i ys H2 x H3 hi ⟨ls, rfl, ra, nD, s2, e2⟩ ⟨rfl, hx⟩
      refine lc_yes ?_
      have hx1 := hx _ (SqL.of (s2 _ _ ha))
      have hx2 : x = .str rs[i].txt := by
        rw [List.getElem?_map, List.getElem?_map, List.getElem?_eq_getElem hi] at hx1
        exact (Option.some.inj hx1).symm
      subst hx2
      refine ⟨_, rfl, rs[i], rfl, g.nv _ (List.getElem_mem hi), fun l H4 s4 fl el => ?_⟩
      have lD : l ≠ D := (ne_of_none e2 fl).symm
      have hlen := ra.length
      rw [List.length_take] at hlen
      refine ⟨_, s4 _ _ e2, by rw [List.length_map]; lia, ls ++ [l], by simp, ?_, fun z hz => ?_, (s2.trans s4).put hD, upd_same⟩
      · rw [List.take_succ_eq_append_getElem hi]
        refine RowsAt.snoc (by rw [upd_ne lD]; exact el) (ra.keep fun b hb o e => ?_)
        rw [upd_ne (nD b hb)]
        exact s4 _ _ e
      · rcases List.mem_append.mp hz with hz | hz
        · exact nD z hz
        · rw [List.mem_singleton.mp hz]; exact lD
    rintro ys H2 ⟨ls, rfl, ra, nD, s2, e2⟩
    rw [List.take_length] at ra
    have hlen := ra.length
    -- the names
    refine ⟨_, rfl, D, rfl, ⟨_, SqL.of e2⟩, fun D2 hD2 => ?_⟩
    refine lcJ (n := rs.length) (fun i ys H3 => ys = ((rs.take i).map Ro.name).map V.str ∧ Same H2 H3 ∧ H3 D2 = some (.lst ys)) ⟨rfl, Same.new hD2, upd_same⟩
      (fun i ys H3 hi hh0 => by obtain ⟨_, s3, _⟩ := hh0; exact ⟨_, .ref (ls[i]'(by lia)), SqL.of (s3 _ _ e2), by simp [show i < ls.length by lia]⟩) (fun ys H3 hh0 => by obtain ⟨_, s3, _⟩ := hh0; exact ⟨_, SqL.of (s3 _ _ e2), by simp; lia⟩) ?_ ?_
    · rintro i ys H3 x H4 hi ⟨rfl, s3, e3⟩ ⟨rfl, hx⟩
      refine lc_yes ?_
      have hx1 := hx _ (SqL.of (s3 _ _ e2))
      have hil : i < ls.length := by lia
      rw [List.getElem?_map, List.getElem?_eq_getElem hil] at hx1
      have hx2 : x = .ref ls[i] := (Option.some.inj hx1).symm
      subst hx2
      obtain ⟨ro, h1, h2⟩ := ra.get (List.getElem?_eq_getElem hil)
      have hat : atI (ro.words.map V.str) ((1 : Nat) : Int) = some (.str ro.name) := atI_nat (by cases ro <;> rfl)
      refine ⟨_, rfl, ls[i], _, _, _, rfl, rfl, SqL.of (s3 _ _ h2), hat, _, e3, by rw [List.length_map, List.length_map, List.length_take]; lia, ?_, s3.put hD2, upd_same⟩
      have hro : rs[i] = ro := (List.getElem?_eq_some_iff.mp h1).2
      rw [List.take_succ_eq_append_getElem hi, List.map_append, List.map_append, hro]
      rfl
    rintro ys H3 ⟨rfl, s3, e3⟩
    rw [List.take_length] at e3
    have ek : (rs.map Ro.name).map V.str = ((rs.map Ro.name).map (Sum.inr : Str → Key)).map kV := by
      rw [List.map_map, List.map_map, List.map_map]
      rfl
    have hkl : ((rs.map Ro.name).map (Sum.inr : Str → Key)).length = rs.length := by rw [List.length_map, List.length_map]
    refine ⟨_, rfl, D2, (rs.map Ro.name).map Sum.inr, rfl, SqL.of (by rw [← ek]; exact e3), by lia, fun st hst => ?_⟩
    have hdd : (SK.dd (kAt ((rs.map Ro.name).map (Sum.inr : Str → Key))) ((rs.map Ro.name).map (Sum.inr : Str → Key)).length).length = rs.length := by
      rw [SK.dd_full (n := rs.length) (fun i j hi hj e => ?_) _ (by lia), hkl]
      have ei : kAt ((rs.map Ro.name).map (Sum.inr : Str → Key)) i = Sum.inr ((rs.map Ro.name)[i]'(by rw [List.length_map]; exact hi)) := by simp [kAt, List.getD, hi]
      have ej : kAt ((rs.map Ro.name).map (Sum.inr : Str → Key)) j = Sum.inr ((rs.map Ro.name)[j]'(by rw [List.length_map]; exact hj)) := by simp [kAt, List.getD, hj]
      rw [ei, ej] at e
      exact (List.getElem_inj g.nd).mp (Sum.inr.inj e)
    have s4 : Same H3 (upd H3 st (setO P w st (SK.dd (kAt ((rs.map Ro.name).map (Sum.inr : Str → Key))) ((rs.map Ro.name).map (Sum.inr : Str → Key)).length).length)) := Same.new hst
    refine ⟨st, _, rfl, upd_same, _, rfl, _, _, rfl, .inl ⟨_, SqL.of (s4 _ _ e3), rfl⟩, _, _, rfl, rfl, _, rfl, ?_⟩
    rw [hdd] at s4 ⊢
    refine ite2 (fun hlt => ?_) (fun _ => ?_)
    · exfalso
      have := of_decide_eq_true hlt
      rw [List.length_map, List.length_map] at this
      lia
    · have s24 := s3.trans s4
      exact ⟨_, rfl, q D ls _ (s2.trans s24) (s24 _ _ e2) (ra.same s24)⟩
end
end K14
namespace K14
open PySem L2 Tx Rk PyProof.Rows PySem.SeqAt
open PySem.PyData (strOk)
section
variable {P : Program} {w : World} {K : PySem.W.Frag} {mg : Str → Option Value} {base : Heap}
theorem ok_things {f aN aF : Addr} {fd : FuncData} (F : Fun K "read_things" "read_things" sReadThings f fd) (T : Bl mg) (M : Md K mg aN aF) : FnOk P w K mg base CX0 1 f fd ["rows"] spReadThings := by
  obtain ⟨t1, m1⟩ := M.mt
  refine F.ok scReadThings (fun vs H Q E h => ?_) (fun cdv A outer s H vs Q E hr h => ?_)
  · obtain ⟨a, rs, ls, rfl, _⟩ := h
    rfl
  · obtain ⟨a, rs, ls, rfl, ha, ra, g, q⟩ := h
    have hu := hu_of hr
    have hsl : sizeLine = 16777216 := sizeLine_eq
    have hft := g.fewT
    have hlen := ra.length
    refine ⟨_, pss_cons (ps_set (i := 1) scReadThings.nd rfl (Or.inl rfl) pe_dnewK)
      (pss_cons (ps_for PassesOwn.never rfl (pi_list (pv 0)) (pg_name (i := 2) scReadThings.nd rfl (Or.inl rfl))
        (pss_one (ps_if (pt_cmpR op_eq (pe_ix ix_list (pv 2) pe_int (fun _ _ => rfl)) pe_str (nomark _)) (pss_one (ps_dput hu (pv 1) (pe_ix ix_list (pv 2) pe_int (fun _ _ => rfl)) (pe_ix ix_list (pv 2) pe_int (fun _ _ => rfl)) rfl)) pss_nil)))
      (pss_cons (ps_if (pt_cmpR op_gt (pe_callB call_lenD (by rfl) T.len PySem.boot_len (pa_cons (pv 1) pa_nil)) (pe_glob (v := .int 6) (by rfl) m1 ⟨_, rfl⟩) (nomark _)) pss_never pss_nil)
      (pss_one (ps_ret (pv 1))))), ?_⟩
    intro d hd
    have s0 : Same H (upd H d (.dK [])) := Same.new hd
    refine ⟨_, rfl, a, rfl, ⟨_, SqL.of (s0 _ _ ha)⟩, for_list (K := K) (a := a) (xs := ls.map V.ref) (fun i σ H2 => ∃ v2 : Option V, σ = [some (.ref a), some (.ref d), v2] ∧ Same H H2 ∧ H2 d = some (.dK (shK (rs.take i)))) ⟨none, rfl, s0, upd_same⟩
      (fun i σ H2 _ hh0 => by obtain ⟨_, _, s2, _⟩ := hh0; exact SqL.of (s2 _ _ ha)) ?_ ?_⟩
    · rintro i x σ H2 hx ⟨v2, rfl, s2, e2⟩
      rw [List.getElem?_map] at hx
      cases el : ls[i]? with
      | none => rw [el] at hx; cases hx
      | some l =>
        rw [el] at hx
        cases hx
        obtain ⟨ro, h1, h2⟩ := ra.get el
        have hi : i < rs.length := (List.getElem?_eq_some_iff.mp h1).1
        have hro : rs[i] = ro := (List.getElem?_eq_some_iff.mp h1).2
        have htk : rs.take (i + 1) = rs.take i ++ [ro] := by rw [List.take_succ_eq_append_getElem hi, hro]
        have hw := s2 _ _ h2
        obtain ⟨w0, w1, rest, ew⟩ : ∃ w0 w1 rest, ro.words = w0 :: w1 :: rest := by cases ro <;> exact ⟨_, _, _, rfl⟩
        have at0 : atI (ro.words.map V.str) ((0 : Nat) : Int) = some (.str w0) := atI_nat (by rw [ew]; rfl)
        refine ⟨_, rfl, l, _, _, _, rfl, rfl, SqL.of hw, at0, rfl, _, rfl, ?_⟩
        refine ite2 (fun he => ?_) (fun he => ?_)
        · have e0 := V.str.inj (of_decide_eq_true he)
          obtain ⟨n, sp, rfl⟩ : ∃ n s, ro = .th n s := by
            cases ro with
            | th n s => exact ⟨n, s, rfl⟩
            | pl n => cases ew; exact absurd e0 (by decide +kernel)
            | bx n => cases ew; exact absurd e0 (by decide +kernel)
            | lk n k => cases ew; exact absurd e0 (by decide +kernel)
          have at1 : atI ((Ro.th n sp).words.map V.str) ((1 : Nat) : Int) = some (.str n) := atI_nat rfl
          have at2 : atI ((Ro.th n sp).words.map V.str) ((2 : Nat) : Int) = some (.str sp) := atI_nat rfl
          have hsh : (shK (rs.take i)).length ≤ 6 := by
            have : (ths rs).length = (ths (rs.take i)).length + (ths (rs.drop i)).length := by rw [← List.length_append, ← ths_app, List.take_append_drop]
            unfold shK
            rw [List.length_map]
            lia
          refine ⟨_, rfl, l, _, _, _, rfl, rfl, SqL.of hw, at2, _, rfl, _, rfl, l, _, _, _, rfl, rfl, SqL.of hw, at1, d, _, rfl, DPut.k (k := (Sum.inr n : Key)) e2 (by lia), ?_⟩
          have hnone : valV (shK (rs.take i)) (Sum.inr n : Key) = none := by
            have hnd : ((rs.take (i + 1)).map Ro.name).Nodup := by
              rw [List.map_take]
              exact List.Sublist.nodup (List.take_sublist _ _) g.nd
            rw [htk, List.map_append] at hnd
            cases hv : valV (shK (rs.take i)) (Sum.inr n : Key) with
            | none => rfl
            | some v =>
              exfalso
              have hm := valV_in hv
              unfold shK at hm
              rw [List.map_map] at hm
              obtain ⟨z, hz, ez⟩ := List.mem_map.mp hm
              have ez' : z.1 = n := Sum.inr.inj ez
              have hmn : n ∈ (rs.take i).map Ro.name := mem_ths_name (List.mem_map.mpr ⟨z, hz, ez'⟩)
              exact (List.nodup_append.mp hnd).2.2 n hmn n (List.mem_singleton.mpr rfl) rfl
          rw [putK_new _ hnone]
          refine ⟨_, rfl, s2.put hd, ?_⟩
          rw [upd_same, htk]
          unfold shK
          rw [ths_app, List.map_append]
          rfl
        · refine ⟨_, rfl, s2, ?_⟩
          have e3 : ths (rs.take (i + 1)) = ths (rs.take i) := by
            rw [htk, ths_app]
            cases ro with
            | th n s => cases ew; exact absurd (decide_eq_true rfl) he
            | _ => exact List.append_nil _
          unfold shK
          rw [e3]
          exact e2
    · rintro σ H2 ⟨v2, rfl, s2, e2⟩
      rw [show (ls.map V.ref).length = rs.length by rw [List.length_map, hlen], List.take_length] at e2
      have hsh : (shK rs).length ≤ 6 := by unfold shK; rw [List.length_map]; lia
      refine ⟨_, rfl, d, _, rfl, e2, _, _, rfl, rfl, _, rfl, ?_⟩
      refine ite2 (fun hlt => ?_) (fun _ => ⟨_, rfl, q d H2 s2 hd e2⟩)
      exfalso
      have := of_decide_eq_true hlt
      lia
end
end K14
namespace K14
open PySem L2 Tx Rk PyProof.Rows PySem.SeqAt
open PySem.PyData (strOk)
section
variable {P : Program} {w : World} {K : PySem.W.Frag} {mg : Str → Option Value} {base : Heap}
theorem ok_places {f aN aF : Addr} {fd : FuncData} (F : Fun K "read_places" "read_places" sReadPlaces f fd) (T : Bl mg) (M : Md K mg aN aF) : FnOk P w K mg base CX0 1 f fd ["rows"] spReadPlaces := by
  obtain ⟨t1, m1⟩ := M.mp
  refine F.ok scReadPlaces (fun vs H Q E h => ?_) (fun cdv A outer s H vs Q E hr h => ?_)
  · obtain ⟨a, rs, ls, rfl, _⟩ := h
    rfl
  · obtain ⟨a, rs, ls, rfl, ha, ra, g, q⟩ := h
    have hu := hu_of hr
    have hsl : sizeLine = 16777216 := sizeLine_eq
    have hfp := g.fewP
    have hlen := ra.length
    refine ⟨_, pss_cons (ps_set (i := 1) scReadPlaces.nd rfl (Or.inl rfl) pe_dnewK)
      (pss_cons (ps_for PassesOwn.never rfl (pi_list (pv 0)) (pg_name (i := 2) scReadPlaces.nd rfl (Or.inl rfl))
        (pss_cons (ps_if (pt_cmpR op_eq (pe_ix ix_list (pv 2) pe_int (fun _ _ => rfl)) pe_str (nomark _)) (pss_one (ps_dput hu (pv 1) (pe_ix ix_list (pv 2) pe_int (fun _ _ => rfl)) (pe_tup (pa_cons pe_bl (pa_cons pe_non pa_nil))) rfl)) pss_nil)
        (pss_one (ps_if (pt_cmpR op_eq (pe_ix ix_list (pv 2) pe_int (fun _ _ => rfl)) pe_str (nomark _))
          (pss_cons (ps_if (pt_cmpR op_eq (pe_callB call_lenD (by rfl) T.len PySem.boot_len (pa_cons (pv 1) pa_nil)) pe_int (nomark _)) pss_never pss_nil)
          (pss_one (ps_dput hu (pv 1) (pe_ix ix_list (pv 2) pe_int (fun _ _ => rfl)) (pe_tup (pa_cons pe_bl (pa_cons (pe_ifExp (pt_cmpR op_eq (pe_callB call_len (by rfl) T.len PySem.boot_len (pa_cons (pv 2) pa_nil)) pe_int (nomark _)) (pe_ix ix_list (pv 2) pe_int (fun _ _ => rfl)) pe_non) pa_nil))) rfl))) pss_nil))))
      (pss_cons (ps_if (PW.pt (pw_or (pt_cmpR op_eq (pe_callB call_lenD (by rfl) T.len PySem.boot_len (pa_cons (pv 1) pa_nil)) pe_int (nomark _)) (pw_or1 (pt_cmpR op_gt (pe_callB call_lenD (by rfl) T.len PySem.boot_len (pa_cons (pv 1) pa_nil)) (pe_glob (v := .int 6) (by rfl) m1 ⟨_, rfl⟩) (nomark _))))) pss_never pss_nil)
      (pss_one (ps_ret (pv 1))))), ?_⟩
    intro d hd
    have s0 : Same H (upd H d (.dK [])) := Same.new hd
    refine ⟨_, rfl, a, rfl, ⟨_, SqL.of (s0 _ _ ha)⟩, for_list (K := K) (a := a) (xs := ls.map V.ref) (fun i σ H2 => ∃ (v2 : Option V) (kvs : List (Key × V)), σ = [some (.ref a), some (.ref d), v2] ∧ Same H H2 ∧ H2 d = some (.dK kvs) ∧ PlOk H2 (plc (rs.take i)) kvs) ⟨none, [], rfl, s0, upd_same, .nil⟩
      (fun i σ H2 _ hh0 => by obtain ⟨_, _, _, s2, _⟩ := hh0; exact SqL.of (s2 _ _ ha)) ?_ ?_⟩
    · rintro i x σ H2 hx ⟨v2, kvs, rfl, s2, e2, pk2⟩
      rw [List.getElem?_map] at hx
      cases el : ls[i]? with
      | none => rw [el] at hx; cases hx
      | some l =>
        rw [el] at hx
        cases hx
        obtain ⟨ro, h1, h2⟩ := ra.get el
        have hi : i < rs.length := (List.getElem?_eq_some_iff.mp h1).1
        have hro : rs[i] = ro := (List.getElem?_eq_some_iff.mp h1).2
        have htk : rs.take (i + 1) = rs.take i ++ [ro] := by rw [List.take_succ_eq_append_getElem hi, hro]
        have hsp : rs = rs.take i ++ ro :: rs.drop (i + 1) := by
          rw [← hro, List.getElem_cons_drop, List.take_append_drop]
        have hw := s2 _ _ h2
        obtain ⟨w0, rest, ew⟩ : ∃ w0 rest, ro.words = w0 :: ro.name :: rest := by cases ro <;> exact ⟨_, _, rfl⟩
        have at0 : atI (ro.words.map V.str) ((0 : Nat) : Int) = some (.str w0) := atI_nat (by rw [ew]; rfl)
        have at1 : atI (ro.words.map V.str) ((1 : Nat) : Int) = some (.str ro.name) := atI_nat (by rw [ew]; rfl)
        have hkl := pk2.length
        have hfew : (plc (rs.take i)).length ≤ 6 := by
          have : (plc rs).length = (plc (rs.take i)).length + (plc (rs.drop i)).length := by rw [← List.length_append, ← plc_app, List.take_append_drop]
          lia
        have hnone : valV kvs (Sum.inr ro.name : Key) = none := by
          refine pk2.none fun z => ?_
          have hnd : ((rs.take (i + 1)).map Ro.name).Nodup := by
            rw [List.map_take]
            exact List.Sublist.nodup (List.take_sublist _ _) g.nd
          rw [htk, List.map_append] at hnd
          exact (List.nodup_append.mp hnd).2.2 _ (mem_plc_name z) ro.name (List.mem_singleton.mpr rfl) rfl
        -- what a stored pair makes
        have put : ∀ (p : Str × Bool × Option Str) (tp : Addr) (H3 : Hp), plc [ro] = [p] → p.1 = ro.name → H2 tp = none → H3 = upd H2 tp (.tup [.bl p.2.1, oV' p.2.2]) → Same H (upd H3 d (.dK (kvs ++ [(Sum.inr ro.name, .ref tp)]))) ∧
            PlOk (upd H3 d (.dK (kvs ++ [(Sum.inr ro.name, .ref tp)]))) (plc (rs.take (i + 1))) (kvs ++ [(Sum.inr ro.name, .ref tp)]) := fun p tp H3 ep en ht e3 => by
          subst e3
          have dt : d ≠ tp := ne_of_none e2 ht
          have s3 : Same H2 (upd H2 tp (.tup [.bl p.2.1, oV' p.2.2])) := Same.new ht
          refine ⟨(s2.trans s3).put hd, ?_⟩
          rw [htk, plc_app, ep, ← en]
          refine PlOk.snoc (by rw [upd_ne dt.symm]; exact upd_same) (pk2.same fun b xs e => ?_)
          rw [upd_ne (ne_of e e2 (by intro z; cases z))]
          exact s3 _ _ e
        refine ⟨_, rfl, l, _, _, _, rfl, rfl, SqL.of hw, at0, rfl, _, rfl, ?_⟩
        refine ite2 (fun he => ?_) (fun he => ?_)
        · -- a place without a lid
          have e0 := V.str.inj (of_decide_eq_true he)
          obtain ⟨n, rfl⟩ : ∃ n, ro = .pl n := by
            cases ro with
            | pl n => exact ⟨n, rfl⟩
            | th n s => cases ew; exact absurd e0 (by decide +kernel)
            | bx n => cases ew; exact absurd e0 (by decide +kernel)
            | lk n k => cases ew; exact absurd e0 (by decide +kernel)
          refine ⟨by show 2 ≤ sizeLine; decide, fun tp htp => ?_⟩
          have s3 : Same H2 (upd H2 tp (.tup [.bl false, .non])) := Same.new htp
          obtain ⟨p1, p2⟩ := put (n, false, none) tp _ rfl rfl htp rfl
          refine ⟨_, rfl, _, rfl, l, _, _, _, rfl, rfl, SqL.of (s3 _ _ hw), at1, d, _, rfl, DPut.k (k := (Sum.inr (Ro.pl n).name : Key)) (s3 _ _ e2) (by lia), ?_⟩
          rw [putK_new _ hnone]
          have hl4 := p1
          have ld : l ≠ d := ne_of hw e2 (by intro z; cases z)
          have hw4 : (upd (upd H2 tp (.tup [.bl false, .non])) d (.dK (kvs ++ [(Sum.inr (Ro.pl n).name, .ref tp)]))) l = some (.lst ((Ro.pl n).words.map V.str)) := by rw [upd_ne ld]; exact s3 _ _ hw
          refine ⟨_, rfl, l, _, _, _, rfl, rfl, SqL.of hw4, at0, rfl, _, rfl, ?_⟩
          refine ite2 (fun hb => ?_) (fun _ => ⟨_, _, rfl, p1, upd_same, p2⟩)
          exfalso
          cases ew
          exact absurd (V.str.inj (of_decide_eq_true hb)) (by decide +kernel)
        · refine ⟨_, rfl, l, _, _, _, rfl, rfl, SqL.of hw, at0, rfl, _, rfl, ?_⟩
          refine ite2 (fun hb => ?_) (fun hb => ?_)
          · -- a box
            have e0 := V.str.inj (of_decide_eq_true hb)
            have hbx : ro.boxed = true := by
              cases ro with
              | pl n => cases ew; exact absurd e0 (by decide +kernel)
              | th n s => cases ew; exact absurd e0 (by decide +kernel)
              | bx n => rfl
              | lk n k => rfl
            have hne := g.floor hsp hbx
            refine ⟨_, rfl, d, _, rfl, e2, rfl, _, rfl, ?_⟩
            refine ite2 (fun hz => ?_) (fun _ => ?_)
            · exfalso
              have := V.int.inj (of_decide_eq_true hz)
              exact hne (List.length_eq_zero_iff.mp (by lia))
            have hwl : (ro.words.map V.str).length = ro.words.length := List.length_map ..
            refine ⟨_, rfl, _, _, rfl, .inl ⟨_, SqL.of hw, rfl⟩, rfl, _, rfl, ?_⟩
            refine ite2 (fun h3 => ?_) (fun h3 => ?_)
            · obtain ⟨n, k, rfl⟩ : ∃ n k, ro = .lk n k := by
                cases ro with
                | lk n k => exact ⟨n, k, rfl⟩
                | bx n => exact absurd (show ((2 : Nat) : Int) = 3 from V.int.inj (of_decide_eq_true h3)) (by decide)
                | pl n => cases hbx
                | th n s => cases hbx
              have at2 : atI ((Ro.lk n k).words.map V.str) ((2 : Nat) : Int) = some (.str k) := atI_nat rfl
              refine ⟨_, rfl, l, _, _, _, rfl, rfl, SqL.of hw, at2, by show 2 ≤ sizeLine; decide, fun tp htp => ?_⟩
              have s3 : Same H2 (upd H2 tp (.tup [.bl true, .str k])) := Same.new htp
              obtain ⟨p1, p2⟩ := put (n, true, some k) tp _ rfl rfl htp rfl
              refine ⟨_, rfl, _, rfl, l, _, _, _, rfl, rfl, SqL.of (s3 _ _ hw), at1, d, _, rfl, DPut.k (k := (Sum.inr (Ro.lk n k).name : Key)) (s3 _ _ e2) (by lia), ?_⟩
              rw [putK_new _ hnone]
              exact ⟨_, _, rfl, p1, upd_same, p2⟩
            · obtain ⟨n, rfl⟩ : ∃ n, ro = .bx n := by
                cases ro with
                | bx n => exact ⟨n, rfl⟩
                | lk n k => exact absurd (by rfl) h3
                | pl n => cases hbx
                | th n s => cases hbx
              refine ⟨by show 2 ≤ sizeLine; decide, fun tp htp => ?_⟩
              have s3 : Same H2 (upd H2 tp (.tup [.bl true, .non])) := Same.new htp
              obtain ⟨p1, p2⟩ := put (n, true, none) tp _ rfl rfl htp rfl
              refine ⟨_, rfl, _, rfl, l, _, _, _, rfl, rfl, SqL.of (s3 _ _ hw), at1, d, _, rfl, DPut.k (k := (Sum.inr (Ro.bx n).name : Key)) (s3 _ _ e2) (by lia), ?_⟩
              rw [putK_new _ hnone]
              exact ⟨_, _, rfl, p1, upd_same, p2⟩
          · -- a thing
            refine ⟨_, kvs, rfl, s2, e2, ?_⟩
            have : plc (rs.take (i + 1)) = plc (rs.take i) := by
              rw [htk, plc_app]
              cases ro with
              | th n s => exact List.append_nil _
              | pl n => cases ew; exact absurd (decide_eq_true rfl) he
              | bx n => cases ew; exact absurd (decide_eq_true rfl) hb
              | lk n k => cases ew; exact absurd (decide_eq_true rfl) hb
            rw [this]
            exact pk2
    · rintro σ H2 ⟨v2, kvs, rfl, s2, e2, pk2⟩
      rw [show (ls.map V.ref).length = rs.length by rw [List.length_map, hlen], List.take_length] at pk2
      have hkl := pk2.length
      obtain ⟨n, t, hfl⟩ := g.first
      have hpos : 0 < (plc rs).length := by rw [hfl]; exact Nat.zero_lt_succ _
      refine ⟨_, rfl, d, _, rfl, e2, rfl, _, rfl, ?_⟩
      refine ite2 (fun hz => ?_) (fun _ => ?_)
      · exfalso
        have := V.int.inj (of_decide_eq_true hz)
        lia
      refine ⟨_, rfl, d, _, rfl, e2, _, _, rfl, rfl, _, rfl, ?_⟩
      refine ite2 (fun hlt => ?_) (fun _ => ⟨_, rfl, q d kvs H2 s2 hd e2 pk2⟩)
      exfalso
      have := of_decide_eq_true hlt
      lia
end
end K14
namespace K14
open PySem L2 Tx Rk PyProof.Rows PySem.SeqAt
open PySem.PyData (strOk)
section
variable {P : Program} {w : World} {K : PySem.W.Frag} {mg : Str → Option Value} {base : Heap}
theorem ok_check {f : Addr} {fd : FuncData} (F : Fun K "check_keys" "check_keys" sCheckKeys f fd) : FnOk P w K mg base CX0 1 f fd ["places", "shapes"] spCheckKeys := by
  refine F.ok scCheckKeys (fun vs H Q E h => ?_) (fun cdv A outer s H vs Q E hr h => ?_)
  · obtain ⟨d1, d2, rs, kvs, rfl, _⟩ := h
    rfl
  · obtain ⟨d1, d2, rs, kvs, rfl, h1, pk1, h2, ne, g, q⟩ := h
    have hu := hu_of hr
    refine ⟨_, pss_one (ps_for PassesOwn.never rfl (pi_vals (pe_bm0 PySem.F.plainAttrs_dict PySem.F.slot_dict_values PySem.F.type_dict_values mt_values (pv 0))) (pg_name (i := 2) scCheckKeys.nd rfl (Or.inl rfl))
      (pss_cons (ps_set (i := 3) scCheckKeys.nd rfl (Or.inl rfl) (pe_ix ix_tup (pv 2) pe_int (fun _ _ => rfl)))
      (pss_one (ps_if (PW.pt (pw_and (pt_cmpR op_notN (pv 3) pe_non (nomark _)) (pw_and1 (pt_cmp (pc_dnotin hu (pv 3) (pv 1)))))) pss_never pss_nil)))), ?_⟩
    refine ⟨_, rfl, .inr (.inr (.inl ⟨rfl, .inl ⟨_, h1⟩⟩)), d1, kvs, rfl, rfl, h1, fun v hv => ?_⟩
    have v1 : d1 ≠ v := ne_of_none h1 hv
    refine ⟨v, d1, kvs, rfl, upd_same, by rw [upd_ne v1]; exact h1, fun o => ?_⟩
    have kp : ∀ b u, H b = some u → b ≠ d1 → (upd (upd H v (viewO v d1)) d1 (.frz o (.dK kvs))) b = some u := fun b u e hb => by
      rw [upd_ne hb, upd_ne (ne_of_none e hv)]
      exact e
    have e1 : (upd (upd H v (viewO v d1)) d1 (.frz o (.dK kvs))) d1 = some (.frz o (.dK kvs)) := upd_same
    generalize (upd (upd H v (viewO v d1)) d1 (.frz o (.dK kvs))) = H2 at kp e1 ⊢
    have h22 := kp _ _ h2 ne.symm
    have pk2 : PlOk H2 (plc rs) kvs := pk1.same fun b xs e => kp _ _ e (ne_of e h1 (by intro z; cases z))
    refine for_vals (a := d1) (o := o) (kvs := kvs) (fun _ σ H3 => ∃ v2 v3 : Option V, σ = [some (.ref d1), some (.ref d2), v2, v3] ∧ H3 = H2) ⟨none, none, rfl, rfl⟩ (fun i σ H3 _ hh0 => by obtain ⟨_, _, _, e⟩ := hh0; rw [e]; exact e1) ?_ ?_
    · rintro i k x σ H3 hx ⟨v2, v3, rfl, rfl⟩
      obtain ⟨p, t, hp, rfl, ht⟩ := pk2.get hx
      have hpm : p ∈ plc rs := List.mem_of_getElem? hp
      have at1 : atI [V.bl p.2.1, oV' p.2.2] ((1 : Nat) : Int) = some (oV' p.2.2) := atI_nat rfl
      refine ⟨_, rfl, t, _, _, _, rfl, rfl, SqT.of ht, at1, ?_⟩
      cases hk : p.2.2 with
      | none =>
        refine ⟨_, rfl, rfl, _, rfl, ?_⟩
        refine iteF ?_
        exact iteF ⟨_, _, rfl, rfl⟩
      | some key =>
        refine ⟨_, rfl, rfl, _, rfl, ?_⟩
        refine iteT ?_
        refine ⟨_, rfl, _, rfl, d2, _, rfl, DGet.k (k := (Sum.inr key : Key)) h22, _, rfl, ?_⟩
        have hmem := g.keys p hpm key hk
        obtain ⟨y, hy, ey⟩ := List.mem_map.mp hmem
        have hs : (valV (shK rs) (Sum.inr key : Key)).isSome = true := by
          rw [← valV_any, List.any_eq_true]
          exact ⟨(Sum.inr y.1, .str y.2), List.mem_map.mpr ⟨y, hy, rfl⟩, decide_eq_true (by rw [ey])⟩
        rw [hs]
        exact iteF ⟨_, _, rfl, rfl⟩
    · rintro σ H3 ⟨v2, v3, rfl, rfl⟩
      exact q o _ kp e1
end
end K14
namespace K14
open PySem L2 Tx Rk PyProof.Rows PySem.SeqAt
open PySem.PyData (strOk)
section
variable {P : Program} {w : World} {K : PySem.W.Frag} {mg : Str → Option Value} {base : Heap}
theorem ok_init {f C fR fP fT fK : Addr} {fd dR dP dT dK : FuncData} (F : Fun K "__init__" "Room.__init__" sInit f fd) (L : Cl K C) (DR : Df K mg "read_rows" sReadRows ["lines"] fR dR) (DP : Df K mg "read_places" sReadPlaces ["rows"] fP dP) (DT : Df K mg "read_things" sReadThings ["rows"] fT dT) (DK : Df K mg "check_keys" sCheckKeys ["places", "shapes"] fK dK)
    (GR : FnOk P w K mg base CX0 3 fR dR ["lines"] spReadRows) (GP : FnOk P w K mg base CX0 1 fP dP ["rows"] spReadPlaces) (GT : FnOk P w K mg base CX0 1 fT dT ["rows"] spReadThings) (GK : FnOk P w K mg base CX0 1 fK dK ["places", "shapes"] spCheckKeys) : FnOk P w K mg base CX0 4 f fd ["self", "lines"] (spInit C) := by
  refine F.ok scInit (fun vs H Q E h => ?_) (fun cdv A outer s H vs Q E hr h => ?_)
  · obtain ⟨x, dx, a, rs, rfl, _⟩ := h
    rfl
  · obtain ⟨x, dx, a, rs, rfl, hx, ha, g, hrl, q⟩ := h
    have hr1 : Room 1 _ := hr.mono (by decide)
    refine ⟨_, pss_cons (ps_set (i := 2) scInit.nd rfl (Or.inl rfl) (pe_call GR hr (by rfl) DR.m DR.F.kp DR.b .nil pass0 (pa_cons (pv 1) pa_nil)))
      (pss_cons (ps_set (i := 3) scInit.nd rfl (Or.inl rfl) (pe_call GP hr1 (by rfl) DP.m DP.F.kp DP.b .nil pass0 (pa_cons (pv 2) pa_nil)))
      (pss_cons (ps_set (i := 4) scInit.nd rfl (Or.inl rfl) (pe_call GT hr1 (by rfl) DT.m DT.F.kp DT.b .nil pass0 (pa_cons (pv 2) pa_nil)))
      (pss_cons (ps_expr (pe_call GK hr1 (by rfl) DK.m DK.F.kp DK.b .nil pass0 (pa_cons (pv 3) (pa_cons (pv 4) pa_nil))))
      (pss_cons (ps_fld (pv 0) (pv 3) rfl) (pss_one (ps_fld (pv 0) (pv 4) rfl)))))), ?_⟩
    refine ⟨_, rfl, a, rs, rfl, ha, g, hrl, fun l ls H1 s1 el ra => ?_⟩
    refine ⟨_, rfl, l, rs, ls, rfl, el, ra, g, fun d1 kvs H2 s2 f1 e1 pk1 => ?_⟩
    refine ⟨_, rfl, l, rs, ls, rfl, s2 _ _ el, ra.same s2, g, fun d2 H3 s3 f2 e2 => ?_⟩
    have n12 : d1 ≠ d2 := ne_of_none e1 f2
    refine ⟨_, rfl, _, rfl, d1, d2, rs, kvs, rfl, s3 _ _ e1, pk1.same (fun b xs e => s3 _ _ e), e2, n12, g, fun o H4 kp e4 => ?_⟩
    have s13 := (s1.trans s2).trans s3
    have hx3 := s13 _ _ hx
    have x1 : x ≠ d1 := fun z => by
      have := s1 _ _ hx
      rw [z, f1] at this
      cases this
    have x2 : x ≠ d2 := fun z => by
      have := (s1.trans s2) _ _ hx
      rw [z, f2] at this
      cases this
    have hx4 := kp _ _ hx3 x1
    refine ⟨_, rfl, _, rfl, x, C, dx, [], rfl, hx4, L.cl, L.nP, (by show 0 < 1000; decide), ?_⟩
    refine ⟨_, rfl, _, rfl, x, C, dx, _, rfl, upd_same, L.cl, L.nS, (by show 1 < 1000; decide), ?_⟩
    rw [upd_upd]
    have all : ∀ b u, H4 b = some u → b ≠ x → (upd H4 x (.ins C dx (rFlds d1 d2))) b = some u := fun b u e hb => by rw [upd_ne hb]; exact e
    refine q _ (fun b u e hb => all b u (kp b u (s13 _ _ e) ?_) hb) ⟨dx, d1, d2, o, kvs, upd_same, all _ _ e4 x1.symm, ?_, all _ _ (kp _ _ e2 n12.symm) x2.symm⟩
    · intro z
      have := s1 _ _ e
      rw [z, f1] at this
      cases this
    · refine pk1.same fun b xs e => all _ _ (kp _ _ (s3 _ _ e) (ne_of e e1 (by intro z; cases z))) ?_
      exact ne_of (s3 _ _ e) hx3 (by intro z; cases z)
end
end K14
namespace K14
open PySem L2 Tx Rk PyProof.Rows PySem.SeqAt
open PySem.PyData (strOk)
section
variable {P : Program} {w : World} {K : PySem.W.Frag} {mg : Str → Option Value} {base : Heap}
theorem ok_pl {f C : Addr} {fd : FuncData} (F : Fun K "places" "Room.places" sPlaces f fd) (L : Cl K C) (T : Bl mg) : FnOk P w K mg base CX0 1 f fd ["self"] (spPlaces C) := by
  refine F.ok scPlaces (fun vs H Q E h => ?_) (fun cdv A outer s H vs Q E hr h => ?_)
  · obtain ⟨x, rs, rfl, _⟩ := h
    rfl
  · obtain ⟨x, rs, rfl, R, q⟩ := h
    obtain ⟨dx, d1, d2, o, kvs, h1, h2, h3, h4⟩ := R.ex
    refine ⟨_, pss_one (ps_ret (pe_callTy (call_listD rfl) (by rfl) T.list bt_list (pa_cons (pe_fld (pv 0) rfl) pa_nil))), ?_⟩
    refine ⟨_, rfl, x, C, dx, _, _, rfl, h1, L.cl, L.nP, rf_places d1 d2, d1, kvs, rfl, .inr ⟨o, h2⟩, fun l hl => ?_⟩
    exact q l _ (Same.new hl) hl (by rw [upd_same, h3.keys])
end
end K14
namespace K14
open PySem L2 Tx Rk PyProof.Rows PySem.SeqAt
open PySem.PyData (strOk)
section
variable {P : Program} {w : World} {K : PySem.W.Frag} {mg : Str → Option Value} {base : Heap}
theorem rf_shapes (d1 d2 : Addr) : (rFlds d1 d2).lookup ("told_shapes" : Str) = some (.ref d2) := by
  unfold rFlds
  rw [lookup_putF, if_pos rfl]
noncomputable abbrev Plc := Str × Bool × Option Str
theorem rds_str {H : Hp} : ∀ {xs : List V} {ys : List Str}, RdVs H xs (ys.map PyData.str) → xs = ys.map V.str
  | [], [], _ => rfl
  | _ :: _, [], h => by cases h
  | [], _ :: _, h => by cases h
  | x :: xs, y :: ys, h => by
    cases h with
    | cons a b =>
      cases a
      rw [rds_str b]
      rfl
theorem at_idx {ps : List Str} (nd : ps.Nodup) {i : Nat} {x : Str} (h : ps[i]? = some x) : ∀ m, m < i → ps[m]? ≠ some x := fun m hm e => by
  obtain ⟨h1, h2⟩ := List.getElem?_eq_some_iff.mp h
  obtain ⟨e1, e2⟩ := List.getElem?_eq_some_iff.mp e
  have := (List.getElem_inj nd).mp (e2.trans h2.symm)
  lia
theorem heap_at {H : Hp} {xs : List V} {hs : List (List Str)} (r : RdVs H xs (hs.map dH)) {i : Nat} {hp : List Str} (h : hs[i]? = some hp) : ∃ t, xs[i]? = some (.ref t) ∧ H t = some (.tup (hp.map V.str)) := by
  have hl := r.length
  rw [List.length_map] at hl
  have hi := (List.getElem?_eq_some_iff.mp h).1
  obtain ⟨y, hx⟩ : ∃ y, xs[i]? = some y := ⟨xs[i], List.getElem?_eq_getElem (by lia)⟩
  obtain ⟨d, hd, rd⟩ := r.get hx
  rw [List.getElem?_map, h] at hd
  have hd' : dH hp = d := Option.some.inj hd
  subst hd'
  unfold dH at rd
  cases rd with
  | tup eh rh =>
    rw [rds_str rh] at eh
    exact ⟨_, hx, eh⟩
theorem hand_at {H : Hp} {v : V} {o : Option Str} (h : RdV H v (dO o)) : v = oV o := by
  cases o with
  | none => cases h; rfl
  | some x => cases h; rfl
inductive spHeapIn (C : Addr) (vs : List V) (H : Hp) (Q : VK) (E0_ : XK) : Prop
  | mk (x : Addr) (rs : List Ro) (v : V) (W : Wl) (i : Nat) (p : Plc) (hp : List Str) (c0 : vs = [.ref x, v, .str p.1]) (c1 : RoomAt C H x rs) (c2 : Good rs) (c3 : RdV H v (dW W)) (c4 : (plc rs)[i]? = some p) (c5 : W.heaps[i]? = some hp) (c6 : ∀ (t : Addr) (H' : Hp), Same H H' → H t = some (.tup (hp.map V.str)) → Q (.ref t) H') : spHeapIn C vs H Q E0_
inductive spLidOn (C : Addr) (vs : List V) (H : Hp) (Q : VK) (E0_ : XK) : Prop
  | mk (x : Addr) (rs : List Ro) (v : V) (W : Wl) (i : Nat) (p : Plc) (l : Str) (c0 : vs = [.ref x, v, .str p.1]) (c1 : RoomAt C H x rs) (c2 : Good rs) (c3 : RdV H v (dW W)) (c4 : (plc rs)[i]? = some p) (c5 : W.lids[i]? = some l) (c6 : ∀ H' : Hp, Same H H' → Q (.str l) H') : spLidOn C vs H Q E0_
noncomputable abbrev pHeapIn : List Str := ["room", "world", "place"]
noncomputable abbrev nHeapIn : List Str := ["room", "world", "place"]
theorem scHeapIn : FnScope nHeapIn pHeapIn (defScope sHeapIn) := ⟨rfl, rfl, rfl, by decide +kernel, rfl, by decide +kernel, by decide +kernel⟩
noncomputable abbrev pLidOn : List Str := ["room", "world", "place"]
noncomputable abbrev nLidOn : List Str := ["room", "world", "place"]
theorem scLidOn : FnScope nLidOn pLidOn (defScope sLidOn) := ⟨rfl, rfl, rfl, by decide +kernel, rfl, by decide +kernel, by decide +kernel⟩
end
end K14
namespace K14
open PySem L2 Tx Rk PyProof.Rows PySem.SeqAt
open PySem.PyData (strOk)
section
variable {P : Program} {w : World} {K : PySem.W.Frag} {mg : Str → Option Value} {base : Heap}
inductive spThings (C : Addr) (vs : List V) (H : Hp) (Q : VK) (E0_ : XK) : Prop
  | mk (x : Addr) (rs : List Ro) (c0 : vs = [.ref x]) (c1 : RoomAt C H x rs) (c2 : ∀ (l : Addr) (H' : Hp), Same H H' → H l = none → H' l = some (.lst (((ths rs).map (·.1)).map V.str)) → Q (.ref l) H') : spThings C vs H Q E0_
theorem scThings : FnScope ["self"] ["self"] (defScope sThings) := ⟨rfl, rfl, rfl, by decide +kernel, rfl, by decide +kernel, by decide +kernel⟩
end
end K14
namespace K14
open PySem L2 Tx Rk PyProof.Rows PySem.SeqAt
open PySem.PyData (strOk)
section
variable {P : Program} {w : World} {K : PySem.W.Frag} {mg : Str → Option Value} {base : Heap}
theorem lay_map {α : Type} {g : α → PyData} : ∀ {xs : List α}, (∀ x ∈ xs, (g x).canLay0 = true) → PyData.canLayAll0 (xs.map g) = true
  | [], _ => by rw [List.map_nil, PyData.canLayAll0]
  | x :: xs, h => by
    rw [List.map_cons, PyData.canLayAll0, h x List.mem_cons_self, lay_map fun y hy => h y (List.mem_cons_of_mem _ hy)]
    rfl
theorem deep_map {α : Type} {g : α → PyData} {n : Nat} : ∀ {xs : List α}, (∀ x ∈ xs, (g x).depth ≤ n) → PyData.depthAll (xs.map g) ≤ n
  | [], _ => by rw [List.map_nil, PyData.depthAll]; exact Nat.zero_le _
  | x :: xs, h => by
    have h1 := h x List.mem_cons_self
    have h2 := deep_map fun y hy => h y (List.mem_cons_of_mem _ hy)
    rw [List.map_cons, PyData.depthAll]
    lia
theorem lay_str {x : Str} (h : strOk x = true) : (PyData.str x).canLay0 = true := by rw [PyData.canLay0]; exact h
theorem lay_dH {xs : List Str} (h : ∀ x ∈ xs, strOk x = true) : (dH xs).canLay0 = true := by
  unfold dH
  rw [PyData.canLay0]
  exact lay_map fun x hx => lay_str (h x hx)
theorem deep_strs (xs : List Str) : PyData.depthAll (xs.map PyData.str) ≤ 0 := deep_map (g := PyData.str) (n := 0) (xs := xs) fun x _ => by rw [PyData.depth]; exact Nat.le_refl 0
theorem deep_dH (xs : List Str) : (dH xs).depth ≤ 1 := by
  unfold dH
  rw [PyData.depth]
  have := deep_strs xs
  lia
theorem shaped_of {d : PyData} (h1 : d.canLay0 = true) (h2 : d.depth ≤ 64) : shaped d = true := by
  unfold shaped
  rw [h1, decide_eq_true h2]
  rfl
theorem sh_list {xs : List Str} (h : ∀ x ∈ xs, strOk x = true) : shaped (.list (xs.map PyData.str)) = true := by
  refine shaped_of ?_ ?_
  · rw [PyData.canLay0]
    exact lay_map fun x hx => lay_str (h x hx)
  · rw [PyData.depth]
    have := deep_strs xs
    lia
end
end K14
namespace K14
open PySem L2 Tx Rk PyProof.Rows PySem.SeqAt
open PySem.PyData (strOk)
section
variable {P : Program} {w : World} {K : PySem.W.Frag} {mg : Str → Option Value} {base : Heap}
theorem cut32 {p q p' q' : List Nat} (hp : 32 ∉ p) (e : p ++ 32 :: q = p' ++ 32 :: q') : (p' = p ∧ q' = q) ∨ ∃ p'', p' = p ++ 32 :: p'' ∧ q = p'' ++ 32 :: q' := by
  rcases List.append_eq_append_iff.mp e with ⟨a, h1, h2⟩ | ⟨a, h1, h2⟩
  · cases a with
    | nil =>
      rw [List.append_nil] at h1
      exact .inl ⟨h1, (List.cons.inj h2).2.symm⟩
    | cons c a =>
      obtain ⟨rfl, h3⟩ := List.cons.inj h2
      exact .inr ⟨a, h1, h3⟩
  · cases a with
    | nil =>
      rw [List.append_nil] at h1
      exact .inl ⟨h1.symm, (List.cons.inj h2).2⟩
    | cons c a =>
      obtain ⟨rfl, h3⟩ := List.cons.inj h2
      exact absurd (by rw [h1]; simp) hp
theorem J_word : ∀ {ws : List (List Nat)} {A B w : List Nat}, (∀ v ∈ ws, 32 ∉ v) → 32 ∉ w → J ws = A ++ 32 :: (w ++ 32 :: B) → w ∈ ws
  | [], A, B, w, _, _, e => by
    exfalso
    have : (J ([] : List (List Nat))).length = 0 := rfl
    rw [e] at this
    simp at this
  | [a], A, B, w, h, _, e => by
    have e' : a = A ++ 32 :: (w ++ 32 :: B) := e
    exact absurd (by rw [e']; simp) (h a (List.mem_cons_self ..))
  | a :: b :: r, A, B, w, h, hw, e => by
    have e' : a ++ 32 :: J (b :: r) = A ++ 32 :: (w ++ 32 :: B) := e
    rcases cut32 (h a (List.mem_cons_self ..)) e' with ⟨_, h2⟩ | ⟨A', _, h2⟩
    · refine List.mem_cons_of_mem _ ?_
      cases r with
      | nil =>
        have h3 : w ++ 32 :: B = b := h2
        exact absurd (by rw [← h3]; simp) (h b (by simp))
      | cons c r =>
        have h3 : w ++ 32 :: B = b ++ 32 :: J (c :: r) := h2
        rcases cut32 hw h3 with ⟨h4, _⟩ | ⟨p, h4, _⟩
        · rw [h4]; exact List.mem_cons_self ..
        · exact absurd (by rw [h4]; simp) (h b (by simp))
    · exact List.mem_cons_of_mem _ (J_word (fun v hv => h v (List.mem_cons_of_mem _ hv)) hw h2)
end
end K14
namespace K14
open PySem L2 Tx Rk PyProof.Rows PySem.SeqAt
open PySem.PyData (strOk)
section
variable {P : Program} {w : World} {K : PySem.W.Frag} {mg : Str → Option Value} {base : Heap}
noncomputable def lidsS : List Str := ["open", "shut", "locked"]
structure Ml (K : PySem.W.Frag) (mg : Str → Option Value) (aI : Addr) : Prop where
  wm : mg "LIDS" = some (.ref aI)
  wv : ∀ H : Hp, SqT K H aI (lidsS.map V.str)
noncomputable abbrev tn (rs : List Ro) : List Str := (ths rs).map (·.1)
noncomputable abbrev pn (rs : List Ro) : List Str := (plc rs).map (·.1)
noncomputable def shortB (rs : List Ro) (a b : Str) : Bool := if b ∈ (["top", "held"] : List Str) then decide (a ∈ tn rs) else (decide (b ∈ lidsS) || decide (b = "bare")) && decide (a ∈ pn rs)
noncomputable def spotB (rs : List Ro) (b c : Str) : Bool := if b = "in" then decide (c ∈ pn rs) else decide (b = "on") && decide (c ∈ tn rs)
noncomputable def atomB (rs : List Ro) (ws : List Str) : Bool :=
  if ws = (["free"] : List Str) then true else match ws with
    | [a, b] => shortB rs a b
    | [a, b, c] => decide (a ∈ tn rs) && spotB rs b c
    | _ => false
inductive spShort (C : Addr) (vs : List V) (H : Hp) (Q : VK) (E0_ : XK) : Prop
  | mk (x : Addr) (rs : List Ro) (a b : Str) (c0 : vs = [.ref x, .str a, .str b]) (c1 : RoomAt C H x rs) (c2 : ∀ H' : Hp, Same H H' → Q (.bl (shortB rs a b)) H') : spShort C vs H Q E0_
noncomputable abbrev pIsShortAtom : List Str := ["room", "name", "word"]
noncomputable abbrev nIsShortAtom : List Str := ["room", "name", "word"]
theorem scIsShortAtom : FnScope nIsShortAtom pIsShortAtom (defScope sIsShortAtom) := ⟨rfl, rfl, rfl, by decide +kernel, rfl, by decide +kernel, by decide +kernel⟩
inductive spSpot (C : Addr) (vs : List V) (H : Hp) (Q : VK) (E0_ : XK) : Prop
  | mk (x : Addr) (rs : List Ro) (b c : Str) (c0 : vs = [.ref x, .str b, .str c]) (c1 : RoomAt C H x rs) (c2 : ∀ H' : Hp, Same H H' → Q (.bl (spotB rs b c)) H') : spSpot C vs H Q E0_
noncomputable abbrev pIsSpot : List Str := ["room", "word", "name"]
noncomputable abbrev nIsSpot : List Str := ["room", "word", "name"]
theorem scIsSpot : FnScope nIsSpot pIsSpot (defScope sIsSpot) := ⟨rfl, rfl, rfl, by decide +kernel, rfl, by decide +kernel, by decide +kernel⟩
theorem eqv_str (x y : Str) : PyData.eqv (.str x) (.str y) = decide (x = y) := by
  rw [PyData.eqv]
  by_cases h : x = y
  · simp [h]
  · simp [h]
theorem eqvAll_strs : ∀ xs ys : List Str, PyData.eqvAll (xs.map PyData.str) (ys.map PyData.str) = decide (xs = ys)
  | [], [] => by (simp [PyData.eqvAll])
  | [], _ :: _ => by (simp [PyData.eqvAll])
  | _ :: _, [] => by (simp [PyData.eqvAll])
  | x :: xs, y :: ys => by
    rw [List.map_cons, List.map_cons, PyData.eqvAll, eqv_str, eqvAll_strs xs ys, ← Bool.decide_and]
    simp
theorem eqv_list (xs ys : List Str) : PyData.eqv (.list (xs.map PyData.str)) (.list (ys.map PyData.str)) = decide (xs = ys) := by
  rw [PyData.eqv, eqvAll_strs]
theorem eqv_tupS (xs ys : List Str) : PyData.eqv (dH xs) (dH ys) = decide (xs = ys) := by
  unfold dH
  rw [PyData.eqv, eqvAll_strs]
noncomputable def Sks (ws : List Str) : Prop := ∀ w ∈ ws, strOk w = true
inductive spAtom (C : Addr) (vs : List V) (H : Hp) (Q : VK) (E0_ : XK) : Prop
  | mk (x l : Addr) (rs : List Ro) (ws : List Str) (c0 : vs = [.ref x, .ref l]) (c1 : RoomAt C H x rs) (c2 : H l = some (.lst (ws.map V.str))) (c3 : Sks ws) (c4 : ∀ H' : Hp, Same H H' → Q (.bl (atomB rs ws)) H') : spAtom C vs H Q E0_
noncomputable abbrev pIsAtom : List Str := ["room", "words"]
noncomputable abbrev nIsAtom : List Str := ["room", "words"]
theorem scIsAtom : FnScope nIsAtom pIsAtom (defScope sIsAtom) := ⟨rfl, rfl, rfl, by decide +kernel, rfl, by decide +kernel, by decide +kernel⟩
noncomputable def tmW (b : Bool) (ws : List Str) : List Str := if b = true then ws else "not" :: ws
structure Tm (rs : List Ro) (b : Bool) (ws : List Str) (text : Str) : Prop where
  e : text = Txt.join blank (tmW b ws)
  at' : atomB rs ws = true
  nb : ∀ w ∈ ws, 32 ∉ cs w
  nf : ∀ w ∈ ws, w ≠ "not" ∧ w ≠ "and" ∧ w ≠ "or"
  sk : Sks ws
  ne : ws ≠ []
  ln : text.length ≤ 1000
inductive spTerm (C : Addr) (vs : List V) (H : Hp) (Q : VK) (E0_ : XK) : Prop
  | mk (x : Addr) (rs : List Ro) (b : Bool) (ws : List Str) (text : Str) (c0 : vs = [.ref x, .str text]) (c1 : RoomAt C H x rs) (c2 : Tm rs b ws text) (c3 : ∀ (t l : Addr) (H' : Hp), Same H H' → H' t = some (.tup [.bl b, .ref l]) → H' l = some (.lst (ws.map V.str)) → Q (.ref t) H') : spTerm C vs H Q E0_
noncomputable abbrev pReadTerm : List Str := ["room", "text"]
noncomputable abbrev nReadTerm : List Str := ["room", "text", "words", "wanted", "atom"]
theorem scReadTerm : FnScope nReadTerm pReadTerm (defScope sReadTerm) := ⟨rfl, rfl, rfl, by decide +kernel, rfl, by decide +kernel, by decide +kernel⟩
noncomputable abbrev pReadPart : List Str := ["room", "text"]
noncomputable abbrev nReadPart : List Str := ["room", "text"]
theorem scReadPart : FnScope nReadPart pReadPart (defScope sReadPart) := ⟨rfl, rfl, rfl, by decide +kernel, rfl, by decide +kernel, by decide +kernel⟩
noncomputable abbrev pReadFact : List Str := ["room", "text"]
noncomputable abbrev nReadFact : List Str := ["room", "text"]
theorem scReadFact : FnScope nReadFact pReadFact (defScope sReadFact) := ⟨rfl, rfl, rfl, by decide +kernel, rfl, by decide +kernel, by decide +kernel⟩
end
end K14
namespace K14
open PySem L2 Tx Rk PyProof.Rows PySem.SeqAt
open PySem.PyData (strOk)
end K14
namespace K14
open PySem L2 Tx Rk PyProof.Rows PySem.SeqAt
open PySem.PyData (strOk)
section
variable {P : Program} {w : World} {K : PySem.W.Frag} {mg : Str → Option Value} {base : Heap}
noncomputable def adj (u t : Str) (h : List Str) : Bool := (h.zip h.tail).any fun x => decide (x = (u, t))
inductive Am where
  | free
  | pl (p : Plc) (i : Nat) (w : Str)
  | isin (t : Str) (p : Plc) (i : Nat)
  | on (t u : Str)
  | top (t : Str)
  | held (t : Str)
noncomputable def plW : List Str := ["open", "shut", "locked", "bare"]
noncomputable def Am.ws : Am → List Str
  | .free => ["free"]
  | .pl p _ w => [p.1, w]
  | .isin t p _ => [t, "in", p.1]
  | .on t u => [t, "on", u]
  | .top t => [t, "top"]
  | .held t => [t, "held"]
noncomputable def Am.ok (rs : List Ro) : Am → Prop
  | .free => True
  | .pl p i w => (plc rs)[i]? = some p ∧ w ∈ plW
  | .isin t p i => t ∈ tn rs ∧ (plc rs)[i]? = some p
  | .on t u => t ∈ tn rs ∧ u ∈ tn rs
  | .top t => t ∈ tn rs
  | .held t => t ∈ tn rs
noncomputable def Am.tv (W : Wl) : Am → Bool
  | .free => decide (W.hand = none)
  | .pl _ i w => if w = "bare" then decide (W.heaps.getD i [] = []) else decide (W.lids.getD i "" = w)
  | .isin t _ i => decide (t ∈ W.heaps.getD i [])
  | .on t u => W.heaps.any (adj u t)
  | .top t => W.heaps.any fun h => decide (h.getLast? = some t)
  | .held t => decide (W.hand = some t)
structure Wo (rs : List Ro) (W : Wl) : Prop where
  g : Good rs
  fw : Fw rs W
  sz : Sz W (plc rs).length
theorem th_sk {rs : List Ro} (g : Good rs) {t : Str} (h : t ∈ tn rs) : strOk t = true := (nv_sk (good_nv g (mem_ths_name h))).1
inductive spLies (vs : List V) (H : Hp) (Q : VK) (E0_ : XK) : Prop
  | mk (a : Addr) (h : List Str) (t u : Str) (c0 : vs = [.ref a, .str t, .str u]) (c1 : H a = some (.tup (h.map V.str))) (c2 : Sks h) (c3 : strOk t = true) (c4 : strOk u = true) (c5 : h.length ≤ 100) (c6 : ∀ H' : Hp, Same H H' → Q (.bl (adj u t h)) H') : spLies  vs H Q E0_
noncomputable abbrev pLiesOn : List Str := ["heap", "thing", "under"]
noncomputable abbrev nLiesOn : List Str := ["heap", "thing", "under"]
theorem scLiesOn : FnScope nLiesOn pLiesOn (defScope sLiesOn) := ⟨rfl, rfl, rfl, by decide +kernel, rfl, by decide +kernel, by decide +kernel⟩
inductive spOfThing (C : Addr) (vs : List V) (H : Hp) (Q : VK) (E0_ : XK) : Prop
  | mk (x l : Addr) (rs : List Ro) (v : V) (W : Wl) (am : Am) (c0 : vs = [.ref x, .ref l, v]) (c1 : RoomAt C H x rs) (c2 : H l = some (.lst (am.ws.map V.str))) (c3 : RdV H v (dW W)) (c4 : Wo rs W) (c5 : am.ok rs) (c6 : am ≠ .free) (c7 : (∀ p i w, am ≠ .pl p i w)) (c8 : ∀ H' : Hp, Same H H' → Q (.bl (am.tv W)) H') : spOfThing C vs H Q E0_
noncomputable abbrev pHoldsOfThing : List Str := ["room", "atom", "world"]
noncomputable abbrev nHoldsOfThing : List Str := ["room", "atom", "world", "thing"]
theorem scHoldsOfThing : FnScope nHoldsOfThing pHoldsOfThing (defScope sHoldsOfThing) := ⟨rfl, rfl, rfl, by decide +kernel, rfl, by decide +kernel, by decide +kernel⟩
inductive spAHolds (C : Addr) (vs : List V) (H : Hp) (Q : VK) (E0_ : XK) : Prop
  | mk (x l : Addr) (rs : List Ro) (v : V) (W : Wl) (am : Am) (c0 : vs = [.ref x, .ref l, v]) (c1 : RoomAt C H x rs) (c2 : H l = some (.lst (am.ws.map V.str))) (c3 : RdV H v (dW W)) (c4 : Wo rs W) (c5 : am.ok rs) (c6 : ∀ H' : Hp, Same H H' → Q (.bl (am.tv W)) H') : spAHolds C vs H Q E0_
noncomputable abbrev pAtomHolds : List Str := ["room", "atom", "world"]
noncomputable abbrev nAtomHolds : List Str := ["room", "atom", "world"]
theorem scAtomHolds : FnScope nAtomHolds pAtomHolds (defScope sAtomHolds) := ⟨rfl, rfl, rfl, by decide +kernel, rfl, by decide +kernel, by decide +kernel⟩
noncomputable abbrev pPartHolds : List Str := ["room", "part", "world"]
noncomputable abbrev nPartHolds : List Str := ["room", "part", "world"]
theorem scPartHolds : FnScope nPartHolds pPartHolds (defScope sPartHolds) := ⟨rfl, rfl, rfl, by decide +kernel, rfl, by decide +kernel, by decide +kernel⟩
noncomputable abbrev pHolds : List Str := ["room", "fact", "world"]
noncomputable abbrev nHolds : List Str := ["room", "fact", "world", "parts"]
theorem scHolds : FnScope nHolds pHolds (defScope sHolds) := ⟨rfl, rfl, rfl, by decide +kernel, rfl, by decide +kernel, by decide +kernel⟩
theorem rows_rd {H : Hp} : ∀ {rs : List Addr} {xs ys : List Str}, Rows2 H (xs.map V.str) (ys.map V.str) rs → rs.length = (xs.zip ys).length → RdVs H (rs.map V.ref) ((xs.zip ys).map fun p => dH [p.1, p.2])
  | [], xs, ys, _, hl => by
    have : xs.zip ys = [] := List.eq_nil_of_length_eq_zero hl.symm
    rw [this]
    exact .nil
  | r :: rs, xs, ys, h, hl => by
    obtain ⟨x, y, e1, e2, e3⟩ := h 0 r rfl
    match xs, ys, h, hl, e1, e2 with
    | x0 :: xs, y0 :: ys, h, hl, e1, e2 =>
      cases e1
      cases e2
      refine .cons ?_ (rows_rd (fun t r ht => ?_) (by simpa using hl))
      · exact .tup e3 (.cons (.str _) (.cons (.str _) .nil))
      · obtain ⟨x, y, e1, e2, e3⟩ := h (t + 1) r (by simpa using ht)
        exact ⟨x, y, by simpa using e1, by simpa using e2, e3⟩
theorem adj_any (u t : Str) (h : List Str) : (((h.zip h.tail).map fun p => dH [p.1, p.2]).any fun e => PyData.eqv e (dH [u, t])) = adj u t h := by
  unfold adj
  rw [List.any_map]
  congr 1
  funext p
  show PyData.eqv (dH [p.1, p.2]) (dH [u, t]) = _
  rw [eqv_tupS]
  obtain ⟨a, b⟩ := p
  simp
theorem sh_dH {xs : List Str} (h : Sks xs) : shaped (dH xs) = true := shaped_of (lay_dH h) (Nat.le_trans (deep_dH xs) (by decide))
theorem sh_pairs {ps : List (Str × Str)} (h : ∀ p ∈ ps, strOk p.1 = true ∧ strOk p.2 = true) : shaped (.list (ps.map fun p => dH [p.1, p.2])) = true := by
  refine shaped_of ?_ ?_
  · rw [PyData.canLay0]
    refine lay_map fun p hp => lay_dH fun x hx => ?_
    (simp only [List.mem_cons, List.not_mem_nil, or_false] at hx)
    rcases hx with e | e
    · rw [e]; exact (h p hp).1
    · rw [e]; exact (h p hp).2
  · rw [PyData.depth]
    have := deep_map (g := fun p : Str × Str => dH [p.1, p.2]) (n := 1) (xs := ps) fun p _ => deep_dH _
    lia
end
end K14
namespace K14
open PySem L2 Tx Rk PyProof.Rows PySem.SeqAt
open PySem.PyData (strOk)
section
variable {P : Program} {w : World} {K : PySem.W.Frag} {mg : Str → Option Value} {base : Heap}
theorem two_names : ∀ {rs : List Ro} {n : Str}, (rs.map Ro.name).Nodup → n ∈ pn rs → n ∉ tn rs
  | [], _, _, h => nomatch h
  | .th m s :: r, n, nd, h => fun z => by
    have nd' := List.nodup_cons.mp nd
    rcases List.mem_cons.mp (show n ∈ m :: tn r from z) with e | e
    · exact nd'.1 (by rw [show Ro.name (.th m s) = m from rfl, ← e]; exact mem_plc_name h)
    · exact two_names (rs := r) nd'.2 h e
  | .pl m :: r, n, nd, h => fun z => by
    have nd' := List.nodup_cons.mp nd
    rcases List.mem_cons.mp (show n ∈ m :: pn r from h) with e | e
    · exact nd'.1 (by rw [show Ro.name (.pl m) = m from rfl, ← e]; exact mem_ths_name (rs := r) z)
    · exact two_names (rs := r) nd'.2 e z
  | .bx m :: r, n, nd, h => fun z => by
    have nd' := List.nodup_cons.mp nd
    rcases List.mem_cons.mp (show n ∈ m :: pn r from h) with e | e
    · exact nd'.1 (by rw [show Ro.name (.bx m) = m from rfl, ← e]; exact mem_ths_name (rs := r) z)
    · exact two_names (rs := r) nd'.2 e z
  | .lk m k :: r, n, nd, h => fun z => by
    have nd' := List.nodup_cons.mp nd
    rcases List.mem_cons.mp (show n ∈ m :: pn r from h) with e | e
    · exact nd'.1 (by rw [show Ro.name (.lk m k) = m from rfl, ← e]; exact mem_ths_name (rs := r) z)
    · exact two_names (rs := r) nd'.2 e z
theorem last_drop (h : List Str) (t : Str) : decide (h.drop (h.length - 1) = [t]) = decide (h.getLast? = some t) := by
  rcases List.eq_nil_or_concat h with e | ⟨l, a, e⟩
  · subst e
    rfl
  · subst e
    simp
theorem eqLast {H4 : Hp} {b tp : Addr} {h : List Str} {t : Str} {Qx : VK} (eb : H4 b = some (.tup ((h.drop (h.length - 1)).map V.str))) (ht : H4 tp = none) (sk : Sks h) (kt : strOk t = true) (q : ∀ H5 : Hp, Same H4 H5 → Qx (.bl (decide (h.getLast? = some t))) H5) : rEqD false (.ref b) (.ref tp) (upd H4 tp (.tup [V.str t])) Qx := by
  refine ⟨dH (h.drop (h.length - 1)), dH [t], .tup (Same.new ht _ _ eb) (RdVs.strs _), .tup upd_same (RdVs.strs [t]), sh_dH fun x hx => sk x (List.mem_of_mem_drop hx), sh_dH fun x hx => by rw [List.mem_singleton.mp hx]; exact kt, ?_⟩
  rw [eqv_tupS, last_drop, Bool.false_xor]
  exact q _ (Same.new ht)
theorem last_whole {h : List Str} (hw : HT.sIx (h.map V.str).length 0 (some (-1)) = 0) : h.drop (h.length - 1) = h := by
  have e : HT.sIx (h.map V.str).length 0 (some (-1)) = ((-1 : Int) + ((h.map V.str).length : Int)).toNat := rfl
  rw [e, List.length_map] at hw
  have : h.length - 1 = 0 := by lia
  rw [this, List.drop_zero]
theorem last_cut {h : List Str} (hw : ¬ (HT.sIx (h.map V.str).length 0 (some (-1)) = 0 ∧ HT.sIx (h.map V.str).length (h.map V.str).length none = (h.map V.str).length)) : cutV (h.map V.str) (some (-1)) none = (h.drop (h.length - 1)).map V.str := by
  have e : HT.sIx (h.map V.str).length 0 (some (-1)) = h.length - 1 := by
    show ((-1 : Int) + ((h.map V.str).length : Int)).toNat = _
    rw [List.length_map]
    lia
  unfold cutV
  rw [e, HT.sIx_none, List.take_of_length_le (by rw [List.length_drop]; exact Nat.le_refl _), ← List.map_drop]
theorem Wo.skh {rs : List Ro} {W : Wl} (o : Wo rs W) {h : List Str} (hh : h ∈ W.heaps) : Sks h := fun x hx => ((o.fw.ok o.g o.sz).heaps h hh x hx).1
theorem Wo.few {rs : List Ro} {W : Wl} (o : Wo rs W) {h : List Str} (hh : h ∈ W.heaps) : h.length ≤ 100 := (o.fw.ok o.g o.sz).few h hh
theorem oV_eq (o : Option Str) (t : Str) : decide (oV o = V.str t) = decide (o = some t) := by
  cases o with
  | none => rfl
  | some x =>
    by_cases h : x = t
    · subst h; simp [oV]
    · show decide (V.str x = V.str t) = _
      rw [decide_eq_false (fun z => h (V.str.inj z)), decide_eq_false (fun z => h (Option.some.inj z))]
theorem bl_eq (a b : Bool) : decide (V.bl a = V.bl b) = (a == b) := by
  cases a <;> cases b <;> rfl
theorem mem_pl {rs : List Ro} {i : Nat} {p : Plc} (h : (plc rs)[i]? = some p) : p.1 ∈ pn rs := List.mem_map_of_mem (List.mem_of_getElem? h)
theorem nm_sk {rs : List Ro} (g : Good rs) {n : Str} (h : n ∈ pn rs) : strOk n = true := (nv_sk (good_nv g (mem_plc_name h))).1
theorem Am.sks {rs : List Ro} (g : Good rs) : ∀ {am : Am}, am.ok rs → Sks am.ws
  | .free, _ => fun x hx => by
    rw [List.mem_singleton.mp hx]
    decide +kernel
  | .pl p i w, h => fun x hx => by
    simp only [Am.ws, List.mem_cons, List.not_mem_nil, or_false] at hx
    rcases hx with e | e
    · rw [e]; exact nm_sk g (mem_pl h.1)
    · have hw := h.2
      rw [← e] at hw
      simp only [plW, List.mem_cons, List.not_mem_nil, or_false] at hw
      rcases hw with e | e | e | e <;> (rw [e]; decide +kernel)
  | .isin t p i, h => fun x hx => by
    simp only [Am.ws, List.mem_cons, List.not_mem_nil, or_false] at hx
    rcases hx with e | e | e
    · rw [e]; exact th_sk g h.1
    · rw [e]; decide +kernel
    · rw [e]; exact nm_sk g (mem_pl h.2)
  | .on t u, h => fun x hx => by
    simp only [Am.ws, List.mem_cons, List.not_mem_nil, or_false] at hx
    rcases hx with e | e | e
    · rw [e]; exact th_sk g h.1
    · rw [e]; decide +kernel
    · rw [e]; exact th_sk g h.2
  | .top t, h => fun x hx => by
    simp only [Am.ws, List.mem_cons, List.not_mem_nil, or_false] at hx
    rcases hx with e | e
    · rw [e]; exact th_sk g h
    · rw [e]; decide +kernel
  | .held t, h => fun x hx => by
    simp only [Am.ws, List.mem_cons, List.not_mem_nil, or_false] at hx
    rcases hx with e | e
    · rw [e]; exact th_sk g h
    · rw [e]; decide +kernel
end
end K14
namespace K14
open PySem L2 Tx Rk PyProof.Rows PySem.SeqAt
open PySem.PyData (strOk)
section
variable {P : Program} {w : World} {K : PySem.W.Frag} {mg : Str → Option Value} {base : Heap}
theorem flat_uniq {t : Str} : ∀ {L : List (List Str)} {h h' : List Str}, L.flatten.Nodup → h ∈ L → h' ∈ L → t ∈ h → t ∈ h' → h = h'
  | a :: L, h, h', nd, mA, mB, ht, ht' => by
    rw [List.flatten_cons] at nd
    obtain ⟨_, n2, n3⟩ := List.nodup_append.mp nd
    rcases List.mem_cons.mp mA with e | e
    · rcases List.mem_cons.mp mB with e' | e'
      · rw [e, e']
      · exact absurd rfl (n3 t (e ▸ ht) t (List.mem_flatten.mpr ⟨h', e', ht'⟩))
    · rcases List.mem_cons.mp mB with e' | e'
      · exact absurd rfl (n3 t (e' ▸ ht') t (List.mem_flatten.mpr ⟨h, e, ht⟩))
      · exact flat_uniq n2 e e' ht ht'
theorem flat_nd : ∀ {L : List (List Str)} {h : List Str}, L.flatten.Nodup → h ∈ L → h.Nodup
  | a :: L, h, nd, mA => by
    rw [List.flatten_cons] at nd
    obtain ⟨n1, n2, _⟩ := List.nodup_append.mp nd
    rcases List.mem_cons.mp mA with e | e
    · rw [e]; exact n1
    · exact flat_nd n2 e
theorem Wo.nd {rs : List Ro} {W : Wl} (o : Wo rs W) : W.heaps.flatten.Nodup := (List.nodup_append.mp (o.fw.perm.nodup_iff.mpr o.g.ndT)).2.1
theorem adj_iff (u t : Str) (h : List Str) : adj u t h = true ↔ ∃ k, h[k]? = some u ∧ h[k + 1]? = some t := by
  unfold adj
  rw [List.any_eq_true]
  constructor
  · rintro ⟨⟨a, b⟩, hm, e⟩
    have e' := of_decide_eq_true e
    cases e'
    obtain ⟨k, hk⟩ := List.getElem?_of_mem hm
    have h2 := List.getElem?_zip_eq_some.mp hk
    exact ⟨k, h2.1, by rw [← List.getElem?_tail]; exact h2.2⟩
  · rintro ⟨k, h1, h2⟩
    refine ⟨(u, t), List.mem_of_getElem? (List.getElem?_zip_eq_some.mpr ⟨h1, by rw [List.getElem?_tail]; exact h2⟩), decide_eq_true rfl⟩
theorem top_at {rs : List Ro} {W : Wl} (o : Wo rs W) {h : List Str} {t : Str} (hm : h ∈ W.heaps) (ht : t ∈ h) : (W.heaps.any fun h => decide (h.getLast? = some t)) = decide (h.getLast? = some t) := by
  rw [Bool.eq_iff_iff, List.any_eq_true, decide_eq_true_iff]
  constructor
  · rintro ⟨h', m', e⟩
    have e' := of_decide_eq_true e
    rw [flat_uniq o.nd hm m' ht (List.mem_of_getLast? e')]
    exact e'
  · exact fun e => ⟨h, hm, decide_eq_true e⟩
theorem top_no {W : Wl} {t : Str} (hn : ∀ h ∈ W.heaps, t ∉ h) : (W.heaps.any fun h => decide (h.getLast? = some t)) = false := by
  rw [List.any_eq_false]
  intro h hm e
  exact hn h hm (List.mem_of_getLast? (of_decide_eq_true e))
theorem on_at {rs : List Ro} {W : Wl} (o : Wo rs W) {h : List Str} {t u x : Str} {k : Nat} (hm : h ∈ W.heaps) (hk : h[k + 1]? = some t) (hx : h[k]? = some x) : W.heaps.any (adj u t) = decide (x = u) := by
  have ht := List.mem_of_getElem? hk
  rw [Bool.eq_iff_iff, List.any_eq_true, decide_eq_true_iff]
  constructor
  · rintro ⟨h', m', e⟩
    obtain ⟨k', e1, e2⟩ := (adj_iff u t h').mp e
    have := flat_uniq o.nd hm m' ht (List.mem_of_getElem? e2)
    subst this
    have nd := flat_nd o.nd hm
    obtain ⟨l1, g1⟩ := List.getElem?_eq_some_iff.mp hk
    obtain ⟨l2, g2⟩ := List.getElem?_eq_some_iff.mp e2
    have := (List.getElem_inj nd).mp (g1.trans g2.symm)
    have : k = k' := by lia
    subst this
    rw [hx] at e1
    exact Option.some.inj e1
  · intro e
    subst e
    exact ⟨h, hm, (adj_iff _ _ _).mpr ⟨k, hx, hk⟩⟩
theorem on_no {W : Wl} {t u : Str} (hn : ∀ h ∈ W.heaps, ∀ k, h[k + 1]? ≠ some t) : W.heaps.any (adj u t) = false := by
  rw [List.any_eq_false]
  intro h hm e
  obtain ⟨k, _, e2⟩ := (adj_iff u t h).mp e
  exact hn h hm k e2
theorem nv_w {x : Str} (h : Nv x) : 32 ∉ cs x ∧ (x ≠ "not" ∧ x ≠ "and" ∧ x ≠ "or" ∧ x ≠ "free") ∧ x.length ≤ 8 :=
  ⟨h.noblank, ⟨fun e => h.fix (by rw [e]; decide +kernel), fun e => h.fix (by rw [e]; decide +kernel), fun e => h.fix (by rw [e]; decide +kernel), fun e => h.fix (by rw [e]; decide +kernel)⟩, h.len⟩
noncomputable def Wok (x : Str) : Prop := 32 ∉ cs x ∧ (x ≠ "not" ∧ x ≠ "and" ∧ x ≠ "or") ∧ x.length ≤ 8
theorem th_w {rs : List Ro} (g : Good rs) {x : Str} (h : x ∈ tn rs) : Wok x := by
  have := nv_w (good_nv g (mem_ths_name h))
  exact ⟨this.1, ⟨this.2.1.1, this.2.1.2.1, this.2.1.2.2.1⟩, this.2.2⟩
theorem pl_w {rs : List Ro} (g : Good rs) {x : Str} (h : x ∈ pn rs) : Wok x := by
  have := nv_w (good_nv g (mem_plc_name h))
  exact ⟨this.1, ⟨this.2.1.1, this.2.1.2.1, this.2.1.2.2.1⟩, this.2.2⟩
theorem wok_c {x : Str} (h : x ∈ (["free", "in", "on", "top", "held", "open", "shut", "locked", "bare"] : List Str)) : Wok x := by
  simp only [List.mem_cons, List.not_mem_nil, or_false] at h
  rcases h with e | e | e | e | e | e | e | e | e <;> (rw [e]; exact ⟨by decide +kernel, ⟨by decide +kernel, by decide +kernel, by decide +kernel⟩, by decide +kernel⟩)
theorem Am.woks {rs : List Ro} (g : Good rs) : ∀ {am : Am}, am.ok rs → (∀ w ∈ am.ws, Wok w) ∧ am.ws.length ≤ 3 ∧ am.ws ≠ [] ∧ atomB rs am.ws = true
  | .free, _ => ⟨fun x hx => by rw [List.mem_singleton.mp hx]; exact wok_c (by decide +kernel), by decide, List.cons_ne_nil _ _, if_pos rfl⟩
  | .pl p i w, h => by
    have hw := h.2
    have hp := mem_pl h.1
    refine ⟨fun x hx => ?_, by simp [Am.ws], List.cons_ne_nil _ _, ?_⟩
    · simp only [Am.ws, List.mem_cons, List.not_mem_nil, or_false] at hx
      rcases hx with e | e
      · rw [e]; exact pl_w g hp
      · rw [e]
        simp only [plW, List.mem_cons, List.not_mem_nil, or_false] at hw
        rcases hw with e | e | e | e <;> (rw [e]; exact wok_c (by decide +kernel))
    · have e1 : ¬ ([p.1, w] : List Str) = (["free"] : List Str) := fun z => by simp at z
      show (if ([p.1, w] : List Str) = (["free"] : List Str) then true else shortB rs p.1 w) = true
      rw [if_neg e1]
      unfold shortB
      simp only [plW, List.mem_cons, List.not_mem_nil, or_false] at hw
      rcases hw with e | e | e | e <;> (rw [e, if_neg (by decide +kernel), decide_eq_true hp]; decide +kernel)
  | .isin t p i, h => by
    have hp := mem_pl h.2
    refine ⟨fun x hx => ?_, by simp [Am.ws], List.cons_ne_nil _ _, ?_⟩
    · simp only [Am.ws, List.mem_cons, List.not_mem_nil, or_false] at hx
      rcases hx with e | e | e
      · rw [e]; exact th_w g h.1
      · rw [e]; exact wok_c (by decide +kernel)
      · rw [e]; exact pl_w g hp
    · have e1 : ¬ ([t, "in", p.1] : List Str) = (["free"] : List Str) := fun z => by simp at z
      show (if ([t, "in", p.1] : List Str) = (["free"] : List Str) then true else decide (t ∈ tn rs) && spotB rs "in" p.1) = true
      rw [if_neg e1, decide_eq_true h.1]
      unfold spotB
      rw [if_pos rfl, decide_eq_true hp]
      rfl
  | .on t u, h => by
    refine ⟨fun x hx => ?_, by simp [Am.ws], List.cons_ne_nil _ _, ?_⟩
    · simp only [Am.ws, List.mem_cons, List.not_mem_nil, or_false] at hx
      rcases hx with e | e | e
      · rw [e]; exact th_w g h.1
      · rw [e]; exact wok_c (by decide +kernel)
      · rw [e]; exact th_w g h.2
    · have e1 : ¬ ([t, "on", u] : List Str) = (["free"] : List Str) := fun z => by simp at z
      show (if ([t, "on", u] : List Str) = (["free"] : List Str) then true else decide (t ∈ tn rs) && spotB rs "on" u) = true
      rw [if_neg e1, decide_eq_true h.1]
      unfold spotB
      rw [if_neg (by decide +kernel), decide_eq_true h.2]
      decide +kernel
  | .top t, h => by
    have ht : t ∈ tn rs := h
    refine ⟨fun x hx => ?_, by simp [Am.ws], List.cons_ne_nil _ _, ?_⟩
    · simp only [Am.ws, List.mem_cons, List.not_mem_nil, or_false] at hx
      rcases hx with e | e
      · rw [e]; exact th_w g h
      · rw [e]; exact wok_c (by decide +kernel)
    · have e1 : ¬ ([t, "top"] : List Str) = (["free"] : List Str) := fun z => by simp at z
      show (if ([t, "top"] : List Str) = (["free"] : List Str) then true else shortB rs t "top") = true
      rw [if_neg e1]
      unfold shortB
      rw [if_pos (by decide +kernel), decide_eq_true ht]
  | .held t, h => by
    have ht : t ∈ tn rs := h
    refine ⟨fun x hx => ?_, by simp [Am.ws], List.cons_ne_nil _ _, ?_⟩
    · simp only [Am.ws, List.mem_cons, List.not_mem_nil, or_false] at hx
      rcases hx with e | e
      · rw [e]; exact th_w g h
      · rw [e]; exact wok_c (by decide +kernel)
    · have e1 : ¬ ([t, "held"] : List Str) = (["free"] : List Str) := fun z => by simp at z
      show (if ([t, "held"] : List Str) = (["free"] : List Str) then true else shortB rs t "held") = true
      rw [if_neg e1]
      unfold shortB
      rw [if_pos (by decide +kernel), decide_eq_true ht]
theorem sum_le8 : ∀ {ws : List Str}, (∀ w ∈ ws, Wok w) → (ws.map (·.length)).sum ≤ 8 * ws.length
  | [], _ => Nat.le_refl _
  | w :: ws, h => by
    have h1 := (h w (List.mem_cons_self ..)).2.2
    have h2 := sum_le8 fun x hx => h x (List.mem_cons_of_mem _ hx)
    rw [List.map_cons, List.sum_cons, List.length_cons]
    lia
theorem join_le {ws : List Str} (h : ∀ w ∈ ws, Wok w) : (Txt.join blank ws).length ≤ 9 * ws.length := by
  have e : (Txt.join blank ws).length = (Str.join blank ws).length := congrArg Str.length (StrLaws.glued_eq_join blank ws)
  have h1 := StrLaws.join_length_le blank ws
  have h2 := sum_le8 h
  have h3 : blank.length = 1 := by decide +kernel
  rw [h3] at h1
  lia
theorem join_not {ws : List Str} (h : ws ≠ []) : Str.ofString "not " ++ Txt.join blank ws = Txt.join blank ("not" :: ws) := by
  have hx : ∀ vs : List Str, cs (Txt.join blank vs) = J (vs.map cs) := fun vs => by
    rw [← cs_join]
    exact congrArg cs (StrLaws.glued_eq_join blank vs)
  apply cs_inj
  obtain ⟨w, ws, rfl⟩ := List.exists_cons_of_ne_nil h
  rw [cs_app, hx, hx]
  show cs (Str.ofString "not ") ++ J (cs w :: ws.map cs) = cs (Str.ofString "not") ++ 32 :: J (cs w :: ws.map cs)
  rw [show cs (Str.ofString "not ") = cs (Str.ofString "not") ++ [32] from by decide +kernel]
  simp
theorem Am.tm {rs : List Ro} (g : Good rs) {am : Am} (ok : am.ok rs) (b : Bool) : Tm rs b am.ws (Txt.join blank (tmW b am.ws)) := by
  obtain ⟨h1, h2, h3, h4⟩ := Am.woks g ok
  refine ⟨rfl, h4, fun w hw => (h1 w hw).1, fun w hw => (h1 w hw).2.1, Am.sks g ok, h3, ?_⟩
  have hj := join_le h1
  cases b with
  | true =>
    show (Txt.join blank am.ws).length ≤ 1000
    lia
  | false =>
    show (Txt.join blank ("not" :: am.ws)).length ≤ 1000
    rw [← join_not h3, len_app]
    have : (Str.ofString "not ").length = 4 := by decide +kernel
    lia
inductive spLAtom (K : PySem.W.Frag) (vs : List V) (H : Hp) (Q : VK) (E0_ : XK) : Prop
  | mk (a : Addr) (ns : List Int) (k : Int) (r : Addr) (rs : List Ro) (c0 : vs = [.ref a, .int k, .ref r]) (c1 : SqL K H a (ns.map V.int)) (c2 : ns.length ≤ 63) (c3 : 0 ≤ k) (c4 : k < 100000) (c5 : RmS H r rs) (c6 : 1 ≤ (plc rs).length) (c7 : ∀ (l : Addr) (am : Am) (H' : Hp), Same H H' → am.ok rs → H' l = some (.lst (am.ws.map V.str)) → Q (.ref l) H') : spLAtom K vs H Q E0_
noncomputable abbrev pLAtom : List Str := ["_law_script", "_law_k", "_law_drawn"]
noncomputable abbrev nLAtom : List Str := ["_law_script", "_law_k", "_law_drawn", "_law_place", "_law_way", "_law_thing", "_law_other", "_law_some"]
theorem scLAtom : FnScope nLAtom pLAtom (defScope sLAtom) := ⟨rfl, rfl, rfl, by decide +kernel, rfl, by decide +kernel, by decide +kernel⟩
inductive spLStands (vs : List V) (H : Hp) (Q : VK) (E0_ : XK) : Prop
  | mk (l : Addr) (rs : List Ro) (v : V) (W : Wl) (am : Am) (t : Str) (c0 : vs = [.ref l, v]) (c1 : H l = some (.lst (am.ws.map V.str))) (c2 : RdV H v (dW W)) (c3 : Wo rs W) (c4 : (am = .top t ∨ ∃ u, am = .on t u)) (c5 : Q (.bl (am.tv W)) H) : spLStands  vs H Q E0_
noncomputable abbrev pLStands : List Str := ["_law_words", "_law_world_here"]
noncomputable abbrev nLStands : List Str := ["_law_words", "_law_world_here", "_law_heap", "_law_k"]
theorem scLStands : FnScope nLStands pLStands (defScope sLStands) := ⟨rfl, rfl, rfl, by decide +kernel, rfl, by decide +kernel, by decide +kernel⟩
inductive spLHolds (vs : List V) (H : Hp) (Q : VK) (E0_ : XK) : Prop
  | mk (r l : Addr) (rs : List Ro) (v : V) (W : Wl) (am : Am) (c0 : vs = [.ref r, .ref l, v]) (c1 : RmS H r rs) (c2 : H l = some (.lst (am.ws.map V.str))) (c3 : RdV H v (dW W)) (c4 : Wo rs W) (c5 : am.ok rs) (c6 : ∀ H' : Hp, Same H H' → Q (.bl (am.tv W)) H') : spLHolds  vs H Q E0_
noncomputable abbrev pLAtomHolds : List Str := ["_law_drawn", "_law_words", "_law_world_here"]
noncomputable abbrev nLAtomHolds : List Str := ["_law_drawn", "_law_words", "_law_world_here", "_law_at"]
theorem scLAtomHolds : FnScope nLAtomHolds pLAtomHolds (defScope sLAtomHolds) := ⟨rfl, rfl, rfl, by decide +kernel, rfl, by decide +kernel, by decide +kernel⟩
inductive spLaw (K : PySem.W.Frag) (vs : List V) (H : Hp) (Q : VK) (E0_ : XK) : Prop
  | mk (a : Addr) (ns : List Int) (c0 : vs = [.ref a]) (c1 : SqL K H a (ns.map V.int)) (c2 : ns.length ≤ 63) (c3 : ∀ H', Q (.bl true) H') : spLaw K vs H Q E0_
noncomputable abbrev pLaw : List Str := ["_law_script"]
noncomputable abbrev nLaw : List Str := ["_law_script", "_law_places", "_law_things", "_law_drawn", "_law_room_here", "_law_branches", "_law_k", "_law_world_here", "_law_told", "_law_one", "_law_other", "_law_both", "_law_alone"]
theorem scLaw : FnScope nLaw pLaw (defScope sLaw) := ⟨rfl, rfl, rfl, by decide +kernel, rfl, by decide +kernel, by decide +kernel⟩
end
end K14
namespace K14
open PySem L2 Tx Rk PyProof.Rows PySem.SeqAt
open PySem.PyData (strOk)
section
variable {P : Program} {w : World} {K : PySem.W.Frag} {mg : Str → Option Value} {base : Heap}
theorem J_end {ws : List (List Nat)} (h : ws ≠ []) : J (ws ++ [[]]) = J ws ++ [32] := by
  induction ws with
  | nil => exact absurd rfl h
  | cons a r ih =>
    cases r with
    | nil => rfl
    | cons b r =>
      show a ++ 32 :: J (b :: (r ++ [[]])) = (a ++ 32 :: J (b :: r)) ++ [32]
      rw [show J (b :: (r ++ [[]])) = J (b :: r) ++ [32] from ih (List.cons_ne_nil _ _)]
      simp
theorem J_last {ws : List (List Nat)} {A w : List Nat} (hb : ∀ v ∈ ws, 32 ∉ v) (hw : 32 ∉ w) (h0 : ws ≠ []) (e : J ws = A ++ 32 :: w) (w0 : w ≠ []) : w ∈ ws := by
  have e2 : J (ws ++ [[]]) = A ++ 32 :: (w ++ 32 :: []) := by
    rw [J_end h0, e]
    simp
  have hm := J_word (ws := ws ++ [[]]) (fun v hv => by
    rcases List.mem_append.mp hv with z | z
    · exact hb v z
    · rw [List.mem_singleton.mp z]; simp) hw e2
  rcases List.mem_append.mp hm with z | z
  · exact z
  · exact absurd (List.mem_singleton.mp z) w0
theorem J_cut {ws : List (List Nat)} {A B S w : List Nat} (hb : ∀ v ∈ ws, 32 ∉ v) (hw : 32 ∉ w) (h0 : ws ≠ []) (w0 : w ≠ []) (hS : S = [] ∨ ∃ S', S = 32 :: S') (e : J ws ++ S = A ++ 32 :: (w ++ 32 :: B)) (hA : A.length < (J ws).length) : w ∈ ws := by
  rcases List.append_eq_append_iff.mp e with ⟨C, h1, h2⟩ | ⟨C, h1, h2⟩
  · exfalso
    have := congrArg List.length h1
    rw [List.length_append] at this
    lia
  · cases C with
    | nil =>
      exfalso
      have := congrArg List.length h1
      rw [List.append_nil] at this
      lia
    | cons c C =>
      obtain ⟨e1, e2⟩ := List.cons.inj h2
      subst e1
      rcases List.append_eq_append_iff.mp e2 with ⟨D, g1, g2⟩ | ⟨D, g1, g2⟩
      · cases D with
        | nil =>
          rw [List.append_nil] at g1
          exact J_last hb hw h0 (by rw [h1, g1]) w0
        | cons d D =>
          obtain ⟨e3, _⟩ := List.cons.inj g2
          subst e3
          exact J_word hb hw (A := A) (B := D) (by rw [h1, g1])
      · cases D with
        | nil =>
          rw [List.append_nil] at g1
          exact J_last hb hw h0 (by rw [h1, ← g1]) w0
        | cons d D =>
          rcases hS with z | ⟨S', z⟩
          · rw [z] at g2
            simp at g2
          · rw [z] at g2
            obtain ⟨e3, _⟩ := List.cons.inj g2
            subst e3
            exact absurd (by rw [g1]; simp) hw
noncomputable def JS (y : List Nat) : List (List Nat) → List Nat
  | [] => []
  | [a] => a
  | a :: b :: r => a ++ (y ++ JS y (b :: r))
theorem cs_joinS (y : Str) : ∀ ps : List Str, cs (Txt.join y ps) = JS (cs y) (ps.map cs) := fun ps => by
  rw [show cs (Txt.join y ps) = cs (Str.join y ps) from congrArg cs (StrLaws.glued_eq_join y ps)]
  induction ps with
  | nil => rfl
  | cons a r ih =>
    cases r with
    | nil => rfl
    | cons b r =>
      show cs (a ++ y ++ Str.join y (b :: r)) = cs a ++ (cs y ++ JS (cs y) (cs b :: r.map cs))
      rw [cs_app, cs_app, ih, List.append_assoc]
      rfl
theorem cs_joinB (ws : List Str) : cs (Txt.join blank ws) = J (ws.map cs) := by
  rw [← cs_join]
  exact congrArg cs (StrLaws.glued_eq_join blank ws)
structure Tw (w : Str) (t : Str) : Prop where
  ex : ∃ ws : List Str, t = Txt.join blank ws ∧ ws ≠ [] ∧ (∀ v ∈ ws, 32 ∉ cs v) ∧ w ∉ ws
open StrLaws in
theorem at_no {x y w t : Str} {a k : Nat} {S : List Nat} (hw : 32 ∉ cs w) (w0 : cs w ≠ []) (hy : cs y = 32 :: (cs w ++ [32])) (ht : Tw w t) (hd : (cs x).drop a = cs t ++ S) (hS : S = [] ∨ ∃ S', S = 32 :: S') (h1 : a ≤ k) (h2 : k < a + t.length) : ¬ At x y x.length k := by
  intro hA
  obtain ⟨ws, e, n0, hb, hn⟩ := ht.ex
  have h2' := hA.2
  rw [subAt_eq] at h2'
  have h3 : ((cs x).drop k).take y.length = cs y := eq_of_beq h2'
  obtain ⟨j, rfl⟩ : ∃ j, k = a + j := ⟨k - a, by lia⟩
  have e0 : (cs x).drop (a + j) = cs y ++ ((cs x).drop (a + j)).drop y.length := by
    conv => lhs; rw [← List.take_append_drop y.length ((cs x).drop (a + j)), h3]
  have e1 : cs t ++ S = (cs t ++ S).take j ++ 32 :: (cs w ++ 32 :: ((cs x).drop (a + j)).drop y.length) := by
    rw [← hd]
    conv => lhs; rw [← List.take_append_drop j ((cs x).drop a), List.drop_drop, e0, hy]
    simp
  have hl : (cs t).length = t.length := cs_len t
  have e2 : J (ws.map cs) ++ S = (cs t ++ S).take j ++ 32 :: (cs w ++ 32 :: ((cs x).drop (a + j)).drop y.length) := by
    rw [← cs_joinB, ← e]
    exact e1
  have hm := J_cut (ws := ws.map cs) (fun v hv => by obtain ⟨u, hu, rfl⟩ := List.mem_map.mp hv; exact hb u hu) hw (by simpa using n0) w0 hS e2 (by
    rw [← cs_joinB, ← e, List.length_take, List.length_append]
    lia)
  obtain ⟨u, hu, q⟩ := List.mem_map.mp hm
  exact hn (by rw [← cs_inj q]; exact hu)
open StrLaws in
theorem parts_word {x y w : Str} (hw : 32 ∉ cs w) (w0 : cs w ≠ []) (hy : cs y = 32 :: (cs w ++ [32])) : ∀ (ts : List Str) (cuts : List Nat) (a f : Nat), ts ≠ [] → (∀ t ∈ ts, Tw w t) → (cs x).drop a = JS (cs y) (ts.map cs) → a ≤ x.length → ChainG x y x.length a cuts f → (∀ k, f ≤ k → ¬ At x y x.length k) → partsFrom x y.length a cuts = ts
  | [], _, _, _, h, _, _, _, _, _ => absurd rfl h
  | [t], cuts, a, f, _, ht, hd, ha, hG, hn => by
    have hd' : (cs x).drop a = cs t ++ [] := by rw [List.append_nil]; exact hd
    have hl : (cs x).length = x.length := cs_len x
    have htl : t.length = x.length - a := by
      have := congrArg List.length hd'
      rw [List.append_nil, List.length_drop, hl, cs_len] at this
      lia
    cases cuts with
    | cons c r =>
      have h2 := hG.2.1.1
      have hy1 : y.length = (cs y).length := (cs_len y).symm
      rw [hy] at hy1
      simp at hy1
      exact absurd hG.2.1 (at_no hw w0 hy (ht t (List.mem_singleton.mpr rfl)) hd' (.inl rfl) hG.1 (by lia))
    | nil =>
      show [Builtin.Str.strSub x a x.length] = [t]
      congr 1
      apply cs_inj
      show (Builtin.Str.strSub x a x.length).cps.toList = _
      rw [strSub_toList, List.take_of_length_le (by rw [List.length_drop]; show (cs x).length - a ≤ _; lia)]
      rw [List.append_nil] at hd'
      exact hd'
  | t :: u :: r, cuts, a, f, _, ht, hd, ha, hG, hn => by
    have hd' : (cs x).drop a = cs t ++ (cs y ++ JS (cs y) ((u :: r).map cs)) := hd
    have hl : (cs x).length = x.length := cs_len x
    have hyl : (cs y).length = y.length := cs_len y
    have htl : (cs t).length = t.length := cs_len t
    have hlen : x.length - a = t.length + (y.length + (JS (cs y) ((u :: r).map cs)).length) := by
      have := congrArg List.length hd'
      rw [List.length_drop, List.length_append, List.length_append] at this
      lia
    have hat : At x y x.length (a + t.length) := by
      refine ⟨by lia, ?_⟩
      rw [subAt_eq]
      have e : ((cs x).drop (a + t.length)).take y.length = cs y := by
        rw [← List.drop_drop, hd', ← htl, List.drop_left, ← hyl, List.take_left]
      show (((cs x).drop (a + t.length)).take y.length == cs y) = true
      rw [e]
      simp
    have hno : ∀ k, a ≤ k → k < a + t.length → ¬ At x y x.length k := fun k h1 h2 => at_no hw w0 hy (ht t (List.mem_cons_self ..)) hd' (.inr ⟨_, by rw [hy]; rfl⟩) h1 h2
    cases cuts with
    | nil =>
      have ef : f = a := hG
      exact absurd hat (hn _ (by lia))
    | cons c r' =>
      obtain ⟨g1, g2, g3, g4⟩ := hG
      have hc : c = a + t.length := by
        rcases Nat.lt_trichotomy c (a + t.length) with z | z | z
        · exact absurd g2 (hno c g1 z)
        · exact z
        · exact absurd hat (g3 _ (by lia) z)
      subst hc
      show Builtin.Str.strSub x a (a + t.length) :: partsFrom x y.length (a + t.length + y.length) r' = t :: u :: r
      have ih := parts_word hw w0 hy (u :: r) r' (a + t.length + y.length) f (List.cons_ne_nil _ _) (fun z hz => ht z (List.mem_cons_of_mem _ hz)) (by
        rw [Nat.add_assoc, ← List.drop_drop, hd', ← List.append_assoc, show t.length + y.length = (cs t ++ cs y).length by rw [List.length_append]; lia, List.drop_left]) (by lia) g4 hn
      rw [ih]
      congr 1
      apply cs_inj
      show (Builtin.Str.strSub x a (a + t.length)).cps.toList = _
      rw [strSub_toList, show a + t.length - a = t.length by lia]
      show ((cs x).drop a).take t.length = cs t
      rw [hd', ← htl, List.take_left]
open StrLaws in
theorem split_at {w y : Str} {ts : List Str} (hw : 32 ∉ cs w) (w0 : cs w ≠ []) (hy : cs y = 32 :: (cs w ++ [32])) (hk : Builtin.Str.strKind y = 1) (h0 : ts ≠ []) (ht : ∀ t ∈ ts, Tw w t) : Txt.split (Txt.join y ts) y = ts := by
  have hx : cs (Txt.join y ts) = JS (cs y) (ts.map cs) := cs_joinS y ts
  generalize Txt.join y ts = x at hx
  have hyl : 2 ≤ y.length := by
    rw [← cs_len, hy]
    simp
  obtain ⟨f, hG, hn⟩ := occ_tight x y (by lia)
  have hp := parts_word hw w0 hy ts _ 0 f h0 ht (by rw [List.drop_zero]; exact hx) (Nat.zero_le _) hG hn
  have one : partsFrom x y.length 0 [] = [x] := by
    show [Builtin.Str.strSub x 0 x.length] = [x]
    rw [sub_whole]
  unfold Txt.split
  split
  · rename_i hc
    (rw [Bool.or_eq_true, decide_eq_true_eq, decide_eq_true_eq] at hc)
    have hlt : x.length < y.length := by
      rcases hc with h | h
      · exact h
      · exfalso
        rw [hk] at h
        have : 1 ≤ Builtin.Str.strKind x := by
          unfold Builtin.Str.strKind
          split
          · lia
          · split <;> lia
        lia
    cases ho : Builtin.Str.occurrences x y 0 x.length (x.length + 1) with
    | nil => rw [ho, one] at hp; exact hp
    | cons c r =>
      rw [ho] at hG
      have := hG.2.1.1
      lia
  · split
    · rename_i he
      have e0 : Builtin.Str.occurrences x y 0 x.length (x.length + 1) = [] := List.isEmpty_iff.mp he
      rw [e0, one] at hp
      exact hp
    · rw [partsBetween_eq]
      exact hp
end
end K14
namespace K14
open PySem L2 Tx Rk PyProof.Rows PySem.SeqAt
open PySem.PyData (strOk)
section
variable {P : Program} {w : World} {K : PySem.W.Frag} {mg : Str → Option Value} {base : Heap}
noncomputable abbrev Tt := Bool × Am
theorem Am.ne : ∀ am : Am, am.ws ≠ []
  | .free => List.cons_ne_nil _ _
  | .pl _ _ _ => List.cons_ne_nil _ _
  | .isin _ _ _ => List.cons_ne_nil _ _
  | .on _ _ => List.cons_ne_nil _ _
  | .top _ => List.cons_ne_nil _ _
  | .held _ => List.cons_ne_nil _ _
structure A2 {α : Type} (R : V → α → Prop) (vs : List V) (ts : List α) : Prop where
  len : vs.length = ts.length
  got : ∀ (i : Nat) v t, vs[i]? = some v → ts[i]? = some t → R v t
theorem A2.nil {α : Type} {R : V → α → Prop} : A2 R [] [] := ⟨rfl, fun i v t h _ => by cases h⟩
theorem A2.snoc {α : Type} {R : V → α → Prop} {vs : List V} {ts : List α} {v : V} {t : α} (h : A2 R vs ts) (r : R v t) : A2 R (vs ++ [v]) (ts ++ [t]) := ⟨by simp [h.len], fun i x y hx hy => by
  by_cases hi : i < vs.length
  · rw [List.getElem?_append_left hi] at hx
    rw [List.getElem?_append_left (by rw [← h.len]; exact hi)] at hy
    exact h.got i x y hx hy
  · rw [List.getElem?_append_right (by lia)] at hx
    rw [List.getElem?_append_right (by rw [← h.len]; lia), ← h.len] at hy
    have h0 : i - vs.length = 0 := by
      have := (List.getElem?_eq_some_iff.mp hx).1
      simp at this
      lia
    rw [h0] at hx hy
    cases hx
    cases hy
    exact r⟩
theorem A2.mono {α : Type} {R S : V → α → Prop} {vs : List V} {ts : List α} (h : A2 R vs ts) (m : ∀ v t, v ∈ vs → R v t → S v t) : A2 S vs ts := ⟨h.len, fun i v t hv ht => m v t (List.mem_of_getElem? hv) (h.got i v t hv ht)⟩
theorem A2.ref {α : Type} {R : V → α → Prop} {vs : List V} {ts : List α} (h : A2 R vs ts) (m : ∀ v t, R v t → ∃ a, v = V.ref a) : ∀ v ∈ vs, ∃ a, v = V.ref a := fun v hv => by
  obtain ⟨i, hi⟩ := List.getElem?_of_mem hv
  have hl := (List.getElem?_eq_some_iff.mp hi).1
  have hl2 : i < ts.length := by rw [← h.len]; exact hl
  exact m v _ (h.got i v ts[i] hi (List.getElem?_eq_getElem hl2))
theorem A2.at {α : Type} {R : V → α → Prop} {vs : List V} {ts : List α} (h : A2 R vs ts) {i : Nat} {v : V} (hv : vs[i]? = some v) : ∃ t, ts[i]? = some t ∧ t ∈ ts ∧ R v t := by
  have hl := (List.getElem?_eq_some_iff.mp hv).1
  have hl2 : i < ts.length := by rw [← h.len]; exact hl
  exact ⟨ts[i], List.getElem?_eq_getElem hl2, List.getElem_mem hl2, h.got i v _ hv (List.getElem?_eq_getElem hl2)⟩
inductive TmV (H : Hp) (v : V) (t : Tt) : Prop
  | mk (a l : Addr) (e : v = .ref a) (ha : H a = some (.tup [.bl t.1, .ref l])) (hl : H l = some (.lst (t.2.ws.map V.str))) : TmV H v t
inductive PtV (H : Hp) (v : V) (ts : List Tt) : Prop
  | mk (d : Addr) (vs : List V) (e : v = .ref d) (hd : H d = some (.lst vs)) (hv : A2 (TmV H) vs ts) : PtV H v ts
theorem TmV.rf {H : Hp} {v : V} {t : Tt} (h : TmV H v t) : ∃ a, v = V.ref a := by obtain ⟨a, l, e, _⟩ := h; exact ⟨a, e⟩
theorem PtV.rf {H : Hp} {v : V} {t : List Tt} (h : PtV H v t) : ∃ a, v = V.ref a := by obtain ⟨a, l, e, _⟩ := h; exact ⟨a, e⟩
theorem TmV.same {H H' : Hp} {v : V} {t : Tt} (s : Same H H') (h : TmV H v t) : TmV H' v t := by
  obtain ⟨a, l, e, ha, hl⟩ := h
  exact ⟨a, l, e, s _ _ ha, s _ _ hl⟩
theorem PtV.same {H H' : Hp} {v : V} {ts : List Tt} (s : Same H H') (h : PtV H v ts) : PtV H' v ts := by
  obtain ⟨d, vs, e, hd, hv⟩ := h
  exact ⟨d, vs, e, s _ _ hd, hv.mono fun v t _ r => r.same s⟩
theorem TmV.upd {H : Hp} {v : V} {t : Tt} {D : Addr} {ys : List V} {o : HO} (h : TmV H v t) (hD : H D = some (.lst ys)) (hr : ∀ y ∈ ys, ∃ a, y = V.ref a) : TmV (upd H D o) v t := by
  obtain ⟨a, l, e, ha, hl⟩ := h
  have aD : a ≠ D := ne_of ha hD fun z => by cases z
  have lD : l ≠ D := ne_of hl hD fun z => by
    obtain ⟨w0, wr, hw⟩ := List.exists_cons_of_ne_nil t.2.ne
    rw [hw] at z
    cases z
    obtain ⟨a, q⟩ := hr _ (List.mem_cons_self ..)
    cases q
  exact ⟨a, l, e, by rw [upd_ne aD]; exact ha, by rw [upd_ne lD]; exact hl⟩
theorem PtV.upd {H : Hp} {v : V} {ts : List Tt} {D : Addr} {ys : List V} {o : HO} (h : PtV H v ts) (hv : v ≠ .ref D) (hD : H D = some (.lst ys)) (hr : ∀ y ∈ ys, ∃ a, y = V.ref a) : PtV (upd H D o) v ts := by
  obtain ⟨d, vs, e, hd, hvs⟩ := h
  have dD : d ≠ D := fun z => hv (by rw [e, z])
  exact ⟨d, vs, e, by rw [upd_ne dD]; exact hd, hvs.mono fun v t _ r => r.upd hD hr⟩
noncomputable def termT (t : Tt) : Str := Txt.join blank (tmW t.1 t.2.ws)
noncomputable def partT (ts : List Tt) : Str := Txt.join " and " (ts.map termT)
noncomputable def factT (ps : List (List Tt)) : Str := Txt.join " or " (ps.map partT)
structure POk (rs : List Ro) (ts : List Tt) : Prop where
  ne : ts ≠ []
  few : ts.length ≤ 3
  ok : ∀ t ∈ ts, t.2.ok rs
structure FOk (rs : List Ro) (ps : List (List Tt)) : Prop where
  ne : ps ≠ []
  few : ps.length ≤ 3
  ok : ∀ ts ∈ ps, POk rs ts
theorem Am.nwhile {rs : List Ro} (g : Good rs) : ∀ {am : Am}, am.ok rs → ∀ w ∈ am.ws, w ≠ "while" := by
  have c1 : ∀ {x : Str}, x ∈ tn rs → x ≠ "while" := fun {x} h e => (good_nv g (mem_ths_name h)).fix (by rw [e]; decide +kernel)
  have c2 : ∀ {x : Str}, x ∈ pn rs → x ≠ "while" := fun {x} h e => (good_nv g (mem_plc_name h)).fix (by rw [e]; decide +kernel)
  intro am ok w hw
  cases am with
  | free =>
    rw [List.mem_singleton.mp hw]
    decide +kernel
  | pl p i w' =>
    simp only [Am.ws, List.mem_cons, List.not_mem_nil, or_false] at hw
    rcases hw with e | e
    · rw [e]; exact c2 (mem_pl ok.1)
    · rw [e]
      have := ok.2
      simp only [plW, List.mem_cons, List.not_mem_nil, or_false] at this
      rcases this with e | e | e | e <;> (rw [e]; decide +kernel)
  | isin t p i =>
    simp only [Am.ws, List.mem_cons, List.not_mem_nil, or_false] at hw
    rcases hw with e | e | e
    · rw [e]; exact c1 ok.1
    · rw [e]; decide +kernel
    · rw [e]; exact c2 (mem_pl ok.2)
  | on t u =>
    simp only [Am.ws, List.mem_cons, List.not_mem_nil, or_false] at hw
    rcases hw with e | e | e
    · rw [e]; exact c1 ok.1
    · rw [e]; decide +kernel
    · rw [e]; exact c1 ok.2
  | top t =>
    simp only [Am.ws, List.mem_cons, List.not_mem_nil, or_false] at hw
    rcases hw with e | e
    · rw [e]; exact c1 ok
    · rw [e]; decide +kernel
  | held t =>
    simp only [Am.ws, List.mem_cons, List.not_mem_nil, or_false] at hw
    rcases hw with e | e
    · rw [e]; exact c1 ok
    · rw [e]; decide +kernel
theorem term_ws {rs : List Ro} (g : Good rs) {t : Tt} (ok : t.2.ok rs) : tmW t.1 t.2.ws ≠ [] ∧ (∀ w ∈ tmW t.1 t.2.ws, 32 ∉ cs w) ∧ ∀ w ∈ tmW t.1 t.2.ws, w ≠ "and" ∧ w ≠ "or" ∧ w ≠ "while" := by
  obtain ⟨h1, _, h3, _⟩ := Am.woks g ok
  have hw := Am.nwhile g ok
  unfold tmW
  split
  · exact ⟨h3, fun w hw => (h1 w hw).1, fun w hw' => ⟨(h1 w hw').2.1.2.1, (h1 w hw').2.1.2.2, hw w hw'⟩⟩
  · refine ⟨List.cons_ne_nil _ _, fun w hw' => ?_, fun w hw' => ?_⟩
    · rcases List.mem_cons.mp hw' with e | e
      · rw [e]; decide +kernel
      · exact (h1 w e).1
    · rcases List.mem_cons.mp hw' with e | e
      · rw [e]; decide +kernel
      · exact ⟨(h1 w e).2.1.2.1, (h1 w e).2.1.2.2, hw w e⟩
noncomputable def iw (c : Str) : List (List Str) → List Str
  | [] => []
  | [a] => a
  | a :: b :: r => a ++ c :: iw c (b :: r)
theorem J_two : ∀ {xs : List (List Nat)} {ys : List (List Nat)}, xs ≠ [] → ys ≠ [] → J (xs ++ ys) = J xs ++ 32 :: J ys
  | [], _, h, _ => absurd rfl h
  | [a], [], _, h => absurd rfl h
  | [a], b :: r, _, _ => rfl
  | a :: b :: r, ys, _, h => by
    show a ++ 32 :: J ((b :: r) ++ ys) = (a ++ 32 :: J (b :: r)) ++ 32 :: J ys
    rw [J_two (xs := b :: r) (List.cons_ne_nil _ _) h]
    simp
theorem join_iw {c y : Str} (hy : cs y = 32 :: (cs c ++ [32])) : ∀ {wss : List (List Str)}, wss ≠ [] → (∀ ws ∈ wss, ws ≠ []) → iw c wss ≠ [] ∧ Txt.join y (wss.map (Txt.join blank)) = Txt.join blank (iw c wss)
  | [], h, _ => absurd rfl h
  | [a], _, hn => ⟨hn a (List.mem_singleton.mpr rfl), by
    apply cs_inj
    rw [cs_joinS]
    rfl⟩
  | a :: b :: r, _, hn => by
    obtain ⟨n1, ih⟩ := join_iw hy (wss := b :: r) (List.cons_ne_nil _ _) fun ws h => hn ws (List.mem_cons_of_mem _ h)
    have na := hn a (List.mem_cons_self ..)
    refine ⟨fun z => ?_, ?_⟩
    · have z' : a ++ c :: iw c (b :: r) = [] := z
      simp at z'
    · apply cs_inj
      rw [cs_joinS]
      show cs (Txt.join blank a) ++ (cs y ++ JS (cs y) (((b :: r).map (Txt.join blank)).map cs)) = cs (Txt.join blank (a ++ c :: iw c (b :: r)))
      rw [← cs_joinS, ih, cs_joinB, cs_joinB, cs_joinB, List.map_append, J_two (xs := a.map cs) (ys := (c :: iw c (b :: r)).map cs) (by simpa using na) (by simp), hy]
      rw [show J ((c :: iw c (b :: r)).map cs) = cs c ++ 32 :: J ((iw c (b :: r)).map cs) from J_two (xs := [cs c]) (List.cons_ne_nil _ _) (by simpa using n1)]
      simp
theorem iw_mem {c x : Str} : ∀ {wss : List (List Str)}, x ∈ iw c wss → x = c ∨ ∃ ws ∈ wss, x ∈ ws
  | [], h => nomatch h
  | [a], h => .inr ⟨a, List.mem_singleton.mpr rfl, h⟩
  | a :: b :: r, h => by
    rcases List.mem_append.mp (show x ∈ a ++ c :: iw c (b :: r) from h) with z | z
    · exact .inr ⟨a, List.mem_cons_self .., z⟩
    · rcases List.mem_cons.mp z with z | z
      · exact .inl z
      · rcases iw_mem z with q | ⟨ws, h1, h2⟩
        · exact .inl q
        · exact .inr ⟨ws, List.mem_cons_of_mem _ h1, h2⟩
noncomputable def partW (ts : List Tt) : List Str := iw "and" (ts.map fun t => tmW t.1 t.2.ws)
noncomputable def factW (ps : List (List Tt)) : List Str := iw "or" (ps.map partW)
theorem part_ws {rs : List Ro} (g : Good rs) {ts : List Tt} (p : POk rs ts) : partW ts ≠ [] ∧ partT ts = Txt.join blank (partW ts) ∧ (∀ w ∈ partW ts, 32 ∉ cs w) ∧ ∀ w ∈ partW ts, w ≠ "or" ∧ w ≠ "while" := by
  have h := join_iw (c := "and") (y := " and ") (by decide +kernel) (wss := ts.map fun t => tmW t.1 t.2.ws) (by simpa using p.ne) fun ws hw => by
    obtain ⟨t, ht, rfl⟩ := List.mem_map.mp hw
    exact (term_ws g (p.ok t ht)).1
  rw [List.map_map] at h
  refine ⟨h.1, h.2, fun w hw => ?_, fun w hw => ?_⟩
  · rcases iw_mem hw with e | ⟨ws, h1, h2⟩
    · rw [e]; decide +kernel
    · obtain ⟨t, ht, rfl⟩ := List.mem_map.mp h1
      exact (term_ws g (p.ok t ht)).2.1 w h2
  · rcases iw_mem hw with e | ⟨ws, h1, h2⟩
    · rw [e]; decide +kernel
    · obtain ⟨t, ht, rfl⟩ := List.mem_map.mp h1
      exact ((term_ws g (p.ok t ht)).2.2 w h2).2
theorem fact_ws {rs : List Ro} (g : Good rs) {ps : List (List Tt)} (p : FOk rs ps) : factW ps ≠ [] ∧ factT ps = Txt.join blank (factW ps) ∧ (∀ w ∈ factW ps, 32 ∉ cs w) ∧ ∀ w ∈ factW ps, w ≠ "while" := by
  have h := join_iw (c := "or") (y := " or ") (by decide +kernel) (wss := ps.map partW) (by simpa using p.ne) fun ws hw => by
    obtain ⟨t, ht, rfl⟩ := List.mem_map.mp hw
    exact (part_ws g (p.ok t ht)).1
  rw [List.map_map] at h
  refine ⟨h.1, ?_, fun w hw => ?_, fun w hw => ?_⟩
  · rw [show factW ps = iw "or" (ps.map partW) from rfl, ← h.2]
    show Txt.join " or " (ps.map partT) = _
    congr 1
    exact List.map_congr_left fun t ht => (part_ws g (p.ok t ht)).2.1
  · rcases iw_mem hw with e | ⟨ws, h1, h2⟩
    · rw [e]; decide +kernel
    · obtain ⟨t, ht, rfl⟩ := List.mem_map.mp h1
      exact (part_ws g (p.ok t ht)).2.2.1 w h2
  · rcases iw_mem hw with e | ⟨ws, h1, h2⟩
    · rw [e]; decide +kernel
    · obtain ⟨t, ht, rfl⟩ := List.mem_map.mp h1
      exact ((part_ws g (p.ok t ht)).2.2.2 w h2).2
theorem split_and {rs : List Ro} (g : Good rs) {ts : List Tt} (p : POk rs ts) : Txt.split (partT ts) " and " = ts.map termT :=
  split_at (w := "and") (by decide +kernel) (by decide +kernel) (by decide +kernel) (by decide +kernel) (by simpa using p.ne) fun x hx => by
    obtain ⟨t, ht, rfl⟩ := List.mem_map.mp hx
    have h := term_ws g (p.ok t ht)
    exact ⟨_, rfl, h.1, h.2.1, fun z => (h.2.2 _ z).1 rfl⟩
theorem split_or {rs : List Ro} (g : Good rs) {ps : List (List Tt)} (p : FOk rs ps) : Txt.split (factT ps) " or " = ps.map partT :=
  split_at (w := "or") (by decide +kernel) (by decide +kernel) (by decide +kernel) (by decide +kernel) (by simpa using p.ne) fun x hx => by
    obtain ⟨t, ht, rfl⟩ := List.mem_map.mp hx
    have h := part_ws g (p.ok t ht)
    exact ⟨_, h.2.1, h.1, h.2.2.1, fun z => (h.2.2.2 _ z).1 rfl⟩
theorem fact_tw {rs : List Ro} (g : Good rs) {ps : List (List Tt)} (p : FOk rs ps) : Tw "while" (factT ps) := by
  have h := fact_ws g p
  exact ⟨_, h.2.1, h.1, h.2.2.1, fun z => h.2.2.2 _ z rfl⟩
noncomputable def errT (p : List (List Tt)) : Option (List (List Tt)) → Str
  | none => factT p
  | some q => factT p ++ " while " ++ factT q
noncomputable def errL (p : List (List Tt)) (o : Option (List (List Tt))) : List (List (List Tt)) := p :: o.toList
theorem split_while {rs : List Ro} (g : Good rs) {p : List (List Tt)} {o : Option (List (List Tt))} (hp : FOk rs p) (ho : ∀ q, o = some q → FOk rs q) : Txt.split (errT p o) " while " = (errL p o).map factT := by
  have e : errT p o = Txt.join " while " ((errL p o).map factT) := by
    apply cs_inj
    rw [cs_joinS]
    cases o with
    | none => rfl
    | some q =>
      show cs (factT p ++ " while " ++ factT q) = cs (factT p) ++ (cs (Str.ofString " while ") ++ cs (factT q))
      rw [cs_app, cs_app, List.append_assoc]
  rw [e]
  refine split_at (w := "while") (by decide +kernel) (by decide +kernel) (by decide +kernel) (by decide +kernel) (by simp [errL]) fun x hx => ?_
  obtain ⟨q, hq, rfl⟩ := List.mem_map.mp hx
  rcases List.mem_cons.mp hq with e | e
  · rw [e]; exact fact_tw g hp
  · exact fact_tw g (ho q (by simpa using e))
theorem join_len {y : Str} {n : Nat} : ∀ {xs : List Str}, (∀ x ∈ xs, x.length ≤ n) → (xs.map (·.length)).sum + xs.length * y.length ≤ xs.length * (n + y.length)
  | [], _ => by simp
  | x :: xs, h => by
    (have h1 := h x (List.mem_cons_self ..))
    have ih := join_len (y := y) (xs := xs) fun z hz => h z (List.mem_cons_of_mem _ hz)
    rw [List.map_cons, List.sum_cons, List.length_cons, Nat.succ_mul, Nat.succ_mul]
    lia
theorem term_len {rs : List Ro} (g : Good rs) {t : Tt} (ok : t.2.ok rs) : (termT t).length ≤ 1000 := (Am.tm g ok t.1).ln
theorem part_sum {rs : List Ro} (g : Good rs) {ts : List Tt} (p : POk rs ts) : ((ts.map termT).map (·.length)).sum + (ts.map termT).length * (Str.ofString " and ").length ≤ 3015 := by
  have h := join_len (y := " and ") (n := 1000) (xs := ts.map termT) fun x hx => by
    obtain ⟨t, ht, rfl⟩ := List.mem_map.mp hx
    exact term_len g (p.ok t ht)
  have h2 : (Str.ofString " and ").length = 5 := by decide +kernel
  have h3 := p.few
  rw [List.length_map, h2] at h
  rw [List.length_map, h2]
  have h4 : ts.length * (1000 + 5) ≤ 3 * (1000 + 5) := Nat.mul_le_mul_right _ h3
  lia
theorem part_len {rs : List Ro} (g : Good rs) {ts : List Tt} (p : POk rs ts) : (partT ts).length ≤ 3015 := by
  have h1 := StrLaws.join_length_le " and " (ts.map termT)
  have h2 := part_sum g p
  have e : (partT ts).length = (Str.join " and " (ts.map termT)).length := congrArg Str.length (StrLaws.glued_eq_join " and " (ts.map termT))
  lia
theorem fact_sum {rs : List Ro} (g : Good rs) {ps : List (List Tt)} (p : FOk rs ps) : ((ps.map partT).map (·.length)).sum + (ps.map partT).length * (Str.ofString " or ").length ≤ 9057 := by
  have h := join_len (y := " or ") (n := 3015) (xs := ps.map partT) fun x hx => by
    obtain ⟨t, ht, rfl⟩ := List.mem_map.mp hx
    exact part_len g (p.ok t ht)
  have h2 : (Str.ofString " or ").length = 4 := by decide +kernel
  have h3 := p.few
  rw [List.length_map, h2] at h
  rw [List.length_map, h2]
  have h4 : ps.length * (3015 + 4) ≤ 3 * (3015 + 4) := Nat.mul_le_mul_right _ h3
  lia
theorem fact_len {rs : List Ro} (g : Good rs) {ps : List (List Tt)} (p : FOk rs ps) : (factT ps).length ≤ 9057 := by
  have h1 := StrLaws.join_length_le " or " (ps.map partT)
  have h2 := fact_sum g p
  have e : (factT ps).length = (Str.join " or " (ps.map partT)).length := congrArg Str.length (StrLaws.glued_eq_join " or " (ps.map partT))
  lia
end
end K14
namespace K14
open PySem L2 Tx Rk PyProof.Rows PySem.SeqAt
open PySem.PyData (strOk)
section
variable {P : Program} {w : World} {K : PySem.W.Frag} {mg : Str → Option Value} {base : Heap}
theorem ok_ths {f C : Addr} {fd : FuncData} (F : Fun K "things" "Room.things" sThings f fd) (L : Cl K C) (T : Bl mg) : FnOk P w K mg base CX0 1 f fd ["self"] (spThings C) := by
  refine F.ok scThings (fun vs H Q E h => ?_) (fun cdv A outer s H vs Q E hr h => ?_)
  · obtain ⟨x, rs, rfl, _⟩ := h
    rfl
  · obtain ⟨x, rs, rfl, R, q⟩ := h
    obtain ⟨dx, d1, d2, o, kvs, h1, h2, h3, h4⟩ := R.ex
    refine ⟨_, pss_one (ps_ret (pe_callTy (call_listD rfl) (by rfl) T.list bt_list (pa_cons (pe_fld (pv 0) rfl) pa_nil))), ?_⟩
    refine ⟨_, rfl, x, C, dx, _, _, rfl, h1, L.cl, L.nS, rf_shapes d1 d2, d2, _, rfl, .inl h4, fun l hl => ?_⟩
    refine q l _ (Same.new hl) hl ?_
    rw [upd_same]
    unfold shK
    (rw [List.map_map, List.map_map])
    rfl
end
end K14
namespace K14
open PySem L2 Tx Rk PyProof.Rows PySem.SeqAt
open PySem.PyData (strOk)
section
variable {P : Program} {w : World} {K : PySem.W.Frag} {mg : Str → Option Value} {base : Heap}
theorem ok_short {f C aI f_places f_things : Addr} {fd d_places d_things : FuncData} (F : Fun K "is_short_atom" "is_short_atom" sIsShortAtom f fd) (L : Cl K C) (MI : Ml K mg aI) (b_places : Binds K d_places ["self"] []) (m_places : Meth K C "places" f_places) (G_places : FnOk P w K mg base CX0 1 f_places d_places ["self"] (spPlaces C))
    (b_things : Binds K d_things ["self"] []) (m_things : Meth K C "things" f_things) (G_things : FnOk P w K mg base CX0 1 f_things d_things ["self"] (spThings C)) : FnOk P w K mg base CX0 2 f fd pIsShortAtom (spShort C) := by
  refine F.ok scIsShortAtom (fun vs H Q E h => ?_) (fun cdv A outer s H vs Q E hr1 h => ?_)
  · obtain ⟨x, rs, a, b, rfl, _⟩ := h
    rfl
  · obtain ⟨x, rs, a, b, rfl, R, q⟩ := h
    obtain ⟨dx, d1, d2, o, kvs, h1, h2, h3, h4⟩ := R.ex
    refine ⟨_, (pss_cons (ps_if (pt_cmpR op_in_seq (pv 2) (pe_tup (pa_cons pe_str (pa_cons pe_str pa_nil))) (by rfl)) (pss_one (ps_ret (pe_cmpR op_in_seq (pv 1) (pe_meth0 (pv 0) L.cl m_things G_things hr1 b_things .nil pass0) (by rfl)))) pss_nil)
      (pss_one (ps_ret (pe_and (pe_or (pe_cmpR op_in_seq (pv 2) (pe_glob (v := .ref aI) (by rfl) MI.wm rfl) (by rfl)) (pe_one (pe_cmpR op_eq (pv 2) pe_str (nomark _)))) (pe_one (pe_cmpR op_in_seq (pv 1) (pe_meth0 (pv 0) L.cl m_places G_places hr1 b_places .nil pass0) (by rfl))))))), ?_⟩
    refine ⟨_, rfl, by decide, fun tp htp => ?_⟩
    have s0 : Same H (upd H tp (.tup [V.str "top", V.str "held"])) := Same.new htp
    refine ⟨tp, _, rfl, .inr (SqT.of upd_same), rfl, flat_strs ["top", "held"], _, rfl, ?_⟩
    show if inV (V.str b) ((["top", "held"] : List Str).map V.str) = true then _ else _
    rw [inV_strs]
    unfold shortB at q
    by_cases hb : b ∈ (["top", "held"] : List Str)
    · rw [if_pos hb] at q
      rw [decide_eq_true hb]
      refine iteT ?_
      refine ⟨_, rfl, _, rfl, x, dx, _, rfl, s0 _ _ h1, rf_no d1 d2 (by decide +kernel) (by decide +kernel), x, rs, rfl, R.same s0, fun l H1 s1 fl el => ?_⟩
      refine ⟨l, _, rfl, .inl (SqL.of el), rfl, flat_strs _, ?_⟩
      show Q (.bl (inV (V.str a) ((tn rs).map V.str))) H1
      rw [inV_strs]
      exact q H1 (s0.trans s1)
    · rw [if_neg hb] at q
      rw [decide_eq_false hb]
      refine iteF ?_
      generalize upd H tp (.tup [V.str "top", V.str "held"]) = H0 at s0 ⊢
      refine ⟨_, rfl, aI, _, rfl, .inr (MI.wv H0), rfl, flat_strs _, _, rfl, ?_⟩
      show if inV (V.str b) (lidsS.map V.str) = true then _ else _
      rw [inV_strs]
      by_cases hl : b ∈ lidsS
      · rw [decide_eq_true hl] at q ⊢
        refine iteT ⟨_, rfl, ?_⟩
        refine iteT ?_
        exact ⟨_, rfl, _, rfl, x, dx, _, rfl, s0 _ _ h1, rf_no d1 d2 (by decide +kernel) (by decide +kernel), x, rs, rfl, R.same s0, fun l H1 s1 fl el => ⟨l, _, rfl, .inl (SqL.of el), rfl, flat_strs _, by
          show Q (.bl (inV (V.str a) ((pn rs).map V.str))) H1
          rw [inV_strs]
          exact q H1 (s0.trans s1)⟩⟩
      · rw [decide_eq_false hl] at q ⊢
        refine iteF ?_
        refine ⟨_, rfl, rfl, _, rfl, ?_⟩
        rw [dec_s]
        by_cases hbb : b = "bare"
        · rw [decide_eq_true hbb] at q ⊢
          refine iteT ?_
          exact ⟨_, rfl, _, rfl, x, dx, _, rfl, s0 _ _ h1, rf_no d1 d2 (by decide +kernel) (by decide +kernel), x, rs, rfl, R.same s0, fun l H1 s1 fl el => ⟨l, _, rfl, .inl (SqL.of el), rfl, flat_strs _, by
          show Q (.bl (inV (V.str a) ((pn rs).map V.str))) H1
          rw [inV_strs]
          exact q H1 (s0.trans s1)⟩⟩
        · rw [decide_eq_false hbb] at q ⊢
          exact iteF (q H0 s0)
end
end K14
namespace K14
open PySem L2 Tx Rk PyProof.Rows PySem.SeqAt
open PySem.PyData (strOk)
section
variable {P : Program} {w : World} {K : PySem.W.Frag} {mg : Str → Option Value} {base : Heap}
theorem ok_spot {f C f_places f_things : Addr} {fd d_places d_things : FuncData} (F : Fun K "is_spot" "is_spot" sIsSpot f fd) (L : Cl K C) (b_places : Binds K d_places ["self"] []) (m_places : Meth K C "places" f_places) (G_places : FnOk P w K mg base CX0 1 f_places d_places ["self"] (spPlaces C))
    (b_things : Binds K d_things ["self"] []) (m_things : Meth K C "things" f_things) (G_things : FnOk P w K mg base CX0 1 f_things d_things ["self"] (spThings C)) : FnOk P w K mg base CX0 2 f fd pIsSpot (spSpot C) := by
  refine F.ok scIsSpot (fun vs H Q E h => ?_) (fun cdv A outer s H vs Q E hr1 h => ?_)
  · obtain ⟨x, rs, b, c, rfl, _⟩ := h
    rfl
  · obtain ⟨x, rs, b, c, rfl, R, q⟩ := h
    obtain ⟨dx, d1, d2, o, kvs, h1, h2, h3, h4⟩ := R.ex
    refine ⟨_, (pss_cons (ps_if (pt_cmpR op_eq (pv 1) pe_str (nomark _)) (pss_one (ps_ret (pe_cmpR op_in_seq (pv 2) (pe_meth0 (pv 0) L.cl m_places G_places hr1 b_places .nil pass0) (by rfl)))) pss_nil)
      (pss_one (ps_ret (pe_and (pe_cmpR op_eq (pv 1) pe_str (nomark _)) (pe_one (pe_cmpR op_in_seq (pv 2) (pe_meth0 (pv 0) L.cl m_things G_things hr1 b_things .nil pass0) (by rfl))))))), ?_⟩
    unfold spotB at q
    refine ⟨_, rfl, rfl, _, rfl, ?_⟩
    by_cases hb : b = "in"
    · rw [if_pos hb] at q
      refine iteS hb ?_
      refine ⟨_, rfl, _, rfl, x, dx, _, rfl, h1, rf_no d1 d2 (by decide +kernel) (by decide +kernel), x, rs, rfl, R, fun l H1 s1 fl el => ⟨l, _, rfl, .inl (SqL.of el), rfl, flat_strs _, ?_⟩⟩
      show Q (.bl (inV (V.str c) ((pn rs).map V.str))) H1
      rw [inV_strs]
      exact q H1 s1
    · rw [if_neg hb] at q
      refine iteN hb ?_
      refine ⟨_, rfl, rfl, _, rfl, ?_⟩
      rw [dec_s]
      by_cases ho : b = "on"
      · rw [decide_eq_true ho] at q ⊢
        refine iteT ?_
        refine ⟨_, rfl, _, rfl, x, dx, _, rfl, h1, rf_no d1 d2 (by decide +kernel) (by decide +kernel), x, rs, rfl, R, fun l H1 s1 fl el => ⟨l, _, rfl, .inl (SqL.of el), rfl, flat_strs _, ?_⟩⟩
        show Q (.bl (inV (V.str c) ((tn rs).map V.str))) H1
        rw [inV_strs]
        exact q H1 s1
      · rw [decide_eq_false ho] at q ⊢
        exact iteF (q H (Same.refl _))
end
end K14
namespace K14
open PySem L2 Tx Rk PyProof.Rows PySem.SeqAt
open PySem.PyData (strOk)
section
variable {P : Program} {w : World} {K : PySem.W.Frag} {mg : Str → Option Value} {base : Heap}
theorem ok_atom {f C f1 f2 f_things : Addr} {fd d1' d2' d_things : FuncData} (F : Fun K "is_atom" "is_atom" sIsAtom f fd) (L : Cl K C) (T : Bl mg) (b_things : Binds K d_things ["self"] []) (m_things : Meth K C "things" f_things) (G_things : FnOk P w K mg base CX0 1 f_things d_things ["self"] (spThings C))
    (D_is_short_atom : Df K mg "is_short_atom" sIsShortAtom pIsShortAtom f1 d1') (G_is_short_atom : FnOk P w K mg base CX0 2 f1 d1' pIsShortAtom (spShort C)) (D_is_spot : Df K mg "is_spot" sIsSpot pIsSpot f2 d2') (G_is_spot : FnOk P w K mg base CX0 2 f2 d2' pIsSpot (spSpot C)) : FnOk P w K mg base CX0 3 f fd pIsAtom (spAtom C) := by
  refine F.ok scIsAtom (fun vs H Q E h => ?_) (fun cdv A outer s H vs Q E hr2 h => ?_)
  · obtain ⟨x, l, rs, ws, rfl, _⟩ := h
    rfl
  · obtain ⟨x, l, rs, ws, rfl, R, el, sk, q⟩ := h
    have hr1 : Room 1 _ := hr2.mono (by decide)
    have hun := hr2.units
    obtain ⟨dx, d1, d2, o, kvs, h1, h2, h3, h4⟩ := R.ex
    refine ⟨_, (pss_cons (ps_if (pt_cmpR (op_eqL hun) (pv 1) (pe_lst (pa_cons pe_str pa_nil)) (nomark _)) (pss_one (ps_ret pe_bl)) pss_nil)
      (pss_cons (ps_if (pt_cmpR op_eq (pe_callB call_len (by rfl) T.len PySem.boot_len (pa_cons (pv 1) pa_nil)) pe_int (nomark _)) (pss_one (ps_ret (pe_call G_is_short_atom hr2 (by rfl) D_is_short_atom.m D_is_short_atom.F.kp D_is_short_atom.b .nil pass0 (pa_cons (pv 0) (pa_cons (pe_ix ix_list (pv 1) pe_int (fun _ _ => rfl)) (pa_cons (pe_ix ix_list (pv 1) pe_int (fun _ _ => rfl)) pa_nil)))))) pss_nil)
      (pss_cons (ps_if (PW.pt (pw_and (pt_cmpR op_eq (pe_callB call_len (by rfl) T.len PySem.boot_len (pa_cons (pv 1) pa_nil)) pe_int (nomark _)) (pw_and1 (pt_cmpR op_in_seq (pe_ix ix_list (pv 1) pe_int (fun _ _ => rfl)) (pe_meth0 (pv 0) L.cl m_things G_things hr1 b_things .nil pass0) (by rfl))))) (pss_one (ps_ret (pe_call G_is_spot hr2 (by rfl) D_is_spot.m D_is_spot.F.kp D_is_spot.b .nil pass0 (pa_cons (pv 0) (pa_cons (pe_ix ix_list (pv 1) pe_int (fun _ _ => rfl)) (pa_cons (pe_ix ix_list (pv 1) pe_int (fun _ _ => rfl)) pa_nil)))))) pss_nil)
      (pss_one (ps_ret pe_bl))))), ?_⟩
    refine ⟨_, rfl, by decide, fun lf hlf => ?_⟩
    have s0 : Same H (upd H lf (.lst [V.str "free"])) := Same.new hlf
    have ef : (upd H lf (.lst [V.str "free"])) lf = some (.lst ((["free"] : List Str).map V.str)) := upd_same
    generalize upd H lf (.lst [V.str "free"]) = H0 at s0 ef ⊢
    refine ⟨l, lf, ws, ["free"], rfl, rfl, s0 _ _ el, ef, sh_list sk, sh_list (by decide +kernel), _, rfl, ?_⟩
    rw [eqv_list]
    unfold atomB at q
    have el0 := s0 _ _ el
    by_cases hf : ws = (["free"] : List Str)
    · rw [if_pos hf] at q
      rw [decide_eq_true hf]
      exact iteT (q H0 s0)
    · rw [if_neg hf] at q
      rw [decide_eq_false hf]
      refine iteF ?_
      have ll : (ws.map V.str).length = ws.length := List.length_map ..
      refine ⟨_, rfl, _, _, rfl, .inl ⟨_, SqL.of el0, rfl⟩, rfl, _, rfl, ?_⟩
      by_cases h2 : ws.length = 2
      · obtain ⟨a, b, rfl⟩ : ∃ a b, ws = [a, b] := by
          match ws, h2 with
          | [a, b], _ => exact ⟨a, b, rfl⟩
        refine iteT ?_
        have a0 : atI [V.str a, V.str b] ((0 : Nat) : Int) = some (.str a) := atI_nat rfl
        have a1 : atI [V.str a, V.str b] ((1 : Nat) : Int) = some (.str b) := atI_nat rfl
        exact ⟨_, rfl, _, rfl, l, _, _, _, rfl, rfl, SqL.of el0, a0, _, rfl, l, _, _, _, rfl, rfl, SqL.of el0, a1, x, rs, a, b, rfl, R.same s0, fun H1 s1 => q H1 (s0.trans s1)⟩
      · refine ite2 (fun z => ?_) (fun _ => ?_)
        · exfalso
          have := V.int.inj (of_decide_eq_true z)
          lia
        · refine ⟨_, rfl, _, _, rfl, .inl ⟨_, SqL.of el0, rfl⟩, rfl, _, rfl, ?_⟩
          by_cases h3 : ws.length = 3
          · obtain ⟨a, b, c, rfl⟩ : ∃ a b c, ws = [a, b, c] := by
              match ws, h3 with
              | [a, b, c], _ => exact ⟨a, b, c, rfl⟩
            refine iteT ?_
            have a0 : atI [V.str a, V.str b, V.str c] ((0 : Nat) : Int) = some (.str a) := atI_nat rfl
            have a1 : atI [V.str a, V.str b, V.str c] ((1 : Nat) : Int) = some (.str b) := atI_nat rfl
            have a2 : atI [V.str a, V.str b, V.str c] ((2 : Nat) : Int) = some (.str c) := atI_nat rfl
            refine ⟨_, rfl, l, _, _, _, rfl, rfl, SqL.of el0, a0, _, rfl, x, dx, _, rfl, s0 _ _ h1, rf_no d1 d2 (by decide +kernel) (by decide +kernel), x, rs, rfl, R.same s0, fun l1 H1 s1 fl e1 => ⟨l1, _, rfl, .inl (SqL.of e1), rfl, flat_strs _, _, rfl, ?_⟩⟩
            show if inV (V.str a) ((tn rs).map V.str) = true then _ else _
            rw [inV_strs]
            have el1 := s1 _ _ el0
            have q : ∀ H' : Hp, Same H H' → Q (.bl (decide (a ∈ tn rs) && spotB rs b c)) H' := q
            by_cases ha : a ∈ tn rs
            · rw [decide_eq_true ha] at q ⊢
              refine iteT ?_
              exact ⟨_, rfl, _, rfl, l, _, _, _, rfl, rfl, SqL.of el1, a1, _, rfl, l, _, _, _, rfl, rfl, SqL.of el1, a2, x, rs, b, c, rfl, R.same (s0.trans s1), fun H2 s2 => q H2 ((s0.trans s1).trans s2)⟩
            · rw [decide_eq_false ha] at q ⊢
              exact iteF (q H1 (s0.trans s1))
          · refine ite2 (fun z => ?_) (fun _ => ?_)
            · exfalso
              have := V.int.inj (of_decide_eq_true z)
              lia
            · refine iteF ?_
              have q' : Q (.bl false) H0 := by
                match ws, h2, h3, q with
                | [], _, _, q => exact q H0 s0
                | [_], _, _, q => exact q H0 s0
                | _ :: _ :: _ :: _ :: _, _, _, q => exact q H0 s0
              exact q'
end
end K14
namespace K14
open PySem L2 Tx Rk PyProof.Rows PySem.SeqAt
open PySem.PyData (strOk)
section
variable {P : Program} {w : World} {K : PySem.W.Frag} {mg : Str → Option Value} {base : Heap}
theorem ok_term {f C f1 : Addr} {fd d1 : FuncData} (F : Fun K "read_term" "read_term" sReadTerm f fd) (T : Bl mg) (D_is_atom : Df K mg "is_atom" sIsAtom pIsAtom f1 d1) (G_is_atom : FnOk P w K mg base CX0 3 f1 d1 pIsAtom (spAtom C)) : FnOk P w K mg base CX0 4 f fd pReadTerm (spTerm C) := by
  refine F.ok scReadTerm (fun vs H Q E h => ?_) (fun cdv A outer s H vs Q E hr3 h => ?_)
  · obtain ⟨x, rs, b, ws, text, rfl, _⟩ := h
    rfl
  · obtain ⟨x, rs, b, ws, text, rfl, R, tm, q⟩ := h
    have hsl : sizeLine = 16777216 := sizeLine_eq
    have hln := tm.ln
    have hsp : Txt.split text blank = tmW b ws := by
      rw [tm.e]
      refine split_join ?_ fun w hw => ?_
      · unfold tmW
        split
        · exact tm.ne
        · exact List.cons_ne_nil _ _
      · unfold tmW at hw
        split at hw
        · exact tm.nb w hw
        · rcases List.mem_cons.mp hw with e | e
          · rw [e]; decide +kernel
          · exact tm.nb w e
    refine ⟨_, (pss_cons (ps_set (i := 2) scReadTerm.nd rfl (Or.inl rfl) (pe_bm PySem.F.plainAttrs_str PySem.F.slot_str_split PySem.F.type_str_split mt_split (pv 1) (pa_cons pe_str pa_nil)))
      (pss_cons (ps_set (i := 3) scReadTerm.nd rfl (Or.inl rfl) (pe_cmpR op_ne (pe_ix ix_list (pv 2) pe_int (fun _ _ => rfl)) pe_str (nomark _)))
      (pss_cons (ps_set (i := 4) scReadTerm.nd rfl (Or.inl rfl) (pe_ifExp (pt_val (pv 3)) (pv 2) (pe_slice sl_list (pv 2) (po_some pe_int) po_none)))
      (pss_cons (ps_if (pt_not (pt_val (pe_call G_is_atom hr3 (by rfl) D_is_atom.m D_is_atom.F.kp D_is_atom.b .nil pass0 (pa_cons (pv 0) (pa_cons (pv 4) pa_nil))))) pss_never pss_nil)
      (pss_one (ps_ret (pe_tup (pa_cons (pv 3) (pa_cons (pv 4) pa_nil))))))))), ?_⟩
    refine ⟨_, rfl, rfl, _, _, rfl, rfl, by rfl, by lia, fun l hl => ?_⟩
    refine lst_new (tmW b ws) _ (by show (Txt.split _ blank).map V.str = _; rw [hsp]) hl fun H1 s1 el => ?_
    cases b with
    | true =>
      have el : H1 l = some (.lst (ws.map V.str)) := el
      obtain ⟨w0, wr, rfl⟩ := List.exists_cons_of_ne_nil tm.ne
      have a0 : atI ((w0 :: wr).map V.str) ((0 : Nat) : Int) = some (.str w0) := atI_nat rfl
      refine ⟨_, rfl, l, _, _, _, rfl, rfl, SqL.of el, a0, rfl, ?_⟩
      have hw : (!decide (V.str w0 = V.str "not")) = true := by
        rw [decide_eq_false (fun z => (tm.nf w0 (by simp)).1 (V.str.inj z))]
        rfl
      rw [hw]
      refine ⟨_, rfl, _, rfl, ?_⟩
      refine iteT ⟨_, rfl, ?_⟩
      refine ⟨_, rfl, _, rfl, x, l, rs, w0 :: wr, rfl, R.same s1, el, tm.sk, fun H2 s2 => ⟨_, rfl, ?_⟩⟩
      rw [tm.at']
      refine iteF ?_
      refine ⟨_, rfl, _, rfl, by show 2 ≤ sizeLine; lia, fun t ht => ?_⟩
      exact q t l _ ((s1.trans s2).trans (Same.new ht)) upd_same (Same.new ht _ _ (s2 _ _ el))
    | false =>
      have el : H1 l = some (.lst ((("not" : Str) :: ws).map V.str)) := el
      have a0 : atI ((("not" : Str) :: ws).map V.str) ((0 : Nat) : Int) = some (.str "not") := atI_nat rfl
      refine ⟨_, rfl, l, _, _, _, rfl, rfl, SqL.of el, a0, rfl, ?_⟩
      have hw : (!decide (V.str "not" = V.str "not")) = false := by
        rw [decide_eq_true rfl]
        rfl
      rw [hw]
      refine ⟨_, rfl, _, rfl, ?_⟩
      refine iteF ?_
      refine ⟨_, rfl, _, rfl, l, _, rfl, SqL.of el, fun lp hlp => ?_⟩
      have elp : (upd H1 lp (.lst (cutV ((("not" : Str) :: ws).map V.str) (some 1) none))) lp = some (.lst (ws.map V.str)) := by
        rw [upd_same, show ((1 : Int)) = ((1 : Nat) : Int) from rfl, cut_from (by simp)]
        rfl
      have s2 : Same H1 (upd H1 lp (.lst (cutV ((("not" : Str) :: ws).map V.str) (some 1) none))) := Same.new hlp
      generalize (upd H1 lp (.lst (cutV ((("not" : Str) :: ws).map V.str) (some 1) none))) = H2 at elp s2 ⊢
      refine ⟨_, rfl, _, rfl, x, lp, rs, ws, rfl, R.same (s1.trans s2), elp, tm.sk, fun H3 s3 => ⟨_, rfl, ?_⟩⟩
      rw [tm.at']
      refine iteF ?_
      refine ⟨_, rfl, _, rfl, by show 2 ≤ sizeLine; lia, fun t ht => ?_⟩
      exact q t lp _ (((s1.trans s2).trans s3).trans (Same.new ht)) upd_same (Same.new ht _ _ (s3 _ _ elp))
end
end K14
namespace K14
open PySem L2 Tx Rk PyProof.Rows PySem.SeqAt
open PySem.PyData (strOk)
section
variable {P : Program} {w : World} {K : PySem.W.Frag} {mg : Str → Option Value} {base : Heap}
theorem ok_lies {f : Addr} {fd : FuncData} (F : Fun K "lies_on" "lies_on" sLiesOn f fd) (T : Bl mg) : FnOk P w K mg base CX0 1 f fd pLiesOn spLies := by
  refine F.ok scLiesOn (fun vs H Q E h => ?_) (fun cdv A outer s H vs Q E hr h => ?_)
  · obtain ⟨a, h, t, u, rfl, _⟩ := h
    rfl
  · obtain ⟨a, h, t, u, rfl, ea, sk, kt, ku, hn, q⟩ := h
    have hsl : sizeLine = 16777216 := sizeLine_eq
    have hun1 : _ + 65 < cLine := Nat.lt_of_le_of_lt (Nat.add_le_add_left (by decide : 65 ≤ 16 * 0 + 200) _) hr.un
    refine ⟨_, (pss_one (ps_ret (pe_cmpR (op_inD hun1) (pe_tup (pa_cons (pv 2) (pa_cons (pv 1) pa_nil))) (pe_lzip rfl (by rfl) T.list bt_list (by rfl) T.zip bt_zip (pa_cons (pv 0) (pa_cons (pe_slice sl_tupA (pv 0) (po_some pe_int) po_none) pa_nil))) (by rfl)))), ?_⟩
    refine ⟨_, rfl, _, rfl, by show 2 ≤ sizeLine; lia, fun p hp => ?_⟩
    have s1 : Same H (upd H p (.tup [V.str u, V.str t])) := Same.new hp
    have ep : (upd H p (.tup [V.str u, V.str t])) p = some (.tup [V.str u, V.str t]) := upd_same
    generalize upd H p (.tup [V.str u, V.str t]) = H1 at s1 ep ⊢
    have ea1 := s1 _ _ ea
    have fin : ∀ (b : Addr) (H2 : Hp), Same H1 H2 → H2 b = some (.tup (h.tail.map V.str)) → ∀ l H' rs, Same H2 H' → H2 l = none → H' l = some (.lst (rs.map V.ref)) → rs.length = (h.tail.map V.str).length → Rows2 H' (h.map V.str) (h.tail.map V.str) rs →
        rInD false (.ref p) (.ref l) H' Q := fun b H2 s2 eb l H' rs s3 fl el hl rows => by
      have hz : (h.zip h.tail).length = h.tail.length := by
        rw [List.length_zip, List.length_tail]
        lia
      refine ⟨l, _, dH [u, t], _, rfl, el, rows_rd rows (by rw [hz, hl, List.length_map]), .tup ((s2.trans s3) _ _ ep) (.cons (.str _) (.cons (.str _) .nil)), sh_dH ?_, sh_pairs ?_, ?_⟩
      · intro x hx
        (simp only [List.mem_cons, List.not_mem_nil, or_false] at hx)
        rcases hx with e | e
        · rw [e]; exact ku
        · rw [e]; exact kt
      · rintro ⟨x, y⟩ hxy
        have hm := List.of_mem_zip hxy
        exact ⟨sk x hm.1, sk y (List.mem_of_mem_tail hm.2)⟩
      · rw [adj_any, Bool.false_xor]
        exact q H' ((s1.trans s2).trans s3)
    have w1 : HT.sIx (h.map V.str).length (h.map V.str).length none = (h.map V.str).length := rfl
    refine ⟨_, rfl, _, rfl, _, rfl, a, _, rfl, SqT.of ea1, fun hw => ?_, fun hw b hb => ?_⟩
    · have h0 : h = [] := by
        have := hw.1
        rw [show ((1 : Int)) = ((1 : Nat) : Int) from rfl, HT.sIx_nat] at this
        cases h with
        | nil => rfl
        | cons y ys =>
          exfalso
          simp at this
      subst h0
      exact ⟨a, a, _, _, rfl, SqT.of ea1, SqT.of ea1, .inr ⟨rfl, rfl⟩, fun l H' rs s3 fl el hl rows => fin a H1 (Same.refl _) ea1 l H' rs s3 fl el hl rows⟩
    · have hne : h ≠ [] := fun e => by
        subst e
        exact hw ⟨rfl, rfl⟩
      have eb : (upd H1 b (.tup (cutV (h.map V.str) (some 1) none))) b = some (.tup (h.tail.map V.str)) := by
        rw [upd_same, show ((1 : Int)) = ((1 : Nat) : Int) from rfl, cut_from (by rw [List.length_map]; exact List.length_pos_iff.mpr hne), ← List.map_drop, List.drop_one]
      have s2 : Same H1 (upd H1 b (.tup (cutV (h.map V.str) (some 1) none))) := Same.new hb
      generalize upd H1 b (.tup (cutV (h.map V.str) (some 1) none)) = H2 at eb s2 ⊢
      refine ⟨a, b, _, _, rfl, SqT.of (s2 _ _ ea1), SqT.of eb, .inl ?_, fun l H' rs s3 fl el hl rows => fin b H2 s2 eb l H' rs s3 fl el hl rows⟩
      have := List.length_pos_iff.mpr hne
      rw [List.length_map, List.length_map, List.length_tail]
      lia
end
end K14
namespace K14
open PySem L2 Tx Rk PyProof.Rows PySem.SeqAt
open PySem.PyData (strOk)
section
variable {P : Program} {w : World} {K : PySem.W.Frag} {mg : Str → Option Value} {base : Heap}
theorem ok_ofthing {f C f1 f2 : Addr} {fd d1 d2 : FuncData} (F : Fun K "holds_of_thing" "holds_of_thing" sHoldsOfThing f fd) (T : Bl mg) (D_heap_in : Df K mg "heap_in" sHeapIn pHeapIn f1 d1) (G_heap_in : FnOk P w K mg base CX0 2 f1 d1 pHeapIn (spHeapIn C))
    (D_lies_on : Df K mg "lies_on" sLiesOn pLiesOn f2 d2) (G_lies_on : FnOk P w K mg base CX0 1 f2 d2 pLiesOn spLies) : FnOk P w K mg base CX0 3 f fd pHoldsOfThing (spOfThing C) := by
  refine F.ok scHoldsOfThing (fun vs H Q E h => ?_) (fun cdv A outer s H vs Q E hr2 h => ?_)
  · obtain ⟨x, l, rs, v, W, am, rfl, _⟩ := h
    rfl
  · obtain ⟨x, l, rs, v, W, am, rfl, R, el, rv, wo, ok, nf, np, q⟩ := h
    have hr1 : Room 1 _ := hr2.mono (by decide)
    have hun := hr2.units
    have hsl : sizeLine = 16777216 := sizeLine_eq
    have hlp := wo.g.fewP
    have hlh : W.heaps.length ≤ 6 := by have := wo.sz.1; lia
    have rv' := rv
    obtain ⟨c, v0, hb, cl, xs, ys, rfl, ea, r0, eb, rb, ec, rc⟩ := parts rv
    have hv0 := hand_at r0
    subst hv0
    have w0 : atI [oV W.hand, V.ref hb, V.ref cl] ((0 : Nat) : Int) = some (oV W.hand) := atI_nat rfl
    have w1 : atI [oV W.hand, V.ref hb, V.ref cl] ((1 : Nat) : Int) = some (.ref hb) := atI_nat rfl
    have hxl : xs.length = W.heaps.length := by have := rb.length; rw [List.length_map] at this; exact this
    refine ⟨_, (pss_cons (ps_set (i := 3) scHoldsOfThing.nd rfl (Or.inr rfl) (pe_ix ix_list (pv 1) pe_int (fun _ _ => rfl)))
      (pss_cons (ps_if (pt_cmpR op_eq (pe_ix ix_list (pv 1) pe_int (fun _ _ => rfl)) pe_str (nomark _)) (pss_one (ps_ret (pe_cmpR op_eq (pe_ix ix_tup (pv 2) pe_int (fun _ _ => rfl)) (pv 3) (nomark _)))) pss_nil)
      (pss_cons (ps_if (pt_cmpR op_eq (pe_ix ix_list (pv 1) pe_int (fun _ _ => rfl)) pe_str (nomark _)) (pss_one (ps_ret (pe_callB (call_any rfl) (by rfl) T.any bt_any (pa_cons (pe_lc (N := ["heap", "thing"]) (sc := defScope sHoldsOfThing) (own := ["heap"]) (fr := ["thing"]) (js := [3]) ⟨rfl, rfl, rfl, rfl, by decide +kernel, by decide +kernel, by decide +kernel, rfl, by decide +kernel⟩ rfl (pi_tup (pe_ix ix_tup (pv 2) pe_int (fun _ _ => rfl))) (fun _ _ _ _ => pg_name (i := 0) (show List.Nodup (["heap", "thing"] : List Str) by decide +kernel) rfl (Or.inl rfl)) (fun _ _ _ _ => pif_nil) (fun _ _ _ _ => (pe_cmpR (op_eqD hun) (pe_slice (sl_tupAK K rfl) (pv 0) (po_some (pe_un un_neg pe_int)) po_none) (pe_tup (pa_cons (pv 1) pa_nil)) (nomark _)))) pa_nil)))) pss_nil)
      (pss_cons (ps_if (pt_cmpR op_eq (pe_ix ix_list (pv 1) pe_int (fun _ _ => rfl)) pe_str (nomark _)) (pss_one (ps_ret (pe_cmpR op_in_seq (pv 3) (pe_call G_heap_in hr2 (by rfl) D_heap_in.m D_heap_in.F.kp D_heap_in.b .nil pass0 (pa_cons (pv 0) (pa_cons (pv 2) (pa_cons (pe_ix ix_list (pv 1) pe_int (fun _ _ => rfl)) pa_nil)))) (by rfl)))) pss_nil)
      (pss_one (ps_ret (pe_callB (call_any rfl) (by rfl) T.any bt_any (pa_cons (pe_lc (N := ["heap", "thing", "atom"]) (sc := defScope sHoldsOfThing) (own := ["heap"]) (fr := ["thing", "atom"]) (js := [3, 1]) ⟨rfl, rfl, rfl, rfl, by decide +kernel, by decide +kernel, by decide +kernel, rfl, by decide +kernel⟩ rfl (pi_tup (pe_ix ix_tup (pv 2) pe_int (fun _ _ => rfl))) (fun _ _ _ _ => pg_name (i := 0) (show List.Nodup (["heap", "thing", "atom"] : List Str) by decide +kernel) rfl (Or.inl rfl)) (fun _ _ _ _ => pif_nil) (fun _ _ _ _ => (pe_call G_lies_on hr1 (by rfl) D_lies_on.m D_lies_on.F.kp D_lies_on.b .nil pass0 (pa_cons (pv 0) (pa_cons (pv 1) (pa_cons (pe_ix (ix_listK K rfl) (pv 2) pe_int (fun _ _ => rfl)) pa_nil)))))) pa_nil)))))))), ?_⟩
    cases am with
    | free => exact absurd rfl nf
    | pl p i w' => exact absurd rfl (np p i w')
    | held t =>
      have a0 : atI [V.str t, V.str "held"] ((0 : Nat) : Int) = some (.str t) := atI_nat rfl
      have a1 : atI [V.str t, V.str "held"] ((1 : Nat) : Int) = some (.str "held") := atI_nat rfl
      refine ⟨_, rfl, l, _, _, _, rfl, rfl, SqL.of el, a0, ?_⟩
      refine ⟨_, rfl, l, _, _, _, rfl, rfl, SqL.of el, a1, rfl, _, rfl, ?_⟩
      refine iteS rfl ?_
      refine ⟨_, rfl, c, _, _, _, rfl, rfl, SqT.of ea, w0, _, rfl, by cases W.hand <;> rfl, ?_⟩
      rw [oV_eq]
      exact q H (Same.refl _)
    | top t =>
      have kt := th_sk wo.g (show t ∈ tn rs from ok)
      have a0 : atI [V.str t, V.str "top"] ((0 : Nat) : Int) = some (.str t) := atI_nat rfl
      have a1 : atI [V.str t, V.str "top"] ((1 : Nat) : Int) = some (.str "top") := atI_nat rfl
      refine ⟨_, rfl, l, _, _, _, rfl, rfl, SqL.of el, a0, ?_⟩
      refine ⟨_, rfl, l, _, _, _, rfl, rfl, SqL.of el, a1, rfl, _, rfl, ?_⟩
      refine iteN (by decide +kernel) ?_
      refine ⟨_, rfl, l, _, _, _, rfl, rfl, SqL.of el, a1, rfl, _, rfl, ?_⟩
      refine iteS rfl ?_
      refine ⟨_, rfl, c, _, _, _, rfl, rfl, SqT.of ea, w1, hb, rfl, ⟨_, SqT.of eb⟩, fun D hD => ?_⟩
      refine lcJ (n := W.heaps.length) (fun i ys H3 => ys = ((W.heaps.take i).map fun h => decide (h.getLast? = some t)).map V.bl ∧ Same H H3 ∧ H3 D = some (.lst ys)) ⟨rfl, Same.new hD, upd_same⟩
        (fun i ys H3 hi ⟨_, s3, _⟩ => ⟨_, xs[i]'(by lia), SqT.of (s3 _ _ eb), List.getElem?_eq_getElem (by lia)⟩) (fun ys H3 hh0 => by obtain ⟨_, s3, _⟩ := hh0; exact ⟨_, SqT.of (s3 _ _ eb), by lia⟩) ?_ ?_
      · rintro i ys H4 y H3 hi ⟨rfl, s3, e3⟩ ⟨rfl, hx⟩
        refine lc_yes ?_
        have hx1 := hx _ (SqT.of (s3 _ _ eb))
        obtain ⟨th, et, eh⟩ := heap_at rb (List.getElem?_eq_getElem hi)
        rw [et] at hx1
        cases hx1
        have hm : W.heaps[i] ∈ W.heaps := List.getElem_mem hi
        have eh3 := s3 _ _ eh
        have nxt : ∀ H5 : Hp, Same H3 H5 → ∃ zs, H5 D = some (.lst zs) ∧ zs.length < sizeLine ∧ (zs ++ [V.bl (decide (W.heaps[i].getLast? = some t))] = ((W.heaps.take (i + 1)).map fun h => decide (h.getLast? = some t)).map V.bl ∧ Same H (upd H5 D (.lst (zs ++ [V.bl (decide (W.heaps[i].getLast? = some t))]))) ∧ (upd H5 D (.lst (zs ++ [V.bl (decide (W.heaps[i].getLast? = some t))]))) D = some (.lst (zs ++ [V.bl (decide (W.heaps[i].getLast? = some t))]))) := fun H5 s5 => by
          refine ⟨_, s5 _ _ e3, by simp only [List.length_map, List.length_take]; lia, ?_, (s3.trans s5).put hD, upd_same⟩
          rw [List.take_succ_eq_append_getElem hi, List.map_append, List.map_append]
          rfl
        refine ⟨_, rfl, _, rfl, _, rfl, th, _, rfl, SqT.of eh3, fun hw => ?_, fun hw b hbn => ?_⟩
        · refine ⟨_, rfl, by show 1 ≤ sizeLine; lia, fun tp htp => ?_⟩
          exact eqLast (by rw [last_whole hw.1]; exact eh3) htp (wo.skh hm) kt fun H5 s5 => nxt H5 s5
        · have ebn : (upd H3 b (.tup (cutV (W.heaps[i].map V.str) (some (-1)) none))) b = some (.tup ((W.heaps[i].drop (W.heaps[i].length - 1)).map V.str)) := by rw [upd_same, last_cut hw]
          have s4 : Same H3 (upd H3 b (.tup (cutV (W.heaps[i].map V.str) (some (-1)) none))) := Same.new hbn
          generalize upd H3 b (.tup (cutV (W.heaps[i].map V.str) (some (-1)) none)) = H4 at ebn s4 ⊢
          refine ⟨_, rfl, by show 1 ≤ sizeLine; lia, fun tp htp => ?_⟩
          exact eqLast ebn htp (wo.skh hm) kt fun H5 s5 => nxt H5 (s4.trans s5)
      · rintro ys H3 ⟨rfl, s3, e3⟩
        rw [List.take_length] at e3
        refine ⟨D, _, rfl, SqL.of e3, ?_⟩
        rw [List.any_map]
        exact q H3 s3
    | isin t p i =>
      obtain ⟨okt, hi⟩ := ok
      have hil := (List.getElem?_eq_some_iff.mp hi).1
      have hih : i < W.heaps.length := by have := wo.sz.1; lia
      have a0 : atI [V.str t, V.str "in", V.str p.1] ((0 : Nat) : Int) = some (.str t) := atI_nat rfl
      have a1 : atI [V.str t, V.str "in", V.str p.1] ((1 : Nat) : Int) = some (.str "in") := atI_nat rfl
      have a2 : atI [V.str t, V.str "in", V.str p.1] ((2 : Nat) : Int) = some (.str p.1) := atI_nat rfl
      refine ⟨_, rfl, l, _, _, _, rfl, rfl, SqL.of el, a0, ?_⟩
      refine ⟨_, rfl, l, _, _, _, rfl, rfl, SqL.of el, a1, rfl, _, rfl, ?_⟩
      refine iteN (by decide +kernel) ?_
      refine ⟨_, rfl, l, _, _, _, rfl, rfl, SqL.of el, a1, rfl, _, rfl, ?_⟩
      refine iteN (by decide +kernel) ?_
      refine ⟨_, rfl, l, _, _, _, rfl, rfl, SqL.of el, a1, rfl, _, rfl, ?_⟩
      refine iteS rfl ?_
      refine ⟨_, rfl, _, rfl, _, rfl, _, rfl, l, _, _, _, rfl, rfl, SqL.of el, a2, x, rs, _, W, i, p, W.heaps[i], rfl, R, wo.g, rv', hi, List.getElem?_eq_getElem hih, fun th H1 s1 eh => ?_⟩
      refine ⟨th, _, rfl, .inr (SqT.of (s1 _ _ eh)), rfl, flat_strs _, ?_⟩
      show Q (.bl (inV (V.str t) (W.heaps[i].map V.str))) H1
      rw [inV_strs]
      have q' : Q (.bl (decide (t ∈ W.heaps.getD i []))) H1 := q H1 s1
      have e : W.heaps.getD i [] = W.heaps[i] := by simp [List.getD, hih]
      rw [e] at q'
      exact q'
    | on t u =>
      obtain ⟨okt, oku⟩ := ok
      have kt := th_sk wo.g okt
      have ku := th_sk wo.g oku
      have a0 : atI [V.str t, V.str "on", V.str u] ((0 : Nat) : Int) = some (.str t) := atI_nat rfl
      have a1 : atI [V.str t, V.str "on", V.str u] ((1 : Nat) : Int) = some (.str "on") := atI_nat rfl
      have a2 : atI [V.str t, V.str "on", V.str u] ((2 : Nat) : Int) = some (.str u) := atI_nat rfl
      refine ⟨_, rfl, l, _, _, _, rfl, rfl, SqL.of el, a0, ?_⟩
      refine ⟨_, rfl, l, _, _, _, rfl, rfl, SqL.of el, a1, rfl, _, rfl, ?_⟩
      refine iteN (by decide +kernel) ?_
      refine ⟨_, rfl, l, _, _, _, rfl, rfl, SqL.of el, a1, rfl, _, rfl, ?_⟩
      refine iteN (by decide +kernel) ?_
      refine ⟨_, rfl, l, _, _, _, rfl, rfl, SqL.of el, a1, rfl, _, rfl, ?_⟩
      refine iteN (by decide +kernel) ?_
      refine ⟨_, rfl, c, _, _, _, rfl, rfl, SqT.of ea, w1, hb, rfl, ⟨_, SqT.of eb⟩, fun D hD => ?_⟩
      refine lcJ (n := W.heaps.length) (fun i ys H3 => ys = ((W.heaps.take i).map (adj u t)).map V.bl ∧ Same H H3 ∧ H3 D = some (.lst ys)) ⟨rfl, Same.new hD, upd_same⟩
        (fun i ys H3 hi ⟨_, s3, _⟩ => ⟨_, xs[i]'(by lia), SqT.of (s3 _ _ eb), List.getElem?_eq_getElem (by lia)⟩) (fun ys H3 hh0 => by obtain ⟨_, s3, _⟩ := hh0; exact ⟨_, SqT.of (s3 _ _ eb), by lia⟩) ?_ ?_
      · rintro i ys H4 y H3 hi ⟨rfl, s3, e3⟩ ⟨rfl, hx⟩
        refine lc_yes ?_
        have hx1 := hx _ (SqT.of (s3 _ _ eb))
        obtain ⟨th, et, eh⟩ := heap_at rb (List.getElem?_eq_getElem hi)
        rw [et] at hx1
        cases hx1
        have hm : W.heaps[i] ∈ W.heaps := List.getElem_mem hi
        have eh3 := s3 _ _ eh
        refine ⟨_, rfl, _, rfl, _, rfl, l, _, _, _, rfl, rfl, SqL.of (s3 _ _ el), a2, th, W.heaps[i], t, u, rfl, eh3, wo.skh hm, kt, ku, wo.few hm, fun H5 s5 => ?_⟩
        refine ⟨_, s5 _ _ e3, by simp only [List.length_map, List.length_take]; lia, ?_, (s3.trans s5).put hD, upd_same⟩
        rw [List.take_succ_eq_append_getElem hi, List.map_append, List.map_append]
        rfl
      · rintro ys H3 ⟨rfl, s3, e3⟩
        rw [List.take_length] at e3
        refine ⟨D, _, rfl, SqL.of e3, ?_⟩
        rw [List.any_map]
        exact q H3 s3
end
end K14
namespace K14
open PySem L2 Tx Rk PyProof.Rows PySem.SeqAt
open PySem.PyData (strOk)
section
variable {P : Program} {w : World} {K : PySem.W.Frag} {mg : Str → Option Value} {base : Heap}
theorem ok_aholds {f C f1 f2 f3 f_things : Addr} {fd d1' d2' d3' d_things : FuncData} (F : Fun K "atom_holds" "atom_holds" sAtomHolds f fd) (L : Cl K C) (T : Bl mg) (b_things : Binds K d_things ["self"] []) (m_things : Meth K C "things" f_things) (G_things : FnOk P w K mg base CX0 1 f_things d_things ["self"] (spThings C))
    (D_heap_in : Df K mg "heap_in" sHeapIn pHeapIn f1 d1') (G_heap_in : FnOk P w K mg base CX0 2 f1 d1' pHeapIn (spHeapIn C)) (D_lid_on : Df K mg "lid_on" sLidOn pLidOn f2 d2') (G_lid_on : FnOk P w K mg base CX0 2 f2 d2' pLidOn (spLidOn C))
    (D_holds_of_thing : Df K mg "holds_of_thing" sHoldsOfThing pHoldsOfThing f3 d3') (G_holds_of_thing : FnOk P w K mg base CX0 3 f3 d3' pHoldsOfThing (spOfThing C)) : FnOk P w K mg base CX0 4 f fd pAtomHolds (spAHolds C) := by
  refine F.ok scAtomHolds (fun vs H Q E h => ?_) (fun cdv A outer s H vs Q E hr3 h => ?_)
  · obtain ⟨x, l, rs, v, W, am, rfl, _⟩ := h
    rfl
  · obtain ⟨x, l, rs, v, W, am, rfl, R, el, rv, wo, ok, q⟩ := h
    have hr1 : Room 1 _ := hr3.mono (by decide)
    have hr2 : Room 2 _ := hr3.mono (by decide)
    have hun := hr3.units
    have hsl : sizeLine = 16777216 := sizeLine_eq
    obtain ⟨dx, d1, d2, o, kvs, h1, h2, h3, h4⟩ := R.ex
    have rv' := rv
    obtain ⟨c, v0, hb, cl, xs, ys, rfl, ea, r0, eb, rb, ec, rc⟩ := parts rv
    have hv0 := hand_at r0
    subst hv0
    have w0 : atI [oV W.hand, V.ref hb, V.ref cl] ((0 : Nat) : Int) = some (oV W.hand) := atI_nat rfl
    refine ⟨_, (pss_cons (ps_if (pt_cmpR (op_eqL hun) (pv 1) (pe_lst (pa_cons pe_str pa_nil)) (nomark _)) (pss_one (ps_ret (pe_cmpR op_isN (pe_ix ix_tup (pv 2) pe_int (fun _ _ => rfl)) pe_non (nomark _)))) pss_nil)
      (pss_cons (ps_if (pt_cmpR op_in_seq (pe_ix ix_list (pv 1) pe_int (fun _ _ => rfl)) (pe_meth0 (pv 0) L.cl m_things G_things hr1 b_things .nil pass0) (by rfl)) (pss_one (ps_ret (pe_call G_holds_of_thing hr3 (by rfl) D_holds_of_thing.m D_holds_of_thing.F.kp D_holds_of_thing.b .nil pass0 (pa_cons (pv 0) (pa_cons (pv 1) (pa_cons (pv 2) pa_nil)))))) pss_nil)
      (pss_cons (ps_if (pt_cmpR op_eq (pe_ix ix_list (pv 1) pe_int (fun _ _ => rfl)) pe_str (nomark _)) (pss_one (ps_ret (pe_cmpR op_eq (pe_callB call_len (by rfl) T.len PySem.boot_len (pa_cons (pe_call G_heap_in hr2 (by rfl) D_heap_in.m D_heap_in.F.kp D_heap_in.b .nil pass0 (pa_cons (pv 0) (pa_cons (pv 2) (pa_cons (pe_ix ix_list (pv 1) pe_int (fun _ _ => rfl)) pa_nil)))) pa_nil)) pe_int (nomark _)))) pss_nil)
      (pss_one (ps_ret (pe_cmpR op_eq (pe_call G_lid_on hr2 (by rfl) D_lid_on.m D_lid_on.F.kp D_lid_on.b .nil pass0 (pa_cons (pv 0) (pa_cons (pv 2) (pa_cons (pe_ix ix_list (pv 1) pe_int (fun _ _ => rfl)) pa_nil)))) (pe_ix ix_list (pv 1) pe_int (fun _ _ => rfl)) (nomark _))))))), ?_⟩
    refine ⟨_, rfl, by decide, fun lf hlf => ?_⟩
    have s0 : Same H (upd H lf (.lst [V.str "free"])) := Same.new hlf
    have ef : (upd H lf (.lst [V.str "free"])) lf = some (.lst ((["free"] : List Str).map V.str)) := upd_same
    generalize upd H lf (.lst [V.str "free"]) = H0 at s0 ef ⊢
    refine ⟨l, lf, am.ws, ["free"], rfl, rfl, s0 _ _ el, ef, sh_list (Am.sks wo.g ok), sh_list (by decide +kernel), _, rfl, ?_⟩
    rw [eqv_list]
    have el0 := s0 _ _ el
    by_cases hf : am = .free
    · subst hf
      refine iteT ?_
      refine ⟨_, rfl, c, _, _, _, rfl, rfl, SqT.of (s0 _ _ ea), w0, ?_⟩
      have q' := q H0 s0
      unfold Am.tv at q'
      cases hh : W.hand with
      | none =>
        rw [hh] at q'
        exact ⟨rfl, q'⟩
      | some t =>
        rw [hh] at q'
        exact ⟨rfl, q'⟩
    · have nfr : ¬ am.ws = (["free"] : List Str) := by
        intro z
        cases am with
        | free => exact hf rfl
        | _ => simp [Am.ws] at z
      rw [decide_eq_false nfr]
      refine iteF ?_
      by_cases hp : ∃ p i w', am = .pl p i w'
      · obtain ⟨p, i, w', rfl⟩ := hp
        obtain ⟨hi, hw⟩ := ok
        have hil := (List.getElem?_eq_some_iff.mp hi).1
        have hih : i < W.heaps.length := by have := wo.sz.1; lia
        have hli : i < W.lids.length := by have := wo.sz.2; lia
        have a0 : atI [V.str p.1, V.str w'] ((0 : Nat) : Int) = some (.str p.1) := atI_nat rfl
        have a1 : atI [V.str p.1, V.str w'] ((1 : Nat) : Int) = some (.str w') := atI_nat rfl
        refine ⟨_, rfl, l, _, _, _, rfl, rfl, SqL.of el0, a0, _, rfl, x, dx, _, rfl, s0 _ _ h1, rf_no d1 d2 (by decide +kernel) (by decide +kernel), x, rs, rfl, R.same s0, fun l1 H1 s1 fl e1 => ⟨l1, _, rfl, .inl (SqL.of e1), rfl, flat_strs _, _, rfl, ?_⟩⟩
        show if inV (V.str p.1) ((tn rs).map V.str) = true then _ else _
        rw [inV_strs, decide_eq_false (two_names wo.g.nd (mem_pl hi))]
        refine iteF ?_
        have s01 := s0.trans s1
        have el1 := s1 _ _ el0
        refine ⟨_, rfl, l, _, _, _, rfl, rfl, SqL.of el1, a1, rfl, _, rfl, ?_⟩
        by_cases hbr : w' = "bare"
        · refine iteS hbr ?_
          refine ⟨_, rfl, _, rfl, _, rfl, l, _, _, _, rfl, rfl, SqL.of el1, a0, x, rs, _, W, i, p, W.heaps[i], rfl, R.same s01, wo.g, s01.rd rv', hi, List.getElem?_eq_getElem hih, fun th H2 s2 eh => ?_⟩
          refine ⟨_, _, rfl, .inr ⟨_, SqT.of (s2 _ _ eh), rfl⟩, rfl, ?_⟩
          have q' : Q (.bl (if w' = "bare" then decide (W.heaps.getD i [] = []) else decide (W.lids.getD i "" = w'))) H2 := q H2 (s01.trans s2)
          have e : W.heaps.getD i [] = W.heaps[i] := by simp [List.getD, hih]
          rw [if_pos hbr, e] at q'
          have e2 : decide (V.int ((W.heaps[i].map V.str).length : Int) = V.int 0) = decide (W.heaps[i] = []) := by
            rw [List.length_map]
            cases W.heaps[i] with
            | nil => rfl
            | cons y ys =>
              rw [decide_eq_false (List.cons_ne_nil _ _)]
              refine decide_eq_false fun z => ?_
              have := V.int.inj z
              rw [List.length_cons] at this
              lia
          rw [e2]
          exact q'
        · refine iteN hbr ?_
          refine ⟨_, rfl, _, rfl, _, rfl, l, _, _, _, rfl, rfl, SqL.of el1, a0, x, rs, _, W, i, p, W.lids[i], rfl, R.same s01, wo.g, s01.rd rv', hi, List.getElem?_eq_getElem hli, fun H2 s2 => ?_⟩
          refine ⟨_, rfl, l, _, _, _, rfl, rfl, SqL.of (s2 _ _ el1), a1, rfl, ?_⟩
          have q' : Q (.bl (if w' = "bare" then decide (W.heaps.getD i [] = []) else decide (W.lids.getD i "" = w'))) H2 := q H2 (s01.trans s2)
          have e : W.lids.getD i "" = W.lids[i] := by simp [List.getD, hli]
          rw [if_neg hbr, e] at q'
          rw [dec_s]
          exact q'
      · obtain ⟨t, ws, hws, ht⟩ : ∃ t ws, am.ws = t :: ws ∧ t ∈ tn rs := by
          cases am with
          | free => exact absurd rfl hf
          | pl p i w' => exact absurd ⟨p, i, w', rfl⟩ hp
          | isin t p i => exact ⟨t, _, rfl, ok.1⟩
          | on t u => exact ⟨t, _, rfl, ok.1⟩
          | top t => exact ⟨t, _, rfl, ok⟩
          | held t => exact ⟨t, _, rfl, ok⟩
        have a0 : atI (am.ws.map V.str) ((0 : Nat) : Int) = some (.str t) := atI_nat (by rw [hws]; rfl)
        refine ⟨_, rfl, l, _, _, _, rfl, rfl, SqL.of el0, a0, _, rfl, x, dx, _, rfl, s0 _ _ h1, rf_no d1 d2 (by decide +kernel) (by decide +kernel), x, rs, rfl, R.same s0, fun l1 H1 s1 fl e1 => ⟨l1, _, rfl, .inl (SqL.of e1), rfl, flat_strs _, _, rfl, ?_⟩⟩
        show if inV (V.str t) ((tn rs).map V.str) = true then _ else _
        rw [inV_strs, decide_eq_true ht]
        refine iteT ?_
        have s01 := s0.trans s1
        exact ⟨_, rfl, _, rfl, _, rfl, x, l, rs, _, W, am, rfl, R.same s01, s1 _ _ el0, s01.rd rv', wo, ok, hf, (fun p i w' z => hp ⟨p, i, w', z⟩), fun H2 s2 => q H2 (s01.trans s2)⟩
end
end K14
namespace K14
open PySem L2 Tx Rk PyProof.Rows PySem.SeqAt
open PySem.PyData (strOk)
section
variable {P : Program} {w : World} {K : PySem.W.Frag} {mg : Str → Option Value} {base : Heap}
theorem ok_latom {f fP : Addr} {fd dP : FuncData} (F : Fun K "_law_atom" "_law_atom" sLAtom f fd) (T : Bl mg) (D_l_pick : Df K mg "_law_pick" sPick pPick fP dP) (G_l_pick : FnOk P w K mg base CX0 1 fP dP pPick (spPick K)) : FnOk P w K mg base CX0 2 f fd pLAtom (spLAtom K) := by
  refine F.ok scLAtom (fun vs H Q E h => ?_) (fun cdv A outer s H vs Q E hr1 h => ?_)
  · obtain ⟨a, ns, k, r, rs, rfl, _⟩ := h
    rfl
  · obtain ⟨a, ns, k, r, rs, rfl, hS, hn, k0, k9, R, hp1, q⟩ := h
    have hu := hu_of hr1
    have hsl : sizeLine = 16777216 := sizeLine_eq
    have g := R.good
    obtain ⟨kvs, L3, pp, pt, d1, d2, d3, D, k1, k2, k3, k4, k5, k6, k7, g1, g2, g3, g4, g5, g6, g7⟩ := R.ex
    have lp : (((plc rs).map (·.1)).map V.str).length = (plc rs).length := by simp
    have lt : (((ths rs).map (·.1)).map V.str).length = (ths rs).length := by simp
    have atL : ∀ {xs : List Str} {ix : Int}, 0 ≤ ix → ix < ((xs.map V.str).length : Int) → ∃ n x, ((n : Nat) : Int) = ix ∧ xs[n]? = some x ∧ atI (xs.map V.str) ix = some (.str x) := fun {xs ix} h0 h1 => by
      obtain ⟨n, hn⟩ : ∃ n : Nat, (n : Int) = ix := ⟨ix.toNat, Int.toNat_of_nonneg h0⟩
      subst hn
      rw [List.length_map] at h1
      have hl : n < xs.length := by lia
      exact ⟨n, xs[n], rfl, List.getElem?_eq_getElem hl, atI_nat (by rw [List.getElem?_map, List.getElem?_eq_getElem hl]; rfl)⟩
    refine ⟨_, (pss_cons (ps_set (i := 3) scLAtom.nd rfl (Or.inl rfl) (pe_ix ix_list (pe_dget hu (pv 2) pe_str (fun _ _ => rfl)) (pe_call G_l_pick hr1 (by rfl) D_l_pick.m D_l_pick.F.kp D_l_pick.b .nil pass0 (pa_cons (pv 0) (pa_cons (pv 1) (pa_cons (pe_callB call_len (by rfl) T.len PySem.boot_len (pa_cons (pe_dget hu (pv 2) pe_str (fun _ _ => rfl)) pa_nil)) pa_nil)))) (fun _ _ => rfl)))
      (pss_cons (ps_set (i := 4) scLAtom.nd rfl (Or.inl rfl) (pe_call G_l_pick hr1 (by rfl) D_l_pick.m D_l_pick.F.kp D_l_pick.b .nil pass0 (pa_cons (pv 0) (pa_cons (pe_op op_add (pv 1) pe_int) (pa_cons pe_int pa_nil)))))
      (pss_cons (ps_if (PW.pt (pw_and (pt_cmpR op_lt (pv 4) pe_int (nomark _)) (pw_and1 (pt_cmpR op_gt (pe_callB call_len (by rfl) T.len PySem.boot_len (pa_cons (pe_dget hu (pv 2) pe_str (fun _ _ => rfl)) pa_nil)) pe_int (nomark _))))) (pss_cons (ps_set (i := 5) scLAtom.nd rfl (Or.inl rfl) (pe_ix ix_list (pe_dget hu (pv 2) pe_str (fun _ _ => rfl)) (pe_call G_l_pick hr1 (by rfl) D_l_pick.m D_l_pick.F.kp D_l_pick.b .nil pass0 (pa_cons (pv 0) (pa_cons (pe_op op_add (pv 1) pe_int) (pa_cons (pe_callB call_len (by rfl) T.len PySem.boot_len (pa_cons (pe_dget hu (pv 2) pe_str (fun _ _ => rfl)) pa_nil)) pa_nil)))) (fun _ _ => rfl)))
      (pss_cons (ps_set (i := 6) scLAtom.nd rfl (Or.inl rfl) (pe_ix ix_list (pe_dget hu (pv 2) pe_str (fun _ _ => rfl)) (pe_call G_l_pick hr1 (by rfl) D_l_pick.m D_l_pick.F.kp D_l_pick.b .nil pass0 (pa_cons (pv 0) (pa_cons (pe_op op_add (pv 1) pe_int) (pa_cons (pe_callB call_len (by rfl) T.len PySem.boot_len (pa_cons (pe_dget hu (pv 2) pe_str (fun _ _ => rfl)) pa_nil)) pa_nil)))) (fun _ _ => rfl)))
      (pss_cons (ps_set (i := 7) scLAtom.nd rfl (Or.inl rfl) (pe_lst (pa_cons (pe_lst (pa_cons (pv 5) (pa_cons pe_str (pa_cons (pv 3) pa_nil)))) (pa_cons (pe_lst (pa_cons (pv 5) (pa_cons pe_str (pa_cons (pv 6) pa_nil)))) (pa_cons (pe_lst (pa_cons (pv 5) (pa_cons pe_str pa_nil))) (pa_cons (pe_lst (pa_cons (pv 5) (pa_cons pe_str pa_nil))) (pa_cons (pe_lst (pa_cons (pv 5) (pa_cons pe_str (pa_cons (pv 5) pa_nil)))) pa_nil)))))))
      (pss_one (ps_ret (pe_ix ix_list (pv 7) (pv 4) (fun _ _ => rfl))))))) pss_nil)
      (pss_cons (ps_if (pt_cmpR op_eq (pv 4) pe_int (nomark _)) (pss_one (ps_ret (pe_lst (pa_cons pe_str pa_nil)))) pss_nil)
      (pss_one (ps_ret (pe_lst (pa_cons (pv 3) (pa_cons (pe_ix ix_list (pe_lst (pa_cons pe_str (pa_cons pe_str (pa_cons pe_str (pa_cons pe_str pa_nil))))) (pe_call G_l_pick hr1 (by rfl) D_l_pick.m D_l_pick.F.kp D_l_pick.b .nil pass0 (pa_cons (pv 0) (pa_cons (pe_op op_add (pv 1) pe_int) (pa_cons pe_int pa_nil)))) (fun _ _ => rfl)) pa_nil))))))))), ?_⟩
    refine ⟨_, rfl, r, _, rfl, dget k1 k2, _, rfl, _, rfl, _, rfl, r, _, rfl, dget k1 k2, _, _, rfl, .inl ⟨_, SqL.of g1, rfl⟩, a, ns, _, _, rfl, hS, hn, by lia, by lia, by lia, fun ix ix0 ix1 => ?_⟩
    obtain ⟨n, pnm, en, hpn, hat⟩ := atL ix0 ix1
    obtain ⟨p, hpp, ep⟩ : ∃ p, (plc rs)[n]? = some p ∧ p.1 = pnm := by
      rw [List.getElem?_map] at hpn
      cases hq : (plc rs)[n]? with
      | none => rw [hq] at hpn; cases hpn
      | some p => rw [hq] at hpn; exact ⟨p, rfl, Option.some.inj hpn⟩
    subst ep
    refine ⟨pp, _, _, _, rfl, rfl, SqL.of g1, hat, ?_⟩
    refine ⟨_, rfl, _, rfl, _, _, rfl, rfl, a, ns, _, _, rfl, hS, hn, by lia, by lia, by decide, fun wy w0 w1 => ?_⟩
    refine ⟨_, rfl, _, _, rfl, rfl, _, rfl, ?_⟩
    by_cases h5 : wy < 5
    · rw [decide_eq_true h5]
      refine iteT ?_
      refine ⟨_, rfl, r, _, rfl, dget k1 k3, _, _, rfl, .inl ⟨_, SqL.of g2, rfl⟩, _, _, rfl, rfl, _, rfl, ?_⟩
      by_cases ht0 : 0 < (ths rs).length
      · refine ite2 (fun _ => ?_) (fun z => absurd (decide_eq_true (by lia)) z)
        refine ⟨_, rfl, r, _, rfl, dget k1 k3, _, rfl, _, rfl, _, _, rfl, rfl, _, rfl, r, _, rfl, dget k1 k3, _, _, rfl, .inl ⟨_, SqL.of g2, rfl⟩, a, ns, _, _, rfl, hS, hn, by lia, by lia, by lia, fun it i0 i1 => ?_⟩
        obtain ⟨n1, t, _, ht, hat1⟩ := atL i0 i1
        refine ⟨pt, _, _, _, rfl, rfl, SqL.of g2, hat1, ?_⟩
        refine ⟨_, rfl, r, _, rfl, dget k1 k3, _, rfl, _, rfl, _, _, rfl, rfl, _, rfl, r, _, rfl, dget k1 k3, _, _, rfl, .inl ⟨_, SqL.of g2, rfl⟩, a, ns, _, _, rfl, hS, hn, by lia, by lia, by lia, fun iu j0 j1 => ?_⟩
        obtain ⟨n2, u, _, hu2, hat2⟩ := atL j0 j1
        refine ⟨pt, _, _, _, rfl, rfl, SqL.of g2, hat2, ?_⟩
        have okt : t ∈ tn rs := List.mem_of_getElem? ht
        have oku : u ∈ tn rs := List.mem_of_getElem? hu2
        have b3 : 3 ≤ sizeLine := by lia
        have b2 : 2 ≤ sizeLine := by lia
        have b5 : 5 ≤ sizeLine := by lia
        refine ⟨_, rfl, _, rfl, b3, fun l1 hl1 => ?_⟩
        have s1 : Same H (upd H l1 (.lst [V.str t, V.str "in", V.str p.1])) := Same.new hl1
        have e1 : (upd H l1 (.lst [V.str t, V.str "in", V.str p.1])) l1 = some (.lst ((Am.isin t p n).ws.map V.str)) := upd_same
        generalize upd H l1 (.lst [V.str t, V.str "in", V.str p.1]) = H1 at s1 e1 ⊢
        refine ⟨_, rfl, _, rfl, b3, fun l2 hl2 => ?_⟩
        have s2 : Same H1 (upd H1 l2 (.lst [V.str t, V.str "on", V.str u])) := Same.new hl2
        have e2 : (upd H1 l2 (.lst [V.str t, V.str "on", V.str u])) l2 = some (.lst ((Am.on t u).ws.map V.str)) := upd_same
        generalize upd H1 l2 (.lst [V.str t, V.str "on", V.str u]) = H2 at s2 e2 ⊢
        refine ⟨_, rfl, b2, fun l3 hl3 => ?_⟩
        have s3 : Same H2 (upd H2 l3 (.lst [V.str t, V.str "top"])) := Same.new hl3
        have e3 : (upd H2 l3 (.lst [V.str t, V.str "top"])) l3 = some (.lst ((Am.top t).ws.map V.str)) := upd_same
        generalize upd H2 l3 (.lst [V.str t, V.str "top"]) = H3 at s3 e3 ⊢
        refine ⟨_, rfl, b2, fun l4 hl4 => ?_⟩
        have s4 : Same H3 (upd H3 l4 (.lst [V.str t, V.str "held"])) := Same.new hl4
        have e4 : (upd H3 l4 (.lst [V.str t, V.str "held"])) l4 = some (.lst ((Am.held t).ws.map V.str)) := upd_same
        generalize upd H3 l4 (.lst [V.str t, V.str "held"]) = H4 at s4 e4 ⊢
        refine ⟨_, rfl, _, rfl, b3, fun l5 hl5 => ?_⟩
        have s5 : Same H4 (upd H4 l5 (.lst [V.str t, V.str "on", V.str t])) := Same.new hl5
        have e5 : (upd H4 l5 (.lst [V.str t, V.str "on", V.str t])) l5 = some (.lst ((Am.on t t).ws.map V.str)) := upd_same
        generalize upd H4 l5 (.lst [V.str t, V.str "on", V.str t]) = H5 at s5 e5 ⊢
        refine ⟨b5, fun l6 hl6 => ?_⟩
        have s6 : Same H5 (upd H5 l6 (.lst [V.ref l1, V.ref l2, V.ref l3, V.ref l4, V.ref l5])) := Same.new hl6
        have e6 : (upd H5 l6 (.lst [V.ref l1, V.ref l2, V.ref l3, V.ref l4, V.ref l5])) l6 = some (.lst [V.ref l1, V.ref l2, V.ref l3, V.ref l4, V.ref l5]) := upd_same
        generalize upd H5 l6 (.lst [V.ref l1, V.ref l2, V.ref l3, V.ref l4, V.ref l5]) = H6 at s6 e6 ⊢
        have s46 := s5.trans s6
        have s36 := s4.trans s46
        have s26 := s3.trans s36
        have s16 := s2.trans s26
        have s06 := s1.trans s16
        have fin : ∀ (j : Nat) (lj : Addr) (am : Am), wy = (j : Int) → [V.ref l1, V.ref l2, V.ref l3, V.ref l4, V.ref l5][j]? = some (.ref lj) → am.ok rs → H6 lj = some (.lst (am.ws.map V.str)) → ∃ vv, atI [V.ref l1, V.ref l2, V.ref l3, V.ref l4, V.ref l5] wy = some vv ∧ Q vv H6 := fun j lj am e1 e2 ok el => by
          rw [e1]
          exact ⟨_, atI_nat e2, q lj am H6 s06 ok el⟩
        have fin' : ∃ vv, atI [V.ref l1, V.ref l2, V.ref l3, V.ref l4, V.ref l5] wy = some vv ∧ Q vv H6 := by
          rcases (by lia : wy = 0 ∨ wy = 1 ∨ wy = 2 ∨ wy = 3 ∨ wy = 4) with e | e | e | e | e
          · exact fin 0 l1 (.isin t p n) e rfl ⟨okt, hpp⟩ (s16 _ _ e1)
          · exact fin 1 l2 (.on t u) e rfl ⟨okt, oku⟩ (s26 _ _ e2)
          · exact fin 2 l3 (.top t) e rfl okt (s36 _ _ e3)
          · exact fin 3 l4 (.held t) e rfl okt (s46 _ _ e4)
          · exact fin 4 l5 (.on t t) e rfl ⟨okt, okt⟩ (s6 _ _ e5)
        obtain ⟨vv, f1, f2⟩ := fin'
        exact ⟨_, rfl, _, rfl, l6, _, _, _, rfl, rfl, SqL.of e6, f1, f2⟩
      · refine ite2 (fun z => ?_) (fun _ => ?_)
        · exfalso
          have := of_decide_eq_true z
          lia
        · skip
          refine ⟨_, rfl, rfl, _, rfl, ?_⟩
          by_cases h8 : wy = 8
          · subst h8
            refine iteT ?_
            exact ⟨by show 1 ≤ sizeLine; lia, fun l hl => q l .free _ (Same.new hl) trivial upd_same⟩
          · refine ite2 (fun z => absurd (V.int.inj (of_decide_eq_true z)) h8) (fun _ => ?_)
            refine ⟨_, rfl, by show 4 ≤ sizeLine; lia, fun l0 hl0 => ?_⟩
            have s0 : Same H (upd H l0 (.lst [V.str "open", V.str "shut", V.str "locked", V.str "bare"])) := Same.new hl0
            have e0 : (upd H l0 (.lst [V.str "open", V.str "shut", V.str "locked", V.str "bare"])) l0 = some (.lst (plW.map V.str)) := upd_same
            generalize upd H l0 (.lst [V.str "open", V.str "shut", V.str "locked", V.str "bare"]) = H0 at s0 e0 ⊢
            refine ⟨_, rfl, _, rfl, _, _, rfl, rfl, a, ns, _, _, rfl, s0.seq hS, hn, by lia, by lia, by decide, fun j j0 j1 => ?_⟩
            obtain ⟨n3, w', _, hw3, hat3⟩ := atL (xs := plW) j0 (by rw [List.length_map]; exact j1)
            refine ⟨l0, _, _, _, rfl, rfl, SqL.of e0, hat3, by show 2 ≤ sizeLine; lia, fun l hl => ?_⟩
            exact q l (.pl p n w') _ (s0.trans (Same.new hl)) ⟨hpp, List.mem_of_getElem? hw3⟩ upd_same
    · rw [decide_eq_false h5]
      refine iteF (iteF ?_)
      refine ⟨_, rfl, rfl, _, rfl, ?_⟩
      by_cases h8 : wy = 8
      · subst h8
        refine iteT ?_
        exact ⟨by show 1 ≤ sizeLine; lia, fun l hl => q l .free _ (Same.new hl) trivial upd_same⟩
      · refine ite2 (fun z => absurd (V.int.inj (of_decide_eq_true z)) h8) (fun _ => ?_)
        refine ⟨_, rfl, by show 4 ≤ sizeLine; lia, fun l0 hl0 => ?_⟩
        have s0 : Same H (upd H l0 (.lst [V.str "open", V.str "shut", V.str "locked", V.str "bare"])) := Same.new hl0
        have e0 : (upd H l0 (.lst [V.str "open", V.str "shut", V.str "locked", V.str "bare"])) l0 = some (.lst (plW.map V.str)) := upd_same
        generalize upd H l0 (.lst [V.str "open", V.str "shut", V.str "locked", V.str "bare"]) = H0 at s0 e0 ⊢
        refine ⟨_, rfl, _, rfl, _, _, rfl, rfl, a, ns, _, _, rfl, s0.seq hS, hn, by lia, by lia, by decide, fun j j0 j1 => ?_⟩
        obtain ⟨n3, w', _, hw3, hat3⟩ := atL (xs := plW) j0 (by rw [List.length_map]; exact j1)
        refine ⟨l0, _, _, _, rfl, rfl, SqL.of e0, hat3, by show 2 ≤ sizeLine; lia, fun l hl => ?_⟩
        exact q l (.pl p n w') _ (s0.trans (Same.new hl)) ⟨hpp, List.mem_of_getElem? hw3⟩ upd_same
end
end K14
namespace K14
open PySem L2 Tx Rk PyProof.Rows PySem.SeqAt
open PySem.PyData (strOk)
section
variable {P : Program} {w : World} {K : PySem.W.Frag} {mg : Str → Option Value} {base : Heap}
theorem ok_lstands {f : Addr} {fd : FuncData} (F : Fun K "_law_stands" "_law_stands" sLStands f fd) (T : Bl mg) : FnOk P w K mg base CX0 1 f fd pLStands spLStands := by
  refine F.ok scLStands (fun vs H Q E h => ?_) (fun cdv A outer s H vs Q E hr h => ?_)
  · obtain ⟨l, rs, v, W, am, t, rfl, _⟩ := h
    rfl
  · obtain ⟨l, rs, v, W, am, t, rfl, el, rv, wo, ham, q⟩ := h
    have hsl : sizeLine = 16777216 := sizeLine_eq
    obtain ⟨c, v0, hb, cl, xs, ys, rfl, ea, r0, eb, rb, ec, rc⟩ := parts rv
    have w1 : atI [v0, V.ref hb, V.ref cl] ((1 : Nat) : Int) = some (.ref hb) := atI_nat rfl
    have hxl : xs.length = W.heaps.length := by have := rb.length; rw [List.length_map] at this; exact this
    refine ⟨_, (pss_cons (ps_for PassesOwn.never rfl (pi_tup (pe_ix ix_tup (pv 1) pe_int (fun _ _ => rfl))) (pg_name (i := 2) scLStands.nd rfl (Or.inl rfl))
        (pss_one (ps_if (pt_cmpR op_in_seq (pe_ix ix_list (pv 0) pe_int (fun _ _ => rfl)) (pv 2) (by rfl)) (pss_cons (ps_if (pt_cmpR op_eq (pe_ix ix_list (pv 0) pe_int (fun _ _ => rfl)) pe_str (nomark _)) (pss_one (ps_ret (pe_cmpR op_eq (pe_ix ix_tup (pv 2) (pe_op op_sub (pe_callB call_len (by rfl) T.len PySem.boot_len (pa_cons (pv 2) pa_nil)) pe_int) (fun _ _ => rfl)) (pe_ix ix_list (pv 0) pe_int (fun _ _ => rfl)) (nomark _)))) pss_nil)
      (pss_one (ps_for PassesOwn.never rfl (pi_range2 (by rfl) T.range (pa_cons pe_int (pa_cons (pe_callB call_len (by rfl) T.len PySem.boot_len (pa_cons (pv 2) pa_nil)) pa_nil))) (pg_name (i := 3) scLStands.nd rfl (Or.inl rfl))
        (pss_one (ps_if (pt_cmpR op_eq (pe_ix ix_tup (pv 2) (pv 3) (fun _ _ => rfl)) (pe_ix ix_list (pv 0) pe_int (fun _ _ => rfl)) (nomark _)) (pss_one (ps_ret (pe_cmpR op_eq (pe_ix ix_tup (pv 2) (pe_op op_sub (pv 3) pe_int) (fun _ _ => rfl)) (pe_ix ix_list (pv 0) pe_int (fun _ _ => rfl)) (nomark _)))) pss_nil))))) pss_nil)))
      (pss_one (ps_ret pe_bl))), ?_⟩
    refine ⟨_, rfl, c, _, _, _, rfl, rfl, SqT.of ea, w1, hb, rfl, ⟨_, SqT.of eb⟩, ?_⟩
    rcases ham with rfl | ⟨u, rfl⟩
    · have a0 : atI [V.str t, V.str "top"] ((0 : Nat) : Int) = some (.str t) := atI_nat rfl
      have a1 : atI [V.str t, V.str "top"] ((1 : Nat) : Int) = some (.str "top") := atI_nat rfl
      refine for_tup (K := K) (a := hb) (xs := xs) (fun j σ H5 => ∃ v2 v3 : Option V, σ = [some (.ref l), some (.ref c), v2, v3] ∧ H5 = H ∧ ∀ h ∈ W.heaps.take j, t ∉ h) ⟨none, none, rfl, rfl, fun h z => by rw [List.take_zero] at z; cases z⟩ (fun j σ H5 _ hh0 => by obtain ⟨_, _, _, e, _⟩ := hh0; rw [e]; exact SqT.of eb) ?_ ?_
      · rintro i x σ H5 hx ⟨v2, v3, rfl, rfl, hno⟩
        have hi : i < W.heaps.length := by have := (List.getElem?_eq_some_iff.mp hx).1; lia
        obtain ⟨th, et, eh⟩ := heap_at rb (List.getElem?_eq_getElem hi)
        rw [et] at hx
        cases hx
        have hm : W.heaps[i] ∈ W.heaps := List.getElem_mem hi
        have few := wo.few hm
        refine ⟨_, rfl, l, _, _, _, rfl, rfl, SqL.of el, a0, _, rfl, th, _, rfl, .inr (SqT.of eh), rfl, flat_strs _, _, rfl, ?_⟩
        show if inV (V.str t) (W.heaps[i].map V.str) = true then _ else _
        rw [inV_strs]
        by_cases ht : t ∈ W.heaps[i]
        · rw [decide_eq_true ht]
          refine iteT ?_
          refine ⟨_, rfl, l, _, _, _, rfl, rfl, SqL.of el, a1, rfl, _, rfl, ?_⟩
          refine iteS rfl ?_
          obtain ⟨y, hy⟩ : ∃ y, W.heaps[i].getLast? = some y := by
            cases hq : W.heaps[i].getLast? with
            | none => rw [List.getLast?_eq_none_iff] at hq; rw [hq] at ht; cases ht
            | some y => exact ⟨y, rfl⟩
          have hne : W.heaps[i] ≠ [] := fun e => by rw [e] at ht; cases ht
          have hpos := List.length_pos_iff.mpr hne
          have hat : atI (W.heaps[i].map V.str) (((W.heaps[i].map V.str).length : Int) - 1) = some (.str y) := by
            have e1 : (((W.heaps[i].map V.str).length : Int) - 1) = (((W.heaps[i].length - 1 : Nat)) : Int) := by rw [List.length_map]; lia
            rw [e1]
            refine atI_nat ?_
            rw [List.getElem?_map, ← List.getLast?_eq_getElem?, hy]
            rfl
          refine ⟨_, rfl, _, rfl, _, _, rfl, .inr ⟨_, SqT.of eh, rfl⟩, _, _, rfl, rfl, th, _, _, _, rfl, rfl, SqT.of eh, hat, _, rfl, l, _, _, _, rfl, rfl, SqL.of el, a0, rfl, ?_⟩
          rw [dec_s]
          have q' : Q (.bl (W.heaps.any fun h => decide (h.getLast? = some t))) H5 := q
          rw [top_at wo hm ht, hy] at q'
          have e : decide (some y = some t) = decide (y = t) := by simp
          rw [e] at q'
          exact q'
        · rw [decide_eq_false ht]
          refine iteF ?_
          refine ⟨_, _, rfl, rfl, fun h z => ?_⟩
          rw [List.take_succ_eq_append_getElem hi] at z
          rcases List.mem_append.mp z with z | z
          · exact hno h z
          · rw [List.mem_singleton.mp z]; exact ht
      · rintro σ H5 ⟨v2, v3, rfl, rfl, hno⟩
        rw [hxl, List.take_length] at hno
        have q' : Q (.bl (W.heaps.any fun h => decide (h.getLast? = some t))) H5 := q
        rw [top_no hno] at q'
        exact q'
    · have a0 : atI [V.str t, V.str "on", V.str u] ((0 : Nat) : Int) = some (.str t) := atI_nat rfl
      have a1 : atI [V.str t, V.str "on", V.str u] ((1 : Nat) : Int) = some (.str "on") := atI_nat rfl
      have a2 : atI [V.str t, V.str "on", V.str u] ((2 : Nat) : Int) = some (.str u) := atI_nat rfl
      refine for_tup (K := K) (a := hb) (xs := xs) (fun j σ H5 => ∃ v2 v3 : Option V, σ = [some (.ref l), some (.ref c), v2, v3] ∧ H5 = H ∧ ∀ h ∈ W.heaps.take j, ∀ k, h[k + 1]? ≠ some t) ⟨none, none, rfl, rfl, fun h z => by rw [List.take_zero] at z; cases z⟩ (fun j σ H5 _ hh0 => by obtain ⟨_, _, _, e, _⟩ := hh0; rw [e]; exact SqT.of eb) ?_ ?_
      · rintro i x σ H5 hx ⟨v2, v3, rfl, rfl, hno⟩
        have hi : i < W.heaps.length := by have := (List.getElem?_eq_some_iff.mp hx).1; lia
        obtain ⟨th, et, eh⟩ := heap_at rb (List.getElem?_eq_getElem hi)
        rw [et] at hx
        cases hx
        have hm : W.heaps[i] ∈ W.heaps := List.getElem_mem hi
        have few := wo.few hm
        have nxt : (∀ k, W.heaps[i][k + 1]? ≠ some t) → ∀ h ∈ W.heaps.take (i + 1), ∀ k, h[k + 1]? ≠ some t := fun hk h z => by
          rw [List.take_succ_eq_append_getElem hi] at z
          rcases List.mem_append.mp z with z | z
          · exact hno h z
          · rw [List.mem_singleton.mp z]; exact hk
        refine ⟨_, rfl, l, _, _, _, rfl, rfl, SqL.of el, a0, _, rfl, th, _, rfl, .inr (SqT.of eh), rfl, flat_strs _, _, rfl, ?_⟩
        show if inV (V.str t) (W.heaps[i].map V.str) = true then _ else _
        rw [inV_strs]
        by_cases ht : t ∈ W.heaps[i]
        · rw [decide_eq_true ht]
          refine iteT ?_
          refine ⟨_, rfl, l, _, _, _, rfl, rfl, SqL.of el, a1, rfl, _, rfl, ?_⟩
          refine iteN (by decide +kernel) ?_
          have hlm : ((W.heaps[i].map V.str).length : Int) = (W.heaps[i].length : Int) := by rw [List.length_map]
          refine ⟨_, rfl, _, _, rfl, .inr ⟨_, SqT.of eh, rfl⟩, _, _, rfl, ⟨by decide, by decide, by lia, by lia⟩, ?_⟩
          refine for_range (n := (((W.heaps[i].map V.str).length : Int) - 1).toNat) (fun m σ H6 => ∃ v3 : Option V, σ = [some (.ref l), some (.ref c), some (.ref th), v3] ∧ H6 = H5 ∧ ∀ k, k < m → W.heaps[i][k + 1]? ≠ some t) ⟨v3, rfl, rfl, fun k z => absurd z (Nat.not_lt_zero _)⟩ ?_ ?_
          · rintro m σ H6 hmn ⟨v4, rfl, rfl, hk⟩
            have hm1 : m + 1 < W.heaps[i].length := by lia
            have hat : atI (W.heaps[i].map V.str) (1 + (m : Int)) = some (.str (W.heaps[i][m + 1])) := by
              rw [show (1 + (m : Int)) = ((m + 1 : Nat) : Int) by lia]
              exact atI_nat (by rw [List.getElem?_map, List.getElem?_eq_getElem hm1]; rfl)
            refine ⟨_, rfl, _, rfl, th, _, _, _, rfl, rfl, SqT.of eh, hat, _, rfl, l, _, _, _, rfl, rfl, SqL.of el, a0, rfl, _, rfl, ?_⟩
            by_cases he : W.heaps[i][m + 1] = t
            · refine iteS he ?_
              have hm0 : m < W.heaps[i].length := by lia
              have hat' : atI (W.heaps[i].map V.str) (1 + (m : Int) - 1) = some (.str (W.heaps[i][m])) := by
                rw [show (1 + (m : Int) - 1) = ((m : Nat) : Int) by lia]
                exact atI_nat (by rw [List.getElem?_map, List.getElem?_eq_getElem hm0]; rfl)
              refine ⟨_, rfl, _, rfl, _, _, rfl, rfl, th, _, _, _, rfl, rfl, SqT.of eh, hat', _, rfl, l, _, _, _, rfl, rfl, SqL.of el, a2, rfl, ?_⟩
              rw [dec_s]
              have q' : Q (.bl (W.heaps.any (adj u t))) H6 := q
              rw [on_at wo hm (by rw [List.getElem?_eq_getElem hm1, he]) (List.getElem?_eq_getElem hm0)] at q'
              exact q'
            · refine iteN he ?_
              refine ⟨_, rfl, rfl, fun k hk' => ?_⟩
              rcases Nat.lt_or_ge k m with z | z
              · exact hk k z
              · have : k = m := by lia
                subst this
                rw [List.getElem?_eq_getElem hm1]
                exact fun z => he (Option.some.inj z)
          · rintro σ H6 ⟨v4, rfl, rfl, hk⟩
            refine ⟨_, _, rfl, rfl, nxt fun k z => ?_⟩
            have hlt := (List.getElem?_eq_some_iff.mp z).1
            exact hk k (by lia) z
        · rw [decide_eq_false ht]
          refine iteF ?_
          exact ⟨_, _, rfl, rfl, nxt fun k z => ht (List.mem_of_getElem? z)⟩
      · rintro σ H5 ⟨v2, v3, rfl, rfl, hno⟩
        rw [hxl, List.take_length] at hno
        have q' : Q (.bl (W.heaps.any (adj u t))) H5 := q
        rw [on_no hno] at q'
        exact q'
end
end K14
namespace K14
open PySem L2 Tx Rk PyProof.Rows PySem.SeqAt
open PySem.PyData (strOk)
section
variable {P : Program} {w : World} {K : PySem.W.Frag} {mg : Str → Option Value} {base : Heap}
theorem ok_lholds {f f1 : Addr} {fd d1' : FuncData} (F : Fun K "_law_atom_holds" "_law_atom_holds" sLAtomHolds f fd) (T : Bl mg) (D_l_stands : Df K mg "_law_stands" sLStands pLStands f1 d1') (G_l_stands : FnOk P w K mg base CX0 1 f1 d1' pLStands spLStands) : FnOk P w K mg base CX0 2 f fd pLAtomHolds spLHolds := by
  refine F.ok scLAtomHolds (fun vs H Q E h => ?_) (fun cdv A outer s H vs Q E hr1 h => ?_)
  · obtain ⟨r, l, rs, v, W, am, rfl, _⟩ := h
    rfl
  · obtain ⟨r, l, rs, v, W, am, rfl, R, el, rv, wo, ok, q⟩ := h
    have hu := hu_of hr1
    have hun := hr1.units
    have hsl : sizeLine = 16777216 := sizeLine_eq
    obtain ⟨kvs, L3, pp, pt, d1, d2, d3, D, k1, k2, k3, k4, k5, k6, k7, g1, g2, g3, g4, g5, g6, g7⟩ := R.ex
    have rv' := rv
    obtain ⟨c, v0, hb, cl, xs, ys, rfl, ea, r0, eb, rb, ec, rc⟩ := parts rv
    have hv0 := hand_at r0
    subst hv0
    have hys := rds_str rc
    subst hys
    have w0 : atI [oV W.hand, V.ref hb, V.ref cl] ((0 : Nat) : Int) = some (oV W.hand) := atI_nat rfl
    have w1 : atI [oV W.hand, V.ref hb, V.ref cl] ((1 : Nat) : Int) = some (.ref hb) := atI_nat rfl
    have w2 : atI [oV W.hand, V.ref hb, V.ref cl] ((2 : Nat) : Int) = some (.ref cl) := atI_nat rfl
    refine ⟨_, (pss_cons (ps_if (pt_cmpR (op_eqL hun) (pv 1) (pe_lst (pa_cons pe_str pa_nil)) (nomark _)) (pss_one (ps_ret (pe_cmpR op_isN (pe_ix ix_tup (pv 2) pe_int (fun _ _ => rfl)) pe_non (nomark _)))) pss_nil)
      (pss_cons (ps_if (pt_cmpR op_eq (pe_ix ix_list (pv 1) pe_int (fun _ _ => rfl)) pe_str (nomark _)) (pss_one (ps_ret (pe_cmpR op_eq (pe_ix ix_tup (pv 2) pe_int (fun _ _ => rfl)) (pe_ix ix_list (pv 1) pe_int (fun _ _ => rfl)) (nomark _)))) pss_nil)
      (pss_cons (ps_if (PW.pt (pw_or (pt_cmpR op_eq (pe_ix ix_list (pv 1) pe_int (fun _ _ => rfl)) pe_str (nomark _)) (pw_or1 (pt_cmpR op_eq (pe_ix ix_list (pv 1) pe_int (fun _ _ => rfl)) pe_str (nomark _))))) (pss_one (ps_ret (pe_call G_l_stands hr1 (by rfl) D_l_stands.m D_l_stands.F.kp D_l_stands.b .nil pass0 (pa_cons (pv 1) (pa_cons (pv 2) pa_nil))))) pss_nil)
      (pss_cons (ps_if (pt_cmpR op_eq (pe_ix ix_list (pv 1) pe_int (fun _ _ => rfl)) pe_str (nomark _)) (pss_one (ps_ret (pe_cmpR op_in_seq (pe_ix ix_list (pv 1) pe_int (fun _ _ => rfl)) (pe_ix ix_tup (pe_ix ix_tup (pv 2) pe_int (fun _ _ => rfl)) (pe_bm PySem.F.plainAttrs_list PySem.F.slot_list_index PySem.F.type_list_index mt_index (pe_dget hu (pv 0) pe_str (fun _ _ => rfl)) (pa_cons (pe_ix ix_list (pv 1) pe_int (fun _ _ => rfl)) pa_nil)) (fun _ _ => rfl)) (by rfl)))) pss_nil)
      (pss_cons (ps_set (i := 3) scLAtomHolds.nd rfl (Or.inl rfl) (pe_bm PySem.F.plainAttrs_list PySem.F.slot_list_index PySem.F.type_list_index mt_index (pe_dget hu (pv 0) pe_str (fun _ _ => rfl)) (pa_cons (pe_ix ix_list (pv 1) pe_int (fun _ _ => rfl)) pa_nil)))
      (pss_cons (ps_if (pt_cmpR op_eq (pe_ix ix_list (pv 1) pe_int (fun _ _ => rfl)) pe_str (nomark _)) (pss_one (ps_ret (pe_cmpR op_eq (pe_callB call_len (by rfl) T.len PySem.boot_len (pa_cons (pe_ix ix_tup (pe_ix ix_tup (pv 2) pe_int (fun _ _ => rfl)) (pv 3) (fun _ _ => rfl)) pa_nil)) pe_int (nomark _)))) pss_nil)
      (pss_one (ps_ret (pe_cmpR op_eq (pe_ix ix_tup (pe_ix ix_tup (pv 2) pe_int (fun _ _ => rfl)) (pv 3) (fun _ _ => rfl)) (pe_ix ix_list (pv 1) pe_int (fun _ _ => rfl)) (nomark _)))))))))), ?_⟩
    refine ⟨_, rfl, by decide, fun lf hlf => ?_⟩
    have s0 : Same H (upd H lf (.lst [V.str "free"])) := Same.new hlf
    have ef : (upd H lf (.lst [V.str "free"])) lf = some (.lst ((["free"] : List Str).map V.str)) := upd_same
    generalize upd H lf (.lst [V.str "free"]) = H0 at s0 ef ⊢
    refine ⟨l, lf, am.ws, ["free"], rfl, rfl, s0 _ _ el, ef, sh_list (Am.sks wo.g ok), sh_list (by decide +kernel), _, rfl, ?_⟩
    rw [eqv_list]
    have el0 := s0 _ _ el
    have ea0 := s0 _ _ ea
    have eb0 := s0 _ _ eb
    have ec0 := s0 _ _ ec
    have k10 := s0 _ _ k1
    have g10 := s0 _ _ g1
    have rv0 := s0.rd rv'
    by_cases hf : am = .free
    · subst hf
      refine iteT ?_
      refine ⟨_, rfl, c, _, _, _, rfl, rfl, SqT.of ea0, w0, ?_⟩
      have q' := q H0 s0
      unfold Am.tv at q'
      cases hh : W.hand with
      | none =>
        rw [hh] at q'
        exact ⟨rfl, q'⟩
      | some t =>
        rw [hh] at q'
        exact ⟨rfl, q'⟩
    · have nfr : ¬ am.ws = (["free"] : List Str) := by
        intro z
        cases am with
        | free => exact hf rfl
        | _ => simp [Am.ws] at z
      rw [decide_eq_false nfr]
      refine iteF ?_
      cases am with
      | free => exact absurd rfl hf
      | held t =>
        have a0 : atI [V.str t, V.str "held"] ((0 : Nat) : Int) = some (.str t) := atI_nat rfl
        have a1 : atI [V.str t, V.str "held"] ((1 : Nat) : Int) = some (.str "held") := atI_nat rfl
        refine ⟨_, rfl, l, _, _, _, rfl, rfl, SqL.of el0, a1, rfl, _, rfl, ?_⟩
        refine iteS rfl ?_
        refine ⟨_, rfl, c, _, _, _, rfl, rfl, SqT.of ea0, w0, _, rfl, l, _, _, _, rfl, rfl, SqL.of el0, a0, by cases W.hand <;> rfl, ?_⟩
        rw [oV_eq]
        exact q H0 s0
      | top t =>
        have a1 : atI [V.str t, V.str "top"] ((1 : Nat) : Int) = some (.str "top") := atI_nat rfl
        refine ⟨_, rfl, l, _, _, _, rfl, rfl, SqL.of el0, a1, rfl, _, rfl, ?_⟩
        refine iteN (by decide +kernel) ?_
        refine ⟨_, rfl, l, _, _, _, rfl, rfl, SqL.of el0, a1, rfl, _, rfl, ?_⟩
        refine iteS rfl (iteT ?_)
        exact ⟨_, rfl, _, rfl, l, rs, _, W, .top t, t, rfl, el0, rv0, wo, .inl rfl, q H0 s0⟩
      | on t u =>
        have a1 : atI [V.str t, V.str "on", V.str u] ((1 : Nat) : Int) = some (.str "on") := atI_nat rfl
        refine ⟨_, rfl, l, _, _, _, rfl, rfl, SqL.of el0, a1, rfl, _, rfl, ?_⟩
        refine iteN (by decide +kernel) ?_
        refine ⟨_, rfl, l, _, _, _, rfl, rfl, SqL.of el0, a1, rfl, _, rfl, ?_⟩
        refine iteN (by decide +kernel) ?_
        refine ⟨_, rfl, l, _, _, _, rfl, rfl, SqL.of el0, a1, rfl, _, rfl, ?_⟩
        refine iteS rfl ?_
        exact ⟨_, rfl, _, rfl, l, rs, _, W, .on t u, t, rfl, el0, rv0, wo, .inr ⟨u, rfl⟩, q H0 s0⟩
      | isin t p i =>
        obtain ⟨okt, hi⟩ := ok
        have hil := (List.getElem?_eq_some_iff.mp hi).1
        have hih : i < W.heaps.length := by have := wo.sz.1; lia
        obtain ⟨th, et, eh⟩ := heap_at rb (List.getElem?_eq_getElem hih)
        have hpi : (pn rs)[i]? = some p.1 := by rw [List.getElem?_map, hi]; rfl
        have a0 : atI [V.str t, V.str "in", V.str p.1] ((0 : Nat) : Int) = some (.str t) := atI_nat rfl
        have a1 : atI [V.str t, V.str "in", V.str p.1] ((1 : Nat) : Int) = some (.str "in") := atI_nat rfl
        have a2 : atI [V.str t, V.str "in", V.str p.1] ((2 : Nat) : Int) = some (.str p.1) := atI_nat rfl
        refine ⟨_, rfl, l, _, _, _, rfl, rfl, SqL.of el0, a1, rfl, _, rfl, ?_⟩
        refine iteN (by decide +kernel) ?_
        refine ⟨_, rfl, l, _, _, _, rfl, rfl, SqL.of el0, a1, rfl, _, rfl, ?_⟩
        refine iteN (by decide +kernel) ?_
        refine ⟨_, rfl, l, _, _, _, rfl, rfl, SqL.of el0, a1, rfl, _, rfl, ?_⟩
        refine iteN (by decide +kernel) ?_
        refine ⟨_, rfl, l, _, _, _, rfl, rfl, SqL.of el0, a1, rfl, _, rfl, ?_⟩
        refine iteS rfl ?_
        refine ⟨_, rfl, l, _, _, _, rfl, rfl, SqL.of el0, a0, _, rfl, c, _, _, _, rfl, rfl, SqT.of ea0, w1, _, rfl, r, _, rfl, dget k10 k2, .inl ⟨rfl, _, SqL.of g10⟩, _, rfl, l, _, _, _, rfl, rfl, SqL.of el0, a2, pp, _, _, i, rfl, rfl, g10, hpi, at_idx wo.g.ndP hpi, hb, _, _, _, rfl, rfl, SqT.of eb0, atI_nat et, th, _, rfl, .inr (SqT.of (s0 _ _ eh)), rfl, flat_strs _, ?_⟩
        show Q (.bl (inV (V.str t) (W.heaps[i].map V.str))) H0
        rw [inV_strs]
        have q' : Q (.bl (decide (t ∈ W.heaps.getD i []))) H0 := q H0 s0
        have e : W.heaps.getD i [] = W.heaps[i] := by simp [List.getD, hih]
        rw [e] at q'
        exact q'
      | pl p i w' =>
        obtain ⟨hi, hw⟩ := ok
        have hil := (List.getElem?_eq_some_iff.mp hi).1
        have hih : i < W.heaps.length := by have := wo.sz.1; lia
        have hli : i < W.lids.length := by have := wo.sz.2; lia
        obtain ⟨th, et, eh⟩ := heap_at rb (List.getElem?_eq_getElem hih)
        have hpi : (pn rs)[i]? = some p.1 := by rw [List.getElem?_map, hi]; rfl
        have a0 : atI [V.str p.1, V.str w'] ((0 : Nat) : Int) = some (.str p.1) := atI_nat rfl
        have a1 : atI [V.str p.1, V.str w'] ((1 : Nat) : Int) = some (.str w') := atI_nat rfl
        have ne : ∀ x : Str, x ∉ plW → ¬ w' = x := fun x hx e => hx (e ▸ hw)
        refine ⟨_, rfl, l, _, _, _, rfl, rfl, SqL.of el0, a1, rfl, _, rfl, ?_⟩
        refine iteN (ne _ (by decide +kernel)) ?_
        refine ⟨_, rfl, l, _, _, _, rfl, rfl, SqL.of el0, a1, rfl, _, rfl, ?_⟩
        refine iteN (ne _ (by decide +kernel)) ?_
        refine ⟨_, rfl, l, _, _, _, rfl, rfl, SqL.of el0, a1, rfl, _, rfl, ?_⟩
        refine iteN (ne _ (by decide +kernel)) ?_
        refine ⟨_, rfl, l, _, _, _, rfl, rfl, SqL.of el0, a1, rfl, _, rfl, ?_⟩
        refine iteN (ne _ (by decide +kernel)) ?_
        refine ⟨_, rfl, r, _, rfl, dget k10 k2, .inl ⟨rfl, _, SqL.of g10⟩, _, rfl, l, _, _, _, rfl, rfl, SqL.of el0, a0, pp, _, _, i, rfl, rfl, g10, hpi, at_idx wo.g.ndP hpi, ?_⟩
        have q' : Q (.bl (if w' = "bare" then decide (W.heaps.getD i [] = []) else decide (W.lids.getD i "" = w'))) H0 := q H0 s0
        refine ⟨_, rfl, l, _, _, _, rfl, rfl, SqL.of el0, a1, rfl, _, rfl, ?_⟩
        by_cases hbr : w' = "bare"
        · refine iteS hbr ?_
          refine ⟨_, rfl, c, _, _, _, rfl, rfl, SqT.of ea0, w1, _, rfl, hb, _, _, _, rfl, rfl, SqT.of eb0, atI_nat et, _, _, rfl, .inr ⟨_, SqT.of (s0 _ _ eh), rfl⟩, rfl, ?_⟩
          have e : W.heaps.getD i [] = W.heaps[i] := by simp [List.getD, hih]
          rw [if_pos hbr, e] at q'
          have e2 : decide (V.int ((W.heaps[i].map V.str).length : Int) = V.int 0) = decide (W.heaps[i] = []) := by
            rw [List.length_map]
            cases W.heaps[i] with
            | nil => rfl
            | cons y ys =>
              rw [decide_eq_false (List.cons_ne_nil _ _)]
              refine decide_eq_false fun z => ?_
              have := V.int.inj z
              rw [List.length_cons] at this
              lia
          rw [e2]
          exact q'
        · refine iteN hbr ?_
          have e : W.lids.getD i "" = W.lids[i] := by simp [List.getD, hli]
          have el2 : (W.lids.map V.str)[i]? = some (.str W.lids[i]) := by rw [List.getElem?_map, List.getElem?_eq_getElem hli]; rfl
          refine ⟨_, rfl, c, _, _, _, rfl, rfl, SqT.of ea0, w2, _, rfl, cl, _, _, _, rfl, rfl, SqT.of ec0, atI_nat el2, _, rfl, l, _, _, _, rfl, rfl, SqL.of el0, a1, rfl, ?_⟩
          rw [if_neg hbr, e] at q'
          rw [dec_s]
          exact q'
end
end K14
namespace K14
open PySem L2 Tx Rk PyProof.Rows PySem.SeqAt
open PySem.PyData (strOk)
section
variable {P : Program} {w : World} {K : PySem.W.Frag} {mg : Str → Option Value} {base : Heap}
theorem ok_heapin {f C f_places : Addr} {fd d_places : FuncData} (F : Fun K "heap_in" "heap_in" sHeapIn f fd) (L : Cl K C) (b_places : Binds K d_places ["self"] []) (m_places : Meth K C "places" f_places) (G_places : FnOk P w K mg base CX0 1 f_places d_places ["self"] (spPlaces C)) : FnOk P w K mg base CX0 2 f fd pHeapIn (spHeapIn C) := by
  refine F.ok scHeapIn (fun vs H Q E h => ?_) (fun cdv A outer s H vs Q E hr1 h => ?_)
  · obtain ⟨x, rs, v, W, i, p, hp, rfl, _⟩ := h
    rfl
  · obtain ⟨x, rs, v, W, i, p, hp, rfl, R, g, rv, hi, hh, q⟩ := h
    obtain ⟨dx, d1, d2, o, kvs, h1, h2, h3, h4⟩ := R.ex
    obtain ⟨c, v0, hb, cl, xs, ys, rfl, ea, r0, eb, rb, ec, rc⟩ := parts rv
    obtain ⟨t, et, ht⟩ := heap_at rb hh
    have at1 : atI [v0, V.ref hb, V.ref cl] ((1 : Nat) : Int) = some (.ref hb) := atI_nat rfl
    have hpi : ((plc rs).map (·.1))[i]? = some p.1 := by rw [List.getElem?_map, hi]; rfl
    refine ⟨_, (pss_one (ps_ret (pe_ix ix_tup (pe_ix ix_tup (pv 1) pe_int (fun _ _ => rfl)) (pe_bm PySem.F.plainAttrs_list PySem.F.slot_list_index PySem.F.type_list_index mt_index (pe_meth0 (pv 0) L.cl m_places G_places hr1 b_places .nil pass0) (pa_cons (pv 2) pa_nil)) (fun _ _ => rfl)))), ?_⟩
    refine ⟨_, rfl, c, _, _, _, rfl, rfl, SqT.of ea, at1, _, rfl, x, dx, _, rfl, h1, rf_no d1 d2 (by decide +kernel) (by decide +kernel), x, rs, rfl, R, fun l H1 s1 fl el => ?_⟩
    exact ⟨.inl ⟨rfl, _, SqL.of el⟩, _, rfl, l, _, _, i, rfl, rfl, el, hpi, at_idx g.ndP hpi, hb, _, _, _, rfl, rfl, SqT.of (s1 _ _ eb), atI_nat et, q t H1 s1 ht⟩
end
end K14
namespace K14
open PySem L2 Tx Rk PyProof.Rows PySem.SeqAt
open PySem.PyData (strOk)
section
variable {P : Program} {w : World} {K : PySem.W.Frag} {mg : Str → Option Value} {base : Heap}
theorem ok_lidon {f C f_places : Addr} {fd d_places : FuncData} (F : Fun K "lid_on" "lid_on" sLidOn f fd) (L : Cl K C) (b_places : Binds K d_places ["self"] []) (m_places : Meth K C "places" f_places) (G_places : FnOk P w K mg base CX0 1 f_places d_places ["self"] (spPlaces C)) : FnOk P w K mg base CX0 2 f fd pLidOn (spLidOn C) := by
  refine F.ok scLidOn (fun vs H Q E h => ?_) (fun cdv A outer s H vs Q E hr1 h => ?_)
  · obtain ⟨x, rs, v, W, i, p, l, rfl, _⟩ := h
    rfl
  · obtain ⟨x, rs, v, W, i, p, l, rfl, R, g, rv, hi, hh, q⟩ := h
    obtain ⟨dx, d1, d2, o, kvs, h1, h2, h3, h4⟩ := R.ex
    obtain ⟨c, v0, hb, cl, xs, ys, rfl, ea, r0, eb, rb, ec, rc⟩ := parts rv
    have hys := rds_str rc
    subst hys
    have el : (W.lids.map V.str)[i]? = some (.str l) := by rw [List.getElem?_map, hh]; rfl
    have at2 : atI [v0, V.ref hb, V.ref cl] ((2 : Nat) : Int) = some (.ref cl) := atI_nat rfl
    have hpi : ((plc rs).map (·.1))[i]? = some p.1 := by rw [List.getElem?_map, hi]; rfl
    refine ⟨_, (pss_one (ps_ret (pe_ix ix_tup (pe_ix ix_tup (pv 1) pe_int (fun _ _ => rfl)) (pe_bm PySem.F.plainAttrs_list PySem.F.slot_list_index PySem.F.type_list_index mt_index (pe_meth0 (pv 0) L.cl m_places G_places hr1 b_places .nil pass0) (pa_cons (pv 2) pa_nil)) (fun _ _ => rfl)))), ?_⟩
    refine ⟨_, rfl, c, _, _, _, rfl, rfl, SqT.of ea, at2, _, rfl, x, dx, _, rfl, h1, rf_no d1 d2 (by decide +kernel) (by decide +kernel), x, rs, rfl, R, fun l1 H1 s1 fl e1 => ?_⟩
    exact ⟨.inl ⟨rfl, _, SqL.of e1⟩, _, rfl, l1, _, _, i, rfl, rfl, e1, hpi, at_idx g.ndP hpi, cl, _, _, _, rfl, rfl, SqT.of (s1 _ _ ec), atI_nat el, q H1 s1⟩
end
end K14
namespace K14
open PySem L2 Tx Rk PyProof.Rows PySem.SeqAt
open PySem.PyData (strOk)
section
variable {P : Program} {w : World} {K : PySem.W.Frag} {mg : Str → Option Value} {base : Heap}
inductive spPartN (C : Addr) (vs : List V) (H : Hp) (Q : VK) (E0_ : XK) : Prop
  | mk (x : Addr) (rs : List Ro) (ts : List Tt) (c0 : vs = [.ref x, .str (partT ts)]) (c1 : RoomAt C H x rs) (c2 : Good rs) (c3 : POk rs ts) (c4 : ∀ (d : Addr) (H' : Hp), Same H H' → H d = none → PtV H' (.ref d) ts → Q (.ref d) H') : spPartN C vs H Q E0_
inductive spFactN (C : Addr) (vs : List V) (H : Hp) (Q : VK) (E0_ : XK) : Prop
  | mk (x : Addr) (rs : List Ro) (ps : List (List Tt)) (c0 : vs = [.ref x, .str (factT ps)]) (c1 : RoomAt C H x rs) (c2 : Good rs) (c3 : FOk rs ps) (c4 : ∀ (d : Addr) (us : List V) (H' : Hp), Same H H' → H' d = some (.lst us) → A2 (PtV H') us ps → Q (.ref d) H') : spFactN C vs H Q E0_
noncomputable def partB (W : Wl) (ts : List Tt) : Bool := ts.all fun t => t.2.tv W == t.1
noncomputable def factB (W : Wl) (ps : List (List Tt)) : Bool := ps.any (partB W)
inductive spPHoldsN (C : Addr) (vs : List V) (H : Hp) (Q : VK) (E0_ : XK) : Prop
  | mk (x : Addr) (pv : V) (rs : List Ro) (v : V) (W : Wl) (ts : List Tt) (c0 : vs = [.ref x, pv, v]) (c1 : RoomAt C H x rs) (c2 : PtV H pv ts) (c3 : RdV H v (dW W)) (c4 : Wo rs W) (c5 : POk rs ts) (c6 : ∀ H' : Hp, Same H H' → Q (.bl (partB W ts)) H') : spPHoldsN C vs H Q E0_
inductive spHoldsN (C : Addr) (vs : List V) (H : Hp) (Q : VK) (E0_ : XK) : Prop
  | mk (x : Addr) (rs : List Ro) (v : V) (W : Wl) (ps : List (List Tt)) (c0 : vs = [.ref x, .str (factT ps), v]) (c1 : RoomAt C H x rs) (c2 : FOk rs ps) (c3 : RdV H v (dW W)) (c4 : Wo rs W) (c5 : ∀ H' : Hp, Same H H' → Q (.bl (factB W ps)) H') : spHoldsN C vs H Q E0_
inductive spErrand (C : Addr) (vs : List V) (H : Hp) (Q : VK) (E0_ : XK) : Prop
  | mk (x : Addr) (rs : List Ro) (p : List (List Tt)) (o : Option (List (List Tt))) (c0 : vs = [.ref x, .str (errT p o)]) (c1 : RoomAt C H x rs) (c2 : Good rs) (c3 : FOk rs p) (c4 : (∀ q, o = some q → FOk rs q)) (c5 : ∀ (t : Addr) (H' : Hp), Same H H' → H' t = some (.tup [.str (factT p), oV (o.map factT)]) → Q (.ref t) H') : spErrand C vs H Q E0_
noncomputable abbrev pReadErrand : List Str := ["room", "text"]
noncomputable abbrev nReadErrand : List Str := ["room", "text", "facts", "fact"]
theorem scReadErrand : FnScope nReadErrand pReadErrand (defScope sReadErrand) := ⟨rfl, rfl, rfl, by decide +kernel, rfl, by decide +kernel, by decide +kernel⟩
theorem take_snoc {α : Type} {xs : List α} {i : Nat} {x : α} (h : xs[i]? = some x) : xs.take (i + 1) = xs.take i ++ [x] := by
  obtain ⟨hl, e⟩ := List.getElem?_eq_some_iff.mp h
  rw [List.take_add_one, List.getElem?_eq_getElem hl, e]
  rfl
theorem take_all {α : Type} (xs : List α) : xs.take xs.length = xs := List.take_of_length_le (Nat.le_refl _)
theorem none_of {H H' : Hp} {D : Addr} (s : Same H H') (h : H' D = none) : H D = none := by
  cases e : H D with
  | none => rfl
  | some o =>
    rw [s _ _ e] at h
    cases h
end
end K14
namespace K14
open PySem L2 Tx Rk PyProof.Rows PySem.SeqAt
open PySem.PyData (strOk)
section
variable {P : Program} {w : World} {K : PySem.W.Frag} {mg : Str → Option Value} {base : Heap}
theorem ok_partN {f C f1 : Addr} {fd d1 : FuncData} (F : Fun K "read_part" "read_part" sReadPart f fd) (T : Bl mg) (D_read_term : Df K mg "read_term" sReadTerm pReadTerm f1 d1) (G_read_term : FnOk P w K mg base CX0 4 f1 d1 pReadTerm (spTerm C)) : FnOk P w K mg base CX0 5 f fd pReadPart (spPartN C) := by
  refine F.ok scReadPart (fun vs H Q E h => ?_) (fun cdv A outer s H vs Q E hr4 h => ?_)
  · obtain ⟨x, rs, ts, rfl, _⟩ := h
    rfl
  · obtain ⟨x, rs, ts, rfl, R, g, po, q⟩ := h
    have hsl : sizeLine = 16777216 := sizeLine_eq
    have hln := part_len g po
    have hfew := po.few
    refine ⟨_, (pss_one (ps_ret (pe_lc (N := ["term", "room"]) (sc := defScope sReadPart) (own := ["term"]) (fr := ["room"]) (js := [0]) ⟨rfl, rfl, rfl, rfl, by decide +kernel, by decide +kernel, by decide +kernel, rfl, by decide +kernel⟩ rfl (pi_list (pe_bm PySem.F.plainAttrs_str PySem.F.slot_str_split PySem.F.type_str_split mt_split (pv 1) (pa_cons pe_str pa_nil))) (fun _ _ _ _ => pg_name (i := 0) (show List.Nodup (["term", "room"] : List Str) by decide +kernel) rfl (Or.inl rfl)) (fun _ _ _ _ => pif_nil) (fun _ _ _ _ => (pe_call G_read_term hr4 (by rfl) D_read_term.m D_read_term.F.kp D_read_term.b .nil pass0 (pa_cons (pv 1) (pa_cons (pv 0) pa_nil))))))), ?_⟩
    refine ⟨_, rfl, rfl, _, _, rfl, rfl, by rfl, by lia, fun l hl => ?_⟩
    have el : (upd H l (.lst ((Txt.split (partT ts) " and ").map V.str))) l = some (.lst ((ts.map termT).map V.str)) := by rw [upd_same, split_and g po]
    have s1 : Same H (upd H l (.lst ((Txt.split (partT ts) " and ").map V.str))) := Same.new hl
    generalize (upd H l (.lst ((Txt.split (partT ts) " and ").map V.str))) = H1 at el s1 ⊢
    have ll : ((ts.map termT).map V.str).length = ts.length := by simp
    refine ⟨l, rfl, ⟨_, SqL.of el⟩, fun D hD => ?_⟩
    refine lcJ (n := ts.length) (fun i ys H2 => Same H1 H2 ∧ H2 D = some (.lst ys) ∧ A2 (TmV H2) ys (ts.take i)) ⟨Same.new hD, upd_same, by rw [List.take_zero]; exact A2.nil⟩
      (fun i ys H2 hi hh0 => by obtain ⟨s2, _, _⟩ := hh0; exact ⟨_, .str (termT ts[i]), SqL.of (s2 _ _ el), by simp [hi]⟩) (fun ys H2 hh0 => by obtain ⟨s2, _, _⟩ := hh0; exact ⟨_, SqL.of (s2 _ _ el), by lia⟩) ?_ ?_
    · rintro i ys H2 y H3 hi ⟨s2, e2, a2⟩ ⟨rfl, hx⟩
      refine lc_yes ?_
      have hx2 : y = .str (termT ts[i]) := by
        have := hx _ (SqL.of (s2 _ _ el))
        rw [List.getElem?_map, List.getElem?_map, List.getElem?_eq_getElem hi] at this
        (exact (Option.some.inj this).symm)
      subst hx2
      have s12 := s1.trans s2
      have okt := po.ok _ (List.getElem_mem hi)
      have hyl : ys.length ≤ 3 := by rw [a2.len, List.length_take]; lia
      refine ⟨_, rfl, _, rfl, x, rs, ts[i].1, ts[i].2.ws, _, rfl, R.same s12, Am.tm g okt ts[i].1, fun t l' H4 s4 et el' => ?_⟩
      have eD := s4 _ _ e2
      have a4 := a2.mono fun v t _ r => TmV.same s4 r
      have rf := a2.ref fun v t r => TmV.rf r
      refine ⟨_, eD, by lia, (s2.trans s4).put hD, upd_same, ?_⟩
      rw [take_snoc (List.getElem?_eq_getElem hi)]
      exact (a4.mono fun v t _ r => r.upd eD rf).snoc (TmV.upd ⟨t, l', rfl, et, el'⟩ eD rf)
    · rintro ys H2 ⟨s2, e2, a2⟩
      rw [take_all] at a2
      exact q D H2 (s1.trans s2) (none_of s1 hD) ⟨D, ys, rfl, e2, a2⟩
end
end K14
namespace K14
open PySem L2 Tx Rk PyProof.Rows PySem.SeqAt
open PySem.PyData (strOk)
section
variable {P : Program} {w : World} {K : PySem.W.Frag} {mg : Str → Option Value} {base : Heap}
theorem ok_factN {f C f1 : Addr} {fd d1 : FuncData} (F : Fun K "read_fact" "read_fact" sReadFact f fd) (T : Bl mg) (D_read_part : Df K mg "read_part" sReadPart pReadPart f1 d1) (G_read_part : FnOk P w K mg base CX0 5 f1 d1 pReadPart (spPartN C)) : FnOk P w K mg base CX0 6 f fd pReadFact (spFactN C) := by
  refine F.ok scReadFact (fun vs H Q E h => ?_) (fun cdv A outer s H vs Q E hr5 h => ?_)
  · obtain ⟨x, rs, ps, rfl, _⟩ := h
    rfl
  · obtain ⟨x, rs, ps, rfl, R, g, fo, q⟩ := h
    have hsl : sizeLine = 16777216 := sizeLine_eq
    have hln := fact_len g fo
    have hfew := fo.few
    refine ⟨_, (pss_one (ps_ret (pe_lc (N := ["part", "room"]) (sc := defScope sReadFact) (own := ["part"]) (fr := ["room"]) (js := [0]) ⟨rfl, rfl, rfl, rfl, by decide +kernel, by decide +kernel, by decide +kernel, rfl, by decide +kernel⟩ rfl (pi_list (pe_bm PySem.F.plainAttrs_str PySem.F.slot_str_split PySem.F.type_str_split mt_split (pv 1) (pa_cons pe_str pa_nil))) (fun _ _ _ _ => pg_name (i := 0) (show List.Nodup (["part", "room"] : List Str) by decide +kernel) rfl (Or.inl rfl)) (fun _ _ _ _ => pif_nil) (fun _ _ _ _ => (pe_call G_read_part hr5 (by rfl) D_read_part.m D_read_part.F.kp D_read_part.b .nil pass0 (pa_cons (pv 1) (pa_cons (pv 0) pa_nil))))))), ?_⟩
    refine ⟨_, rfl, rfl, _, _, rfl, rfl, by rfl, by lia, fun l hl => ?_⟩
    have el : (upd H l (.lst ((Txt.split (factT ps) " or ").map V.str))) l = some (.lst ((ps.map partT).map V.str)) := by rw [upd_same, split_or g fo]
    have s1 : Same H (upd H l (.lst ((Txt.split (factT ps) " or ").map V.str))) := Same.new hl
    generalize (upd H l (.lst ((Txt.split (factT ps) " or ").map V.str))) = H1 at el s1 ⊢
    have ll : ((ps.map partT).map V.str).length = ps.length := by simp
    refine ⟨l, rfl, ⟨_, SqL.of el⟩, fun D hD => ?_⟩
    refine lcJ (n := ps.length) (fun i ys H2 => Same H1 H2 ∧ H2 D = some (.lst ys) ∧ A2 (fun v ts => PtV H2 v ts ∧ v ≠ .ref D) ys (ps.take i)) ⟨Same.new hD, upd_same, by rw [List.take_zero]; exact A2.nil⟩
      (fun i ys H2 hi hh0 => by obtain ⟨s2, _, _⟩ := hh0; exact ⟨_, .str (partT ps[i]), SqL.of (s2 _ _ el), by simp [hi]⟩) (fun ys H2 hh0 => by obtain ⟨s2, _, _⟩ := hh0; exact ⟨_, SqL.of (s2 _ _ el), by lia⟩) ?_ ?_
    · rintro i ys H2 y H3 hi ⟨s2, e2, a2⟩ ⟨rfl, hx⟩
      refine lc_yes ?_
      have hx2 : y = .str (partT ps[i]) := by
        have := hx _ (SqL.of (s2 _ _ el))
        rw [List.getElem?_map, List.getElem?_map, List.getElem?_eq_getElem hi] at this
        (exact (Option.some.inj this).symm)
      subst hx2
      have s12 := s1.trans s2
      have okt := fo.ok _ (List.getElem_mem hi)
      have hyl : ys.length ≤ 3 := by rw [a2.len, List.length_take]; lia
      refine ⟨_, rfl, _, rfl, x, rs, ps[i], rfl, R.same s12, g, okt, fun d H4 s4 fd4 pv => ?_⟩
      have eD := s4 _ _ e2
      have rf := a2.ref fun v t r => PtV.rf r.1
      have dD : V.ref d ≠ V.ref D := fun z => by
        cases z
        rw [e2] at fd4
        cases fd4
      refine ⟨_, eD, by lia, (s2.trans s4).put hD, upd_same, ?_⟩
      rw [take_snoc (List.getElem?_eq_getElem hi)]
      exact (a2.mono fun v t _ r => ⟨(r.1.same s4).upd r.2 eD rf, r.2⟩).snoc ⟨pv.upd dD eD rf, dD⟩
    · rintro ys H2 ⟨s2, e2, a2⟩
      rw [take_all] at a2
      exact q D ys H2 (s1.trans s2) e2 (a2.mono fun v t _ r => r.1)
end
end K14
namespace K14
open PySem L2 Tx Rk PyProof.Rows PySem.SeqAt
open PySem.PyData (strOk)
section
variable {P : Program} {w : World} {K : PySem.W.Frag} {mg : Str → Option Value} {base : Heap}
theorem ok_pholdsN {f C f1 : Addr} {fd d1 : FuncData} (F : Fun K "part_holds" "part_holds" sPartHolds f fd) (T : Bl mg) (D_atom_holds : Df K mg "atom_holds" sAtomHolds pAtomHolds f1 d1) (G_atom_holds : FnOk P w K mg base CX0 4 f1 d1 pAtomHolds (spAHolds C)) : FnOk P w K mg base CX0 5 f fd pPartHolds (spPHoldsN C) := by
  refine F.ok scPartHolds (fun vs H Q E h => ?_) (fun cdv A outer s H vs Q E hr4 h => ?_)
  · obtain ⟨x, pv, rs, v, W, ts, rfl, _⟩ := h
    rfl
  · obtain ⟨x, pv, rs, v, W, ts, rfl, R, pt, rv, wo, po, q⟩ := h
    obtain ⟨d, us, rfl, ed, au⟩ := pt
    have hsl : sizeLine = 16777216 := sizeLine_eq
    have hfew := po.few
    have hul := au.len
    refine ⟨_, (pss_one (ps_ret (pe_callB (call_all rfl) (by rfl) T.all bt_all (pa_cons (pe_lc (N := ["term", "room", "world"]) (sc := defScope sPartHolds) (own := ["term"]) (fr := ["room", "world"]) (js := [0, 2]) ⟨rfl, rfl, rfl, rfl, by decide +kernel, by decide +kernel, by decide +kernel, rfl, by decide +kernel⟩ rfl (pi_list (pv 1)) (fun _ _ _ _ => pg_name (i := 0) (show List.Nodup (["term", "room", "world"] : List Str) by decide +kernel) rfl (Or.inl rfl)) (fun _ _ _ _ => pif_nil) (fun _ _ _ _ => (pe_cmpR op_eq (pe_call G_atom_holds hr4 (by rfl) D_atom_holds.m D_atom_holds.F.kp D_atom_holds.b .nil pass0 (pa_cons (pv 1) (pa_cons (pe_ix (ix_tupK K rfl) (pv 0) pe_int (fun _ _ => rfl)) (pa_cons (pv 2) pa_nil)))) (pe_ix (ix_tupK K rfl) (pv 0) pe_int (fun _ _ => rfl)) (nomark _)))) pa_nil)))), ?_⟩
    refine ⟨_, rfl, d, rfl, ⟨_, SqL.of ed⟩, fun D hD => ?_⟩
    refine lcJ (n := us.length) (fun i ys H2 => Same H H2 ∧ H2 D = some (.lst ys) ∧ ys = ((ts.take i).map fun t => t.2.tv W == t.1).map V.bl) ⟨Same.new hD, upd_same, by rw [List.take_zero]; rfl⟩
      (fun i ys H2 hi hh0 => by obtain ⟨s2, _, _⟩ := hh0; exact ⟨_, us[i], SqL.of (s2 _ _ ed), by simp [hi]⟩) (fun ys H2 hh0 => by obtain ⟨s2, _, _⟩ := hh0; exact ⟨_, SqL.of (s2 _ _ ed), Nat.le_refl _⟩) ?_ ?_
    · rintro i ys H2 y H3 hi ⟨s2, e2, y0⟩ ⟨rfl, hx⟩
      refine lc_yes ?_
      obtain ⟨tt, htt, hmem, a', l', e', et, el⟩ := au.at (hx _ (SqL.of (s2 _ _ ed)))
      subst e'
      subst y0
      have t0 : atI [V.bl tt.1, V.ref l'] ((0 : Nat) : Int) = some (.bl tt.1) := atI_nat rfl
      have t1 : atI [V.bl tt.1, V.ref l'] ((1 : Nat) : Int) = some (.ref l') := atI_nat rfl
      refine ⟨_, rfl, _, rfl, a', _, _, _, rfl, rfl, SqT.of (s2 _ _ et), t1, _, rfl, x, l', rs, v, W, tt.2, rfl, R.same s2, s2 _ _ el, s2.rd rv, wo, po.ok _ hmem, fun H4 s4 => ?_⟩
      have s24 := s2.trans s4
      refine ⟨_, rfl, a', _, _, _, rfl, rfl, SqT.of (s24 _ _ et), t0, rfl, ?_⟩
      rw [bl_eq]
      refine ⟨_, s4 _ _ e2, ?_, s24.put hD, upd_same, ?_⟩
      · rw [List.length_map, List.length_map, List.length_take]; lia
      · rw [take_snoc htt, List.map_append, List.map_append]
        rfl
    · rintro ys H2 ⟨s2, e2, y1⟩
      rw [hul, take_all] at y1
      subst y1
      refine ⟨D, _, rfl, SqL.of e2, ?_⟩
      have e : ((ts.map fun t => t.2.tv W == t.1).all fun b => b) = partB W ts := by rw [List.all_map]; rfl
      rw [e]
      exact q H2 s2
end
end K14
namespace K14
open PySem L2 Tx Rk PyProof.Rows PySem.SeqAt
open PySem.PyData (strOk)
section
variable {P : Program} {w : World} {K : PySem.W.Frag} {mg : Str → Option Value} {base : Heap}
theorem ok_holdsN {f C f1 f2 : Addr} {fd d1 d2 : FuncData} (F : Fun K "holds" "holds" sHolds f fd) (T : Bl mg) (D_read_fact : Df K mg "read_fact" sReadFact pReadFact f1 d1) (G_read_fact : FnOk P w K mg base CX0 6 f1 d1 pReadFact (spFactN C)) (D_part_holds : Df K mg "part_holds" sPartHolds pPartHolds f2 d2) (G_part_holds : FnOk P w K mg base CX0 5 f2 d2 pPartHolds (spPHoldsN C)) : FnOk P w K mg base CX0 7 f fd pHolds (spHoldsN C) := by
  refine F.ok scHolds (fun vs H Q E h => ?_) (fun cdv A outer s H vs Q E hr6 h => ?_)
  · obtain ⟨x, rs, v, W, ps, rfl, _⟩ := h
    rfl
  · obtain ⟨x, rs, v, W, ps, rfl, R, fo, rv, wo, q⟩ := h
    have hr5 : Room 5 _ := hr6.mono (by decide)
    have hsl : sizeLine = 16777216 := sizeLine_eq
    have hfew := fo.few
    refine ⟨_, (pss_cons (ps_set (i := 3) scHolds.nd rfl (Or.inl rfl) (pe_call G_read_fact hr6 (by rfl) D_read_fact.m D_read_fact.F.kp D_read_fact.b .nil pass0 (pa_cons (pv 0) (pa_cons (pv 1) pa_nil))))
      (pss_one (ps_ret (pe_callB (call_any rfl) (by rfl) T.any bt_any (pa_cons (pe_lc (N := ["part", "room", "world"]) (sc := defScope sHolds) (own := ["part"]) (fr := ["room", "world"]) (js := [0, 2]) ⟨rfl, rfl, rfl, rfl, by decide +kernel, by decide +kernel, by decide +kernel, rfl, by decide +kernel⟩ rfl (pi_list (pv 3)) (fun _ _ _ _ => pg_name (i := 0) (show List.Nodup (["part", "room", "world"] : List Str) by decide +kernel) rfl (Or.inl rfl)) (fun _ _ _ _ => pif_nil) (fun _ _ _ _ => (pe_call G_part_holds hr5 (by rfl) D_part_holds.m D_part_holds.F.kp D_part_holds.b .nil pass0 (pa_cons (pv 1) (pa_cons (pv 0) (pa_cons (pv 2) pa_nil)))))) pa_nil))))), ?_⟩
    refine ⟨_, rfl, _, rfl, x, rs, ps, rfl, R, wo.g, fo, fun e us H1 s1 ee au => ?_⟩
    have hul := au.len
    refine ⟨_, rfl, e, rfl, ⟨_, SqL.of ee⟩, fun D hD => ?_⟩
    refine lcJ (n := us.length) (fun i ys H2 => Same H1 H2 ∧ H2 D = some (.lst ys) ∧ ys = ((ps.take i).map (partB W)).map V.bl) ⟨Same.new hD, upd_same, by rw [List.take_zero]; rfl⟩
      (fun i ys H2 hi hh0 => by obtain ⟨s2, _, _⟩ := hh0; exact ⟨_, us[i], SqL.of (s2 _ _ ee), by simp [hi]⟩) (fun ys H2 hh0 => by obtain ⟨s2, _, _⟩ := hh0; exact ⟨_, SqL.of (s2 _ _ ee), Nat.le_refl _⟩) ?_ ?_
    · rintro i ys H2 y H3 hi ⟨s2, e2, y0⟩ ⟨rfl, hx⟩
      refine lc_yes ?_
      obtain ⟨ts, hts, hmem, pv⟩ := au.at (hx _ (SqL.of (s2 _ _ ee)))
      subst y0
      have s12 := s1.trans s2
      refine ⟨_, rfl, _, rfl, _, rfl, x, _, rs, v, W, ts, rfl, R.same s12, pv.same s2, s12.rd rv, wo, fo.ok _ hmem, fun H4 s4 => ?_⟩
      refine ⟨_, s4 _ _ e2, ?_, (s2.trans s4).put hD, upd_same, ?_⟩
      · rw [List.length_map, List.length_map, List.length_take]; lia
      · rw [take_snoc hts, List.map_append, List.map_append]
        rfl
    · rintro ys H2 ⟨s2, e2, y1⟩
      rw [hul, take_all] at y1
      subst y1
      refine ⟨D, _, rfl, SqL.of e2, ?_⟩
      have e : ((ps.map (partB W)).any fun b => b) = factB W ps := by rw [List.any_map]; rfl
      rw [e]
      exact q H2 (s1.trans s2)
end
end K14
namespace K14
open PySem L2 Tx Rk PyProof.Rows PySem.SeqAt
open PySem.PyData (strOk)
section
variable {P : Program} {w : World} {K : PySem.W.Frag} {mg : Str → Option Value} {base : Heap}
theorem ok_errand {f C f1 : Addr} {fd d1 : FuncData} (F : Fun K "read_errand" "read_errand" sReadErrand f fd) (T : Bl mg) (D_read_fact : Df K mg "read_fact" sReadFact pReadFact f1 d1) (G_read_fact : FnOk P w K mg base CX0 6 f1 d1 pReadFact (spFactN C)) : FnOk P w K mg base CX0 7 f fd pReadErrand (spErrand C) := by
  refine F.ok scReadErrand (fun vs H Q E h => ?_) (fun cdv A outer s H vs Q E hr6 h => ?_)
  · obtain ⟨x, rs, p, o, rfl, _⟩ := h
    rfl
  · obtain ⟨x, rs, p, o, rfl, R, g, fp, fo, q⟩ := h
    have hsl : sizeLine = 16777216 := sizeLine_eq
    have hlp := fact_len g fp
    have hln : (errT p o).length ≤ 20000 := by
      cases o with
      | none => show (factT p).length ≤ 20000; lia
      | some r =>
        have h1 := fact_len g (fo r rfl)
        show (factT p ++ " while " ++ factT r).length ≤ 20000
        rw [len_app, len_app]
        have : (Str.ofString " while ").length = 7 := by decide +kernel
        lia
    refine ⟨_, (pss_cons (ps_set (i := 2) scReadErrand.nd rfl (Or.inl rfl) (pe_bm PySem.F.plainAttrs_str PySem.F.slot_str_split PySem.F.type_str_split mt_split (pv 1) (pa_cons pe_str pa_nil)))
      (pss_cons (ps_if (pt_cmpR op_gt (pe_callB call_len (by rfl) T.len PySem.boot_len (pa_cons (pv 2) pa_nil)) pe_int (nomark _)) pss_never pss_nil)
      (pss_cons (ps_for PassesOwn.never rfl (pi_list (pv 2)) (pg_name (i := 3) scReadErrand.nd rfl (Or.inl rfl))
        (pss_one (ps_expr (pe_call G_read_fact hr6 (by rfl) D_read_fact.m D_read_fact.F.kp D_read_fact.b .nil pass0 (pa_cons (pv 0) (pa_cons (pv 3) pa_nil))))))
      (pss_one (ps_ret (pe_tup (pa_cons (pe_ix ix_list (pv 2) pe_int (fun _ _ => rfl)) (pa_cons (pe_ifExp (pt_cmpR op_eq (pe_callB call_len (by rfl) T.len PySem.boot_len (pa_cons (pv 2) pa_nil)) pe_int (nomark _)) (pe_ix ix_list (pv 2) pe_int (fun _ _ => rfl)) pe_non) pa_nil)))))))), ?_⟩
    refine ⟨_, rfl, rfl, _, _, rfl, rfl, by rfl, by lia, fun l hl => ?_⟩
    have el : (upd H l (.lst ((Txt.split (errT p o) " while ").map V.str))) l = some (.lst (((errL p o).map factT).map V.str)) := by rw [upd_same, split_while g fp fo]
    have s1 : Same H (upd H l (.lst ((Txt.split (errT p o) " while ").map V.str))) := Same.new hl
    generalize (upd H l (.lst ((Txt.split (errT p o) " while ").map V.str))) = H1 at el s1 ⊢
    have hl2 : (((errL p o).map factT).map V.str).length ≤ 2 := by
      rw [List.length_map, List.length_map]
      cases o <;> simp [errL]
    refine ⟨_, rfl, _, _, rfl, .inl ⟨_, SqL.of el, rfl⟩, _, _, rfl, rfl, _, rfl, ?_⟩
    refine ite2 (fun z => ?_) (fun _ => ?_)
    · exfalso
      have := of_decide_eq_true z
      lia
    refine ⟨_, rfl, l, rfl, ⟨_, SqL.of el⟩, for_list (K := K) (a := l) (xs := ((errL p o).map factT).map V.str) (fun i σ H6 => ∃ v3 : Option V, σ = [some (.ref x), some (.str (errT p o)), some (.ref l), v3] ∧ Same H1 H6) ⟨none, rfl, Same.refl _⟩ (fun i σ H6 _ hh0 => by obtain ⟨_, _, s6⟩ := hh0; exact SqL.of (s6 _ _ el)) ?_ ?_⟩
    · rintro i y σ H6 hx ⟨v3, rfl, s6⟩
      obtain ⟨r, hr, e⟩ : ∃ r ∈ errL p o, y = .str (factT r) := by
        have hm := List.mem_of_getElem? hx
        obtain ⟨t, ht, e⟩ := List.mem_map.mp hm
        obtain ⟨r, hr, e2⟩ := List.mem_map.mp ht
        exact ⟨r, hr, by rw [← e, ← e2]⟩
      subst e
      have fr : FOk rs r := by
        rcases List.mem_cons.mp hr with e | e
        · rw [e]; exact fp
        · exact fo r (by simpa using e)
      exact ⟨_, rfl, _, rfl, x, rs, r, rfl, R.same (s1.trans s6), g, fr, fun d us H7 s7 _ _ => ⟨_, rfl, s6.trans s7⟩⟩
    · rintro σ H6 ⟨v3, rfl, s6⟩
      have e6 := s6 _ _ el
      cases o with
      | none =>
        have a0 : atI (((errL p none).map factT).map V.str) ((0 : Nat) : Int) = some (.str (factT p)) := atI_nat rfl
        refine ⟨_, rfl, l, _, _, _, rfl, rfl, SqL.of e6, a0, _, rfl, _, _, rfl, .inl ⟨_, SqL.of e6, rfl⟩, rfl, _, rfl, ?_⟩
        refine iteF ?_
        refine ⟨by show 2 ≤ sizeLine; lia, fun t ht => ?_⟩
        exact q t _ ((s1.trans s6).trans (Same.new ht)) upd_same
      | some r =>
        have a0 : atI (((errL p (some r)).map factT).map V.str) ((0 : Nat) : Int) = some (.str (factT p)) := atI_nat rfl
        have a1 : atI (((errL p (some r)).map factT).map V.str) ((1 : Nat) : Int) = some (.str (factT r)) := atI_nat rfl
        refine ⟨_, rfl, l, _, _, _, rfl, rfl, SqL.of e6, a0, _, rfl, _, _, rfl, .inl ⟨_, SqL.of e6, rfl⟩, rfl, _, rfl, ?_⟩
        refine iteT ?_
        refine ⟨_, rfl, l, _, _, _, rfl, rfl, SqL.of e6, a1, ?_⟩
        refine ⟨by show 2 ≤ sizeLine; lia, fun t ht => ?_⟩
        exact q t _ ((s1.trans s6).trans (Same.new ht)) upd_same
end
end K14
namespace K14
open PySem L2 Tx Rk PyProof.Rows PySem.SeqAt
open PySem.PyData (strOk)
section
variable {P : Program} {w : World} {K : PySem.W.Frag} {mg : Str → Option Value} {base : Heap}
inductive spLParts (K : PySem.W.Frag) (vs : List V) (H : Hp) (Q : VK) (E0_ : XK) : Prop
  | mk (a : Addr) (ns : List Int) (k : Int) (r : Addr) (rs : List Ro) (m : Int) (c0 : vs = [.ref a, .int k, .ref r, .int m]) (c1 : SqL K H a (ns.map V.int)) (c2 : ns.length ≤ 63) (c3 : 0 ≤ k) (c4 : k < 1000) (c5 : RmS H r rs) (c6 : 1 ≤ (plc rs).length) (c7 : 1 ≤ m) (c8 : m ≤ 3) (c9 : ∀ (d : Addr) (us : List V) (ps : List (List Tt)) (H' : Hp), Same H H' → H' d = some (.lst us) → A2 (PtV H') us ps → FOk rs ps → Q (.ref d) H') : spLParts K vs H Q E0_
noncomputable abbrev pLParts : List Str := ["_law_script", "_law_k", "_law_drawn", "_law_many"]
noncomputable abbrev nLParts : List Str := ["_law_script", "_law_k", "_law_drawn", "_law_many", "_law_branches", "_law_i", "_law_terms", "_law_j", "_law_at"]
theorem scLParts : FnScope nLParts pLParts (defScope sLParts) := ⟨rfl, rfl, rfl, by decide +kernel, rfl, by decide +kernel, by decide +kernel⟩
inductive spLText (vs : List V) (H : Hp) (Q : VK) (E0_ : XK) : Prop
  | mk (d : Addr) (us : List V) (ps : List (List Tt)) (rs : List Ro) (c0 : vs = [.ref d]) (c1 : H d = some (.lst us)) (c2 : A2 (PtV H) us ps) (c3 : Good rs) (c4 : FOk rs ps) (c5 : ∀ H' : Hp, Same H H' → Q (.str (factT ps)) H') : spLText  vs H Q E0_
noncomputable abbrev pLText : List Str := ["_law_branches"]
noncomputable abbrev nLText : List Str := ["_law_branches", "_law_some", "_law_terms", "_law_words", "_law_good", "_law_atom_here"]
theorem scLText : FnScope nLText pLText (defScope sLText) := ⟨rfl, rfl, rfl, by decide +kernel, rfl, by decide +kernel, by decide +kernel⟩
inductive spLFact (vs : List V) (H : Hp) (Q : VK) (E0_ : XK) : Prop
  | mk (r d : Addr) (us : List V) (ps : List (List Tt)) (rs : List Ro) (v : V) (W : Wl) (c0 : vs = [.ref r, .ref d, v]) (c1 : RmS H r rs) (c2 : H d = some (.lst us)) (c3 : A2 (PtV H) us ps) (c4 : FOk rs ps) (c5 : RdV H v (dW W)) (c6 : Wo rs W) (c7 : ∀ H' : Hp, Same H H' → Q (.bl (factB W ps)) H') : spLFact  vs H Q E0_
noncomputable abbrev pLFactHolds : List Str := ["_law_drawn", "_law_branches", "_law_world_here"]
noncomputable abbrev nLFactHolds : List Str := ["_law_drawn", "_law_branches", "_law_world_here", "_law_terms"]
theorem scLFactHolds : FnScope nLFactHolds pLFactHolds (defScope sLFactHolds) := ⟨rfl, rfl, rfl, by decide +kernel, rfl, by decide +kernel, by decide +kernel⟩
theorem lcJ2 {J : It} {n : Nat} {D : Addr} {ρ : L2.St} {tc : TT} {te : TE} {fin : Hp → Prop} {H0 : Hp} (Pv : Nat → List V → Hp → Prop) (h0 : Pv 0 [] (upd H0 D (.lst [])))
    (go : ∀ i ys H, i < n → Pv i ys H → J.go i H) (stop : ∀ ys H, Pv n ys H → J.stop n H)
    (hs : ∀ i ys H x H1, i < n → Pv i ys H → J.yld i H x H1 → ∃ (a : Addr) (u v : V), x = .ref a ∧ SqT K H1 a [u, v] ∧ tc (some u :: some v :: ρ) H1 fun b H3 => if b = true then te (some u :: some v :: ρ) H3 fun y H4 => ∃ zs, H4 D = some (.lst zs) ∧ zs.length < sizeLine ∧ Pv (i + 1) (zs ++ [y]) (upd H4 D (.lst (zs ++ [y]))) else Pv (i + 1) ys H3)
    (hd : ∀ ys H, Pv n ys H → fin H) : ∃ W : Nat → Nat → List V → Hp → Prop, (∃ m, W 0 m [] (upd H0 D (.lst []))) ∧ tLcB J D (none :: none :: ρ) (gTup K 2 (gCons (gName 0) (gCons (gName 1) gNil))) tc te fin W := by
  refine ⟨fun i m ys H => m = n - i ∧ i ≤ n ∧ Pv i ys H, ⟨n, rfl, Nat.zero_le _, h0⟩, ?_⟩
  rintro i m ys H ⟨rfl, hi, p⟩
  by_cases hlt : i < n
  · refine .inr ⟨go i ys H hlt p, Pv (i + 1), fun ys' H' p' => ⟨n - (i + 1), by lia, rfl, hlt, p'⟩, fun x H1 y => ?_⟩
    obtain ⟨a, u, v, rfl, hq, h⟩ := hs i ys H x H1 hlt p y
    exact ⟨a, _, rfl, hq, rfl, _, _, rfl, _, _, rfl, rfl, sub_nones, h⟩
  · have e : i = n := by lia
    subst e
    exact .inl ⟨stop ys H p, hd ys H p⟩
theorem flat_bls : ∀ ys : List Bool, (ys.map V.bl).all flatV = true
  | [] => rfl
  | _ :: ys => by
    rw [List.map_cons, List.all_cons, flat_bls ys]
    rfl
theorem inV_bls : ∀ ys : List Bool, (!inV (V.bl false) (ys.map V.bl)) = ys.all fun b => b
  | [] => rfl
  | y :: ys => by
    show (!(eqV (.bl y) (.bl false) || inV (.bl false) (ys.map V.bl))) = (y && ys.all fun b => b)
    rw [Bool.not_or, inV_bls ys]
    cases y <;> rfl
theorem str_nil (x : Str) : Str.ofString "" ++ x = x := by
  apply cs_inj
  rw [cs_app, show cs (Str.ofString "") = [] from by decide +kernel]
  rfl
theorem termT_eq (t : Tt) : (if t.1 = true then Str.ofString "" else Str.ofString "not ") ++ Txt.join (Str.ofString " ") t.2.ws = termT t := by
  obtain ⟨b, am⟩ := t
  cases b with
  | true =>
    rw [if_pos rfl, str_nil]
    rfl
  | false =>
    rw [if_neg (show ¬ false = true by decide)]
    exact join_not am.ne
end
end K14
namespace K14
open PySem L2 Tx Rk PyProof.Rows PySem.SeqAt
open PySem.PyData (strOk)
section
variable {P : Program} {w : World} {K : PySem.W.Frag} {mg : Str → Option Value} {base : Heap}
theorem ok_lparts {f fP fA : Addr} {fd dP dA : FuncData} (F : Fun K "_law_parts" "_law_parts" sLParts f fd) (T : Bl mg) (D_l_pick : Df K mg "_law_pick" sPick pPick fP dP) (G_l_pick : FnOk P w K mg base CX0 1 fP dP pPick (spPick K)) (D_l_atom : Df K mg "_law_atom" sLAtom pLAtom fA dA) (G_l_atom : FnOk P w K mg base CX0 2 fA dA pLAtom (spLAtom K)) : FnOk P w K mg base CX0 3 f fd pLParts (spLParts K) := by
  refine F.ok scLParts (fun vs H Q E h => ?_) (fun cdv A outer s H vs Q E hr2 h => ?_)
  · obtain ⟨a, ns, k, r, rs, m, rfl, _⟩ := h
    rfl
  · obtain ⟨a, ns, k, r, rs, m, rfl, hS, hn, k0, k9, R, hp1, m1, m3, q⟩ := h
    have hr1 : Room 1 _ := hr2.mono (by decide)
    have hu := hu_of hr2
    have hsl : sizeLine = 16777216 := sizeLine_eq
    have g := R.good
    refine ⟨_, (pss_cons (ps_set (i := 4) scLParts.nd rfl (Or.inl rfl) (pe_lst pa_nil))
      (pss_cons (ps_for PassesOwn.never rfl (pi_range1 (by rfl) T.range (pa_cons (pe_op op_add pe_int (pe_call G_l_pick hr1 (by rfl) D_l_pick.m D_l_pick.F.kp D_l_pick.b .nil pass0 (pa_cons (pv 0) (pa_cons (pv 1) (pa_cons (pv 3) pa_nil))))) pa_nil)) (pg_name (i := 5) scLParts.nd rfl (Or.inl rfl))
        (pss_cons (ps_set (i := 6) scLParts.nd rfl (Or.inl rfl) (pe_lst pa_nil))
      (pss_cons (ps_for PassesOwn.never rfl (pi_range1 (by rfl) T.range (pa_cons (pe_op op_add pe_int (pe_call G_l_pick hr1 (by rfl) D_l_pick.m D_l_pick.F.kp D_l_pick.b .nil pass0 (pa_cons (pv 0) (pa_cons (pe_op op_add (pe_op op_add (pv 1) pe_int) (pv 5)) (pa_cons (pv 3) pa_nil))))) pa_nil)) (pg_name (i := 7) scLParts.nd rfl (Or.inl rfl))
        (pss_cons (ps_set (i := 8) scLParts.nd rfl (Or.inl rfl) (pe_op op_add (pe_op op_add (pe_op op_add (pv 1) pe_int) (pe_op op_mul pe_int (pv 5))) (pe_op op_mul pe_int (pv 7))))
      (pss_one (ps_expr (pe_bm PySem.F.plainAttrs_list PySem.F.slot_list_append PySem.F.type_list_append mt_append (pv 6) (pa_cons (pe_tup (pa_cons (pe_cmpR op_gt (pe_call G_l_pick hr1 (by rfl) D_l_pick.m D_l_pick.F.kp D_l_pick.b .nil pass0 (pa_cons (pv 0) (pa_cons (pe_op op_add (pv 8) pe_int) (pa_cons pe_int pa_nil)))) pe_int (nomark _)) (pa_cons (pe_call G_l_atom hr2 (by rfl) D_l_atom.m D_l_atom.F.kp D_l_atom.b .nil pass0 (pa_cons (pv 0) (pa_cons (pv 8) (pa_cons (pv 2) pa_nil)))) pa_nil))) pa_nil))))))
      (pss_one (ps_expr (pe_bm PySem.F.plainAttrs_list PySem.F.slot_list_append PySem.F.type_list_append mt_append (pv 4) (pa_cons (pv 6) pa_nil)))))))
      (pss_one (ps_ret (pv 4))))), ?_⟩
    refine ⟨by decide, fun B hB => ?_⟩
    have s0 : Same H (upd H B (.lst [])) := Same.new hB
    have e0 : (upd H B (.lst [])) B = some (.lst []) := upd_same
    generalize upd H B (.lst []) = H0 at s0 e0 ⊢
    refine ⟨_, rfl, _, rfl, _, rfl, a, ns, k, m, rfl, s0.seq hS, hn, by lia, by lia, by lia, fun n1 n0 n2 => ⟨_, _, rfl, rfl, _, rfl, by lia, by lia, for_range (n := (1 + n1).toNat) (fun i σ H6 => ∃ (v5 v6 v7 v8 : Option V) (us : List V) (ps : List (List Tt)), σ = [some (.ref a), some (.int k), some (.ref r), some (.int m), some (.ref B), v5, v6, v7, v8] ∧ Same H H6 ∧ H6 B = some (.lst us) ∧ A2 (fun v ts => PtV H6 v ts ∧ v ≠ .ref B) us ps ∧ ps.length = i ∧ ∀ ts ∈ ps, POk rs ts) ⟨none, none, none, none, [], [], rfl, s0, e0, A2.nil, rfl, fun _ z => nomatch z⟩ ?_ ?_⟩⟩
    · rintro i σ H6 hi ⟨v5, v6, v7, v8, us, ps, rfl, s6, eB, au, hpl, hpo⟩
      have hi3 : i < 3 := by lia
      refine ⟨by decide, fun t ht => ?_⟩
      have st : Same H6 (upd H6 t (.lst [])) := Same.new ht
      have et : (upd H6 t (.lst [])) t = some (.lst []) := upd_same
      generalize upd H6 t (.lst []) = H7 at st et ⊢
      have hS7 := (s6.trans st).seq hS
      refine ⟨_, rfl, _, rfl, _, _, rfl, rfl, _, rfl, _, _, rfl, rfl, _, rfl, a, ns, _, m, rfl, hS7, hn, by lia, by lia, by lia, fun n3 n4 n5 => ⟨_, _, rfl, rfl, _, rfl, by lia, by lia, for_range (n := (1 + n3).toNat) (fun j σ H8 => ∃ (v7 v8 : Option V) (vs : List V) (ts : List Tt), σ = [some (.ref a), some (.int k), some (.ref r), some (.int m), some (.ref B), some (.int (0 + i)), some (.ref t), v7, v8] ∧ Same H6 H8 ∧ H8 t = some (.lst vs) ∧ A2 (TmV H8) vs ts ∧ ts.length = j ∧ ∀ z ∈ ts, z.2.ok rs) ⟨v7, v8, [], [], rfl, st, et, A2.nil, rfl, fun _ z => nomatch z⟩ ?_ ?_⟩⟩
      · rintro j σ H8 hj ⟨v7, v8, vs, ts, rfl, s8, e8, av, htl, hto⟩
        have hj3 : j < 3 := by lia
        have s68 := s6.trans s8
        have hS8 := s68.seq hS
        have hvl : vs.length ≤ 3 := by rw [av.len]; lia
        refine ⟨_, rfl, _, _, rfl, rfl, _, rfl, _, _, rfl, rfl, .inl ⟨by decide, by decide⟩, _, _, rfl, rfl, _, rfl, _, _, rfl, rfl, .inl ⟨by decide, by decide⟩, _, _, rfl, rfl, ?_⟩
        refine ⟨_, rfl, .inl ⟨rfl, _, SqL.of e8⟩, _, rfl, _, rfl, _, _, rfl, rfl, a, ns, _, _, rfl, hS8, hn, by lia, by lia, by decide, fun pr p0 p1 => ⟨_, _, rfl, rfl, ?_⟩⟩
        refine ⟨_, rfl, _, rfl, _, rfl, a, ns, _, r, rs, rfl, hS8, hn, by lia, by lia, R.same s68, hp1, fun l am H9 s9 ok e9 => ⟨by show 2 ≤ sizeLine; lia, fun tp htp => ?_⟩⟩
        have s9' : Same H9 (upd H9 tp (.tup [.bl (decide (0 < pr)), .ref l])) := Same.new htp
        have etp : (upd H9 tp (.tup [.bl (decide (0 < pr)), .ref l])) tp = some (.tup [.bl (decide (0 < pr)), .ref l]) := upd_same
        have el9 := s9' _ _ e9
        have s89 := s9.trans s9'
        have et9 := s89 _ _ e8
        have rf := av.ref fun v t z => TmV.rf z
        have fin : TmV (upd (upd H9 tp (.tup [.bl (decide (0 < pr)), .ref l])) t (.lst (vs ++ [.ref tp]))) (.ref tp) (decide (0 < pr), am) := TmV.upd ⟨tp, l, rfl, etp, el9⟩ et9 rf
        refine ⟨t, vs, _, rfl, rfl, et9, by lia, ?_⟩
        refine ⟨_, _, _, ts ++ [(decide (0 < pr), am)], rfl, (s8.trans s89).put ht, upd_same, ((av.mono fun v z _ p => (p.same s89).upd et9 rf).snoc fin), by simp [htl], fun z hz => ?_⟩
        rcases List.mem_append.mp hz with z1 | z1
        · exact hto z z1
        · rw [List.mem_singleton.mp z1]
          exact ok
      · rintro σ H8 ⟨v7, v8, vs, ts, rfl, s8, e8, av, htl, hto⟩
        have eB8 := s8 _ _ eB
        have tB : V.ref t ≠ V.ref B := fun z => by
          cases z
          rw [eB] at ht
          cases ht
        have rf := au.ref fun v t z => PtV.rf z.1
        have hus : us.length ≤ 3 := by rw [au.len]; lia
        refine ⟨_, rfl, .inl ⟨rfl, _, SqL.of eB8⟩, _, rfl, B, us, _, rfl, rfl, eB8, by lia, ?_⟩
        refine ⟨_, _, _, _, _, ps ++ [ts], rfl, (s6.trans s8).put hB, upd_same, ?_, by simp [hpl], fun z hz => ?_⟩
        · exact (au.mono fun v z _ p => ⟨(p.1.same s8).upd p.2 eB8 rf, p.2⟩).snoc ⟨PtV.upd ⟨t, vs, rfl, e8, av⟩ tB eB8 rf, tB⟩
        · rcases List.mem_append.mp hz with z1 | z1
          · exact hpo z z1
          · rw [List.mem_singleton.mp z1]
            exact ⟨fun e => by rw [e] at htl; simp at htl; lia, by lia, hto⟩
    · rintro σ H6 ⟨v5, v6, v7, v8, us, ps, rfl, s6, eB, au, hpl, hpo⟩
      refine ⟨_, rfl, ?_⟩
      exact q B us ps H6 s6 eB (au.mono fun v z _ p => p.1) ⟨fun e => by rw [e] at hpl; simp at hpl; lia, by lia, hpo⟩
end
end K14
namespace K14
open PySem L2 Tx Rk PyProof.Rows PySem.SeqAt
open PySem.PyData (strOk)
section
variable {P : Program} {w : World} {K : PySem.W.Frag} {mg : Str → Option Value} {base : Heap}
theorem ok_ltext {f : Addr} {fd : FuncData} (F : Fun K "_law_text" "_law_text" sLText f fd) (T : Bl mg) : FnOk P w K mg base CX0 1 f fd pLText spLText := by
  refine F.ok scLText (fun vs H Q E h => ?_) (fun cdv A outer s H vs Q E hr h => ?_)
  · obtain ⟨d, us, ps, rs, rfl, _⟩ := h
    rfl
  · obtain ⟨d, us, ps, rs, rfl, ed, au, g, fo, q⟩ := h
    have hsl : sizeLine = 16777216 := sizeLine_eq
    have hfew := fo.few
    have hul := au.len
    refine ⟨_, (pss_cons (ps_set (i := 1) scLText.nd rfl (Or.inl rfl) (pe_lst pa_nil))
      (pss_cons (ps_for PassesOwn.never rfl (pi_list (pv 0)) (pg_name (i := 2) scLText.nd rfl (Or.inl rfl))
        (pss_cons (ps_set (i := 3) scLText.nd rfl (Or.inl rfl) (pe_lst pa_nil))
      (pss_cons (ps_for PassesOwn.never rfl (pi_list (pv 2)) (pg_tup rfl (pgs_cons (pg_name (i := 4) scLText.nd rfl (Or.inl rfl)) (pgs_cons (pg_name (i := 5) scLText.nd rfl (Or.inl rfl)) pgs_nil)))
        (pss_one (ps_expr (pe_bm PySem.F.plainAttrs_list PySem.F.slot_list_append PySem.F.type_list_append mt_append (pv 3) (pa_cons (pe_op op_add_str (pe_ix ix_list (pe_lst (pa_cons pe_str (pa_cons pe_str pa_nil))) (pe_callTy call_int1 (by rfl) T.int bt_int (pa_cons (pv 4) pa_nil)) (fun _ _ => rfl)) (pe_bm PySem.F.plainAttrs_str PySem.F.slot_str_join PySem.F.type_str_join mt_join pe_str (pa_cons (pv 5) pa_nil))) pa_nil)))))
      (pss_one (ps_expr (pe_bm PySem.F.plainAttrs_list PySem.F.slot_list_append PySem.F.type_list_append mt_append (pv 1) (pa_cons (pe_bm PySem.F.plainAttrs_str PySem.F.slot_str_join PySem.F.type_str_join mt_join pe_str (pa_cons (pv 3) pa_nil)) pa_nil)))))))
      (pss_one (ps_ret (pe_bm PySem.F.plainAttrs_str PySem.F.slot_str_join PySem.F.type_str_join mt_join pe_str (pa_cons (pv 1) pa_nil)))))), ?_⟩
    refine ⟨by decide, fun B hB => ?_⟩
    have s0 : Same H (upd H B (.lst [])) := Same.new hB
    have e0 : (upd H B (.lst [])) B = some (.lst ((([] : List (List Tt)).map partT).map V.str)) := upd_same
    generalize upd H B (.lst []) = H0 at s0 e0 ⊢
    refine ⟨_, rfl, d, rfl, ⟨_, SqL.of (s0 _ _ ed)⟩, for_list (K := K) (a := d) (xs := us) (fun i σ H6 => ∃ v2 v3 v4 v5 : Option V, σ = [some (.ref d), some (.ref B), v2, v3, v4, v5] ∧ Same H H6 ∧ H6 B = some (.lst (((ps.take i).map partT).map V.str))) ⟨none, none, none, none, rfl, s0, by rw [List.take_zero]; exact e0⟩ (fun i σ H6 _ hh0 => by obtain ⟨_, _, _, _, _, s6, _⟩ := hh0; exact SqL.of (s6 _ _ ed)) ?_ ?_⟩
    · rintro i y σ H6 hx ⟨v2, v3, v4, v5, rfl, s6, eB⟩
      obtain ⟨ts, hts, hmem, pv⟩ := au.at hx
      obtain ⟨t, vs, rfl, et, av⟩ := pv.same s6
      have po := fo.ok _ hmem
      have hvl := av.len
      have hfw := po.few
      refine ⟨by decide, fun W hW => ?_⟩
      have s1 : Same H6 (upd H6 W (.lst [])) := Same.new hW
      have e1 : (upd H6 W (.lst [])) W = some (.lst ((([] : List Tt).map termT).map V.str)) := upd_same
      generalize upd H6 W (.lst []) = H7 at s1 e1 ⊢
      refine ⟨_, rfl, t, rfl, ⟨_, SqL.of (s1 _ _ et)⟩, for_list (K := K) (a := t) (xs := vs) (fun j σ H8 => ∃ v4 v5 : Option V, σ = [some (.ref d), some (.ref B), some (.ref t), some (.ref W), v4, v5] ∧ Same H6 H8 ∧ H8 W = some (.lst (((ts.take j).map termT).map V.str))) ⟨v4, v5, rfl, s1, by rw [List.take_zero]; exact e1⟩ (fun i σ H6 _ hh0 => by obtain ⟨_, _, _, s6, _⟩ := hh0; exact SqL.of (s6 _ _ et)) ?_ ?_⟩
      · rintro j y σ H8 hy ⟨v4, v5, rfl, s8, eW⟩
        obtain ⟨tt, htt, hmt, a', l', rfl, ea, el⟩ := av.at hy
        have okt := po.ok _ hmt
        obtain ⟨wk, wl, wn, _⟩ := Am.woks g okt
        have hsum : (tt.2.ws.map (·.length)).sum + tt.2.ws.length * (Str.ofString " ").length ≤ 16777216 := by
          have h1 := sum_le8 wk
          have h2 : (Str.ofString " ").length = 1 := by decide +kernel
          rw [h2]
          lia
        have hjl := join_le wk
        have hjl : (Txt.join (Str.ofString " ") tt.2.ws).length ≤ 9 * tt.2.ws.length := hjl
        have hwl : (((ts.take j).map termT).map V.str).length ≤ 3 := by
          rw [List.length_map, List.length_map, List.length_take]
          lia
        refine ⟨a', _, rfl, SqT.of (s8 _ _ ea), rfl, _, _, rfl, _, _, rfl, rfl, ?_⟩
        refine ⟨_, rfl, .inl ⟨rfl, _, SqL.of eW⟩, by decide, fun nl hnl => ?_⟩
        have s9 : Same H8 (upd H8 nl (.lst [V.str "not ", V.str ""])) := Same.new hnl
        have e9 : (upd H8 nl (.lst [V.str "not ", V.str ""])) nl = some (.lst [V.str "not ", V.str ""]) := upd_same
        generalize upd H8 nl (.lst [V.str "not ", V.str ""]) = H9 at s9 e9 ⊢
        have s69 := s8.trans s9
        have hix : atI [V.str "not ", V.str ""] (if tt.1 = true then 1 else 0) = some (.str (if tt.1 = true then Str.ofString "" else Str.ofString "not ")) := by
          cases tt.1 with
          | true => exact atI_nat (j := 1) rfl
          | false => exact atI_nat (j := 0) rfl
        have hb : (if tt.1 = true then Str.ofString "" else Str.ofString "not ").length + (Txt.join (Str.ofString " ") tt.2.ws).length ≤ sizeLine := by
          have h1 : (if tt.1 = true then Str.ofString "" else Str.ofString "not ").length ≤ 4 := by
            cases tt.1 <;> decide +kernel
          lia
        refine ⟨_, rfl, .inr ⟨_, rfl, nl, _, _, _, rfl, rfl, SqL.of e9, hix, rfl, _, rfl, _, l', tt.2.ws, rfl, rfl, SqL.of (s69 _ _ el), hsum, _, _, rfl, rfl, hb, ?_⟩⟩
        rw [termT_eq]
        refine ⟨W, _, _, rfl, rfl, s9 _ _ eW, by lia, ?_⟩
        refine ⟨_, _, rfl, s69.put hW, ?_⟩
        rw [upd_same, take_snoc htt, List.map_append, List.map_append]
        rfl
      · rintro σ H8 ⟨v4, v5, rfl, s8, eW⟩
        rw [hvl, take_all] at eW
        have eB8 := s8 _ _ eB
        have hps := part_sum g po
        have hwl : (((ps.take i).map partT).map V.str).length ≤ 3 := by
          rw [List.length_map, List.length_map, List.length_take]
          lia
        refine ⟨_, rfl, .inl ⟨rfl, _, SqL.of eB8⟩, rfl, _, rfl, _, W, ts.map termT, rfl, rfl, SqL.of eW, by lia, B, _, _, rfl, rfl, eB8, by lia, ?_⟩
        refine ⟨_, _, _, _, rfl, (s6.trans s8).put hB, ?_⟩
        rw [upd_same, take_snoc hts, List.map_append, List.map_append]
        rfl
    · rintro σ H6 ⟨v2, v3, v4, v5, rfl, s6, eB⟩
      rw [hul, take_all] at eB
      have hfs := fact_sum g fo
      exact ⟨rfl, _, rfl, _, B, ps.map partT, rfl, rfl, SqL.of eB, by lia, q H6 s6⟩
end
end K14
namespace K14
open PySem L2 Tx Rk PyProof.Rows PySem.SeqAt
open PySem.PyData (strOk)
section
variable {P : Program} {w : World} {K : PySem.W.Frag} {mg : Str → Option Value} {base : Heap}
theorem ok_lfact {f fH : Addr} {fd dH' : FuncData} (F : Fun K "_law_fact_holds" "_law_fact_holds" sLFactHolds f fd) (T : Bl mg) (D_l_atom_holds : Df K mg "_law_atom_holds" sLAtomHolds pLAtomHolds fH dH') (G_l_atom_holds : FnOk P w K mg base CX0 2 fH dH' pLAtomHolds spLHolds) : FnOk P w K mg base CX0 3 f fd pLFactHolds spLFact := by
  refine F.ok scLFactHolds (fun vs H Q E h => ?_) (fun cdv A outer s H vs Q E hr2 h => ?_)
  · obtain ⟨r, d, us, ps, rs, v, W, rfl, _⟩ := h
    rfl
  · obtain ⟨r, d, us, ps, rs, v, W, rfl, R, ed, au, fo, rv, wo, q⟩ := h
    have hsl : sizeLine = 16777216 := sizeLine_eq
    have hfew := fo.few
    have hul := au.len
    refine ⟨_, (pss_cons (ps_for PassesOwn.never rfl (pi_list (pv 1)) (pg_name (i := 3) scLFactHolds.nd rfl (Or.inl rfl))
        (pss_one (ps_if (pt_cmpR op_notIn_seq pe_bl (pe_lc (N := ["_law_good", "_law_atom_here", "_law_drawn", "_law_world_here"]) (sc := defScope sLFactHolds) (own := ["_law_good", "_law_atom_here"]) (fr := ["_law_drawn", "_law_world_here"]) (js := [0, 2]) ⟨rfl, rfl, rfl, rfl, by decide +kernel, by decide +kernel, by decide +kernel, rfl, by decide +kernel⟩ rfl (pi_list (pv 3)) (fun _ _ _ _ => gtupK K rfl (pg_tup (n := 2) rfl (pgs_cons (pg_name (i := 0) (show List.Nodup (["_law_good", "_law_atom_here", "_law_drawn", "_law_world_here"] : List Str) by decide +kernel) rfl (Or.inl rfl)) (pgs_cons (pg_name (i := 1) (show List.Nodup (["_law_good", "_law_atom_here", "_law_drawn", "_law_world_here"] : List Str) by decide +kernel) rfl (Or.inl rfl)) pgs_nil)))) (fun _ _ _ _ => pif_nil) (fun _ _ _ _ => (pe_cmpR op_eq (pe_call G_l_atom_holds hr2 (by rfl) D_l_atom_holds.m D_l_atom_holds.F.kp D_l_atom_holds.b .nil pass0 (pa_cons (pv 2) (pa_cons (pv 1) (pa_cons (pv 3) pa_nil)))) (pv 0) (nomark _)))) (by rfl)) (pss_one (ps_ret pe_bl)) pss_nil)))
      (pss_one (ps_ret pe_bl))), ?_⟩
    refine ⟨_, rfl, d, rfl, ⟨_, SqL.of ed⟩, for_list (K := K) (a := d) (xs := us) (fun i σ H6 => ∃ v3 : Option V, σ = [some (.ref r), some (.ref d), some v, v3] ∧ Same H H6 ∧ ∀ ts ∈ ps.take i, partB W ts = false) ⟨none, rfl, Same.refl _, fun ts z => by rw [List.take_zero] at z; cases z⟩ (fun i σ H6 _ hh0 => by obtain ⟨_, _, s6, _⟩ := hh0; exact SqL.of (s6 _ _ ed)) ?_ ?_⟩
    · rintro i y σ H6 hx ⟨v3, rfl, s6, hno⟩
      obtain ⟨ts, hts, hmem, pv⟩ := au.at hx
      obtain ⟨t, vs, rfl, et, av⟩ := pv.same s6
      have po := fo.ok _ hmem
      have hvl := av.len
      have hfw := po.few
      refine ⟨_, rfl, t, rfl, ⟨_, SqL.of et⟩, fun D hD => ?_⟩
      refine lcJ2 (K := K) (n := vs.length) (fun j ys H2 => Same H6 H2 ∧ H2 D = some (.lst ys) ∧ ys = ((ts.take j).map fun z => z.2.tv W == z.1).map V.bl) ⟨Same.new hD, upd_same, by rw [List.take_zero]; rfl⟩
        (fun j ys H2 hj hh0 => by obtain ⟨s2, _, _⟩ := hh0; exact ⟨_, vs[j], SqL.of (s2 _ _ et), by simp [hj]⟩) (fun ys H2 hh0 => by obtain ⟨s2, _, _⟩ := hh0; exact ⟨_, SqL.of (s2 _ _ et), Nat.le_refl _⟩) ?_ ?_
      · rintro j ys H2 y H3 hj ⟨s2, e2, y0⟩ ⟨rfl, hy⟩
        obtain ⟨tt, htt, hmt, a', l', rfl, ea, el⟩ := av.at (hy _ (SqL.of (s2 _ _ et)))
        subst y0
        refine ⟨a', _, _, rfl, SqT.of (s2 _ _ ea), lc_yes ?_⟩
        have s62 := s6.trans s2
        refine ⟨_, rfl, _, rfl, _, rfl, r, l', rs, v, W, tt.2, rfl, R.same s62, s2 _ _ el, s62.rd rv, wo, po.ok _ hmt, fun H4 s4 => ?_⟩
        refine ⟨_, rfl, rfl, ?_⟩
        rw [bl_eq]
        refine ⟨_, s4 _ _ e2, ?_, (s2.trans s4).put hD, upd_same, ?_⟩
        · rw [List.length_map, List.length_map, List.length_take]; lia
        · rw [take_snoc htt, List.map_append, List.map_append]
          rfl
      · rintro ys H2 ⟨s2, e2, y1⟩
        rw [hvl, take_all] at y1
        subst y1
        have e7 : (!inV (V.bl false) ((ts.map fun z => z.2.tv W == z.1).map V.bl)) = partB W ts := by
          rw [inV_bls, List.all_map]
          rfl
        refine ⟨D, _, rfl, .inl (SqL.of e2), rfl, flat_bls _, _, rfl, ?_⟩
        show if (!inV (V.bl false) ((ts.map fun z => z.2.tv W == z.1).map V.bl)) = true then _ else _
        rw [e7]
        cases hB : partB W ts with
        | true =>
          refine iteT ?_
          have e : factB W ps = true := List.any_eq_true.mpr ⟨ts, hmem, hB⟩
          rw [e] at q
          exact q H2 (s6.trans s2)
        | false =>
          refine iteF ⟨_, rfl, s6.trans s2, fun z hz => ?_⟩
          rw [take_snoc hts] at hz
          rcases List.mem_append.mp hz with z1 | z1
          · exact hno z z1
          · rw [List.mem_singleton.mp z1]
            exact hB
    · rintro σ H6 ⟨v3, rfl, s6, hno⟩
      rw [hul, take_all] at hno
      have e : factB W ps = false := by
        unfold factB
        rw [List.any_eq_false]
        intro ts hts z
        rw [hno ts hts] at z
        cases z
      rw [e] at q
      exact q H6 s6
end
end K14
namespace K14
open PySem L2 Tx Rk PyProof.Rows PySem.SeqAt
open PySem.PyData (strOk)
section
variable {P : Program} {w : World} {K : PySem.W.Frag} {mg : Str → Option Value} {base : Heap}
theorem JS_mem {y : List Nat} {c : Nat} : ∀ {ps : List (List Nat)}, c ∈ JS y ps → c ∈ y ∨ ∃ p ∈ ps, c ∈ p
  | [], h => nomatch h
  | [a], h => .inr ⟨a, List.mem_singleton.mpr rfl, h⟩
  | a :: b :: r, h => by
    rcases List.mem_append.mp (show c ∈ a ++ (y ++ JS y (b :: r)) from h) with z | z
    · exact .inr ⟨a, List.mem_cons_self .., z⟩
    · rcases List.mem_append.mp z with z | z
      · exact .inl z
      · rcases JS_mem z with q | ⟨p, h1, h2⟩
        · exact .inl q
        · exact .inr ⟨p, List.mem_cons_of_mem _ h1, h2⟩
theorem ok_join {y : Str} {xs : List Str} (hy : strOk y = true) (h : ∀ x ∈ xs, strOk x = true) : strOk (Txt.join y xs) = true := ok_of fun c hc => by
  have hc' : c ∈ cs (Txt.join y xs) := hc
  rw [cs_joinS] at hc'
  rcases JS_mem hc' with z | ⟨p, h1, h2⟩
  · exact ok_mem hy z
  · obtain ⟨x, hx, rfl⟩ := List.mem_map.mp h1
    exact ok_mem (h x hx) h2
theorem fact_ok {rs : List Ro} (g : Good rs) {ps : List (List Tt)} (p : FOk rs ps) : strOk (factT ps) = true := by
  refine ok_join (by decide +kernel) fun x hx => ?_
  obtain ⟨ts, hts, rfl⟩ := List.mem_map.mp hx
  refine ok_join (by decide +kernel) fun x hx => ?_
  obtain ⟨t, ht, rfl⟩ := List.mem_map.mp hx
  refine ok_join (by decide +kernel) fun x hx => ?_
  have sk := Am.sks g ((p.ok ts hts).ok t ht)
  unfold tmW at hx
  split at hx
  · exact sk x hx
  · rcases List.mem_cons.mp hx with e | e
    · rw [e]; decide +kernel
    · exact sk x e
noncomputable def dE (f : Str) (o : Option Str) : PyData := .tuple [.str f, dO o]
theorem eqv_dE (f : Str) (o : Option Str) : PyData.eqv (dE f o) (dE f o) = true := by
  unfold dE
  rw [PyData.eqv, PyData.eqvAll, PyData.eqvAll, PyData.eqvAll, eqv_str]
  cases o with
  | none =>
    show (decide (f = f) && (PyData.eqv .none .none && true)) = true
    rw [PyData.eqv]
    simp
  | some x =>
    show (decide (f = f) && (PyData.eqv (.str x) (.str x) && true)) = true
    rw [eqv_str]
    simp
theorem sh_dE {f : Str} {o : Option Str} (hf : strOk f = true) (ho : ∀ x ∈ o, strOk x = true) : shaped (dE f o) = true := by
  cases o with
  | none =>
    refine shaped_of ?_ ?_
    · unfold dE
      simp [PyData.canLay0, PyData.canLayAll0, dO, hf]
    · unfold dE
      simp [PyData.depth, PyData.depthAll, dO]
  | some x =>
    have hx := ho x rfl
    refine shaped_of ?_ ?_
    · unfold dE
      simp [PyData.canLay0, PyData.canLayAll0, dO, hf, hx]
    · unfold dE
      simp [PyData.depth, PyData.depthAll, dO]
theorem rd_dE {H : Hp} {t : Addr} {f : Str} {o : Option Str} (e : H t = some (.tup [.str f, oV o])) : RdV H (.ref t) (dE f o) := .tup e (.cons (.str _) (.cons (rd_oV o) .nil))
theorem eqE {H : Hp} {t u : Addr} {f : Str} {o : Option Str} {Qx : VK} (e1 : H t = some (.tup [.str f, oV o])) (hu : H u = none) (hf : strOk f = true) (ho : ∀ x ∈ o, strOk x = true) (q : ∀ H' : Hp, Same H H' → Qx (.bl true) H') : rEqD false (.ref t) (.ref u) (upd H u (.tup [.str f, oV o])) Qx := by
  refine ⟨dE f o, dE f o, rd_dE (Same.new hu _ _ e1), rd_dE upd_same, sh_dE hf ho, sh_dE hf ho, ?_⟩
  rw [eqv_dE]
  exact q _ (Same.new hu)
end
end K14
namespace K14
open PySem L2 Tx Rk PyProof.Rows PySem.SeqAt
open PySem.PyData (strOk)
section
variable {P : Program} {w : World} {K : PySem.W.Frag} {mg : Str → Option Value} {base : Heap}
theorem ok_law {f C fI fS fR fW fA fH fD fE fT : Addr} {fd dI dS dR dV dA dH' dD dE dT : FuncData} (F : Fun K "law" "law" sLaw f fd) (D_l_sizes : Df K mg "_law_sizes" sSizes ["_law_script"] fS dS) (D_l_room : Df K mg "_law_room" sRoom pRoom fR dR) (D_l_world : Df K mg "_law_world" sWorld pWorld fW dV) (D_l_parts : Df K mg "_law_parts" sLParts pLParts fA dA)
    (D_holds : Df K mg "holds" sHolds pHolds fH dH') (D_l_fact_holds : Df K mg "_law_fact_holds" sLFactHolds pLFactHolds fD dD) (D_read_errand : Df K mg "read_errand" sReadErrand pReadErrand fE dE) (D_l_text : Df K mg "_law_text" sLText pLText fT dT) (T : Bl mg) (MC : L2.Mk K C fI) (mC : mg "Room" = some (.ref C)) (bI : Binds K dI ["self", "lines"] [])
    (GI : FnOk P w K mg base CX0 4 fI dI ["self", "lines"] (spInit C)) (G_l_sizes : FnOk P w K mg base CX0 2 fS dS ["_law_script"] (spSizes K)) (G_l_room : FnOk P w K mg base CX0 3 fR dR pRoom (spRoom K)) (G_l_world : FnOk P w K mg base CX0 2 fW dV pWorld (spWorld K)) (G_l_parts : FnOk P w K mg base CX0 3 fA dA pLParts (spLParts K))
    (G_holds : FnOk P w K mg base CX0 7 fH dH' pHolds (spHoldsN C)) (G_l_fact_holds : FnOk P w K mg base CX0 3 fD dD pLFactHolds spLFact) (G_read_errand : FnOk P w K mg base CX0 7 fE dE pReadErrand (spErrand C)) (G_l_text : FnOk P w K mg base CX0 1 fT dT pLText spLText) : FnOk P w K mg base CX0 9 f fd ["_law_script"] (spLaw K) := by
  refine F.ok scLaw (fun vs H Q E h => ?_) (fun cdv A outer s H vs Q E hr8 h => ?_)
  · obtain ⟨a, ns, rfl, _⟩ := h
    rfl
  · obtain ⟨a, ns, rfl, hS, hn, q⟩ := h
    have hr : Room 5 _ := hr8.mono (by decide)
    have hr1 : Room 1 _ := hr8.mono (by decide)
    have hr2 : Room 2 _ := hr8.mono (by decide)
    have hr3 : Room 3 _ := hr8.mono (by decide)
    have hr7 : Room 7 _ := hr8.mono (by decide)
    have hun := hr8.units
    have hu := hu_of hr8
    have hsl : sizeLine = 16777216 := sizeLine_eq
    refine ⟨_, (pss_cons (ps_asg (pe_call G_l_sizes hr2 (by rfl) D_l_sizes.m D_l_sizes.F.kp D_l_sizes.b .nil pass0 (pa_cons (pv 0) pa_nil)) (pg_tup rfl (pgs_cons (pg_name (i := 1) scLaw.nd rfl (Or.inl rfl)) (pgs_cons (pg_name (i := 2) scLaw.nd rfl (Or.inl rfl)) pgs_nil))))
      (pss_cons (ps_set (i := 3) scLaw.nd rfl (Or.inl rfl) (pe_call G_l_room hr3 (by rfl) D_l_room.m D_l_room.F.kp D_l_room.b .nil pass0 (pa_cons (pv 0) (pa_cons (pv 1) (pa_cons (pv 2) pa_nil)))))
      (pss_cons (ps_set (i := 4) scLaw.nd rfl (Or.inl rfl) (pe_make MC GI hr (by rfl) mC bI .nil pass0 (pa_cons (pe_callTy call_list_of (by rfl) T.list bt_list (pa_cons (pe_dget hu (pv 3) pe_str (fun _ _ => rfl)) pa_nil)) pa_nil)))
      (pss_cons (ps_set (i := 5) scLaw.nd rfl (Or.inl rfl) (pe_call G_l_parts hr3 (by rfl) D_l_parts.m D_l_parts.F.kp D_l_parts.b .nil pass0 (pa_cons (pv 0) (pa_cons pe_int (pa_cons (pv 3) (pa_cons pe_int pa_nil))))))
      (pss_cons (ps_for PassesOwn.never rfl (pi_range1 (by rfl) T.range (pa_cons pe_int pa_nil)) (pg_name (i := 6) scLaw.nd rfl (Or.inl rfl))
        (pss_cons (ps_set (i := 7) scLaw.nd rfl (Or.inl rfl) (pe_call G_l_world hr2 (by rfl) D_l_world.m D_l_world.F.kp D_l_world.b .nil pass0 (pa_cons (pv 0) (pa_cons (pe_op op_add pe_int (pe_op op_mul pe_int (pv 6))) (pa_cons (pv 3) pa_nil)))))
      (pss_cons (ps_set (i := 8) scLaw.nd rfl (Or.inl rfl) (pe_call G_holds hr7 (by rfl) D_holds.m D_holds.F.kp D_holds.b .nil pass0 (pa_cons (pv 4) (pa_cons (pe_call G_l_text hr1 (by rfl) D_l_text.m D_l_text.F.kp D_l_text.b .nil pass0 (pa_cons (pv 5) pa_nil)) (pa_cons (pv 7) pa_nil)))))
      (pss_one (ps_if (PW.pt (pw_or (pt_not (pt_val (pe_callB call_isiB (by rfl) T.isi bt_isi (pa_cons (pv 8) (pa_cons (pe_bltn (v := .ty "bool") (by rfl) T.bool bt_bool rfl) pa_nil))))) (pw_or1 (pt_cmpR op_ne (pv 8) (pe_call G_l_fact_holds hr3 (by rfl) D_l_fact_holds.m D_l_fact_holds.F.kp D_l_fact_holds.b .nil pass0 (pa_cons (pv 3) (pa_cons (pv 5) (pa_cons (pv 7) pa_nil)))) (nomark _))))) (pss_one (ps_ret pe_bl)) pss_nil)))))
      (pss_cons (ps_set (i := 9) scLaw.nd rfl (Or.inl rfl) (pe_call G_l_text hr1 (by rfl) D_l_text.m D_l_text.F.kp D_l_text.b .nil pass0 (pa_cons (pe_call G_l_parts hr3 (by rfl) D_l_parts.m D_l_parts.F.kp D_l_parts.b .nil pass0 (pa_cons (pv 0) (pa_cons pe_int (pa_cons (pv 3) (pa_cons pe_int pa_nil))))) pa_nil)))
      (pss_cons (ps_set (i := 10) scLaw.nd rfl (Or.inl rfl) (pe_call G_l_text hr1 (by rfl) D_l_text.m D_l_text.F.kp D_l_text.b .nil pass0 (pa_cons (pe_call G_l_parts hr3 (by rfl) D_l_parts.m D_l_parts.F.kp D_l_parts.b .nil pass0 (pa_cons (pv 0) (pa_cons pe_int (pa_cons (pv 3) (pa_cons pe_int pa_nil))))) pa_nil)))
      (pss_cons (ps_set (i := 11) scLaw.nd rfl (Or.inl rfl) (pe_call G_read_errand hr7 (by rfl) D_read_errand.m D_read_errand.F.kp D_read_errand.b .nil pass0 (pa_cons (pv 4) (pa_cons (pe_op op_add_str (pe_op op_add_str (pv 9) pe_str) (pv 10)) pa_nil))))
      (pss_cons (ps_set (i := 12) scLaw.nd rfl (Or.inl rfl) (pe_call G_read_errand hr7 (by rfl) D_read_errand.m D_read_errand.F.kp D_read_errand.b .nil pass0 (pa_cons (pv 4) (pa_cons (pv 9) pa_nil))))
      (pss_cons (ps_if (PW.pt (pw_or (pt_not (pt_val (pe_callB call_isiT (by rfl) T.isi bt_isi (pa_cons (pv 11) (pa_cons (pe_bltn (v := .ty "tuple") (by rfl) T.tuple bt_tuple rfl) pa_nil))))) (pw_or1 (pt_not (pt_val (pe_callB call_isiT (by rfl) T.isi bt_isi (pa_cons (pv 12) (pa_cons (pe_bltn (v := .ty "tuple") (by rfl) T.tuple bt_tuple rfl) pa_nil)))))))) (pss_one (ps_ret pe_bl)) pss_nil)
      (pss_one (ps_ret (pe_and (pe_cmpR (op_eqD hun) (pv 11) (pe_tup (pa_cons (pv 9) (pa_cons (pv 10) pa_nil))) (nomark _)) (pe_one (pe_cmpR (op_eqD hun) (pv 12) (pe_tup (pa_cons (pv 9) (pa_cons pe_non pa_nil))) (nomark _)))))))))))))))), ?_⟩
    refine ⟨_, rfl, a, ns, rfl, hS, hn, fun t p m H1 s1 e1 p0 p1 m0 m1 => ?_⟩
    refine ⟨t, _, rfl, SqT.of e1, rfl, _, _, rfl, _, _, rfl, rfl, ?_⟩
    refine ⟨_, rfl, _, rfl, _, rfl, a, ns, p, m, rfl, s1.seq hS, hn, p0, p1, m0, m1, fun dr rs H2 s2 R hpl htl hrl => ?_⟩
    have s12 := s1.trans s2
    have g := R.good
    obtain ⟨kvs, L3, pp, pt, d1, d2, d3, D, k1, k2, k3, k4, k5, k6, k7, g1, g2, g3, g4, g5, g6, g7⟩ := R.ex
    refine ⟨_, rfl, dr, _, rfl, dget k1 k7, D, _, rfl, .inl (SqL.of g6), fun l hl => ?_⟩
    have s3 : Same H2 (upd H2 l (.lst ((rs.map Ro.txt).map V.str))) := Same.new hl
    have e3 : (upd H2 l (.lst ((rs.map Ro.txt).map V.str))) l = some (.lst ((rs.map Ro.txt).map V.str)) := upd_same
    generalize (upd H2 l (.lst ((rs.map Ro.txt).map V.str))) = H3 at s3 e3 ⊢
    intro x dx nx ndx nex
    have s4 : Same H3 (upd (upd H3 dx (.own x)) x (.ins C dx [])) := fun b o e => by
      rw [upd_ne (ne_of_none e nx), upd_ne (ne_of_none e ndx)]
      exact e
    refine ⟨x, dx, l, rs, rfl, upd_same, s4 _ _ e3, g, hrl, fun H5 kp RA => ⟨rfl, ?_⟩⟩
    have s5 : Same H3 H5 := fun b o e => kp b o (s4 _ _ e) (ne_of_none e nx)
    have s25 := s3.trans s5
    have R5 := R.same s25
    have hS5 := (s12.trans s25).seq hS
    have hpn : 1 ≤ (plc rs).length := by lia
    refine ⟨_, rfl, _, rfl, a, ns, _, dr, rs, _, rfl, hS5, hn, by decide, by decide, R5, hpn, by decide, by decide, fun br us ps Hb sb eb ab fb => ?_⟩
    have hS5 := sb.seq hS5
    have R5 := R5.same sb
    have RA := RA.same sb
    refine ⟨_, rfl, by decide, by decide, for_range (n := (3 : Int).toNat) (fun i σ H6 => ∃ v6 v7 v8 v9 v10 v11 v12 : Option V, σ = [some (.ref a), some (.int p), some (.int m), some (.ref dr), some (.ref x), some (.ref br), v6, v7, v8, v9, v10, v11, v12] ∧ Same Hb H6) ⟨none, none, none, none, none, none, none, rfl, Same.refl _⟩ ?_ ?_⟩
    · rintro i σ H6 hi ⟨v6, v7, v8, v9, v10, v11, v12, rfl, s6⟩
      have hi2 : i < 3 := hi
      have R6 := R5.same s6
      refine ⟨_, rfl, _, rfl, _, _, rfl, rfl, .inl ⟨by decide, by decide⟩, _, _, rfl, rfl, _, rfl, a, ns, _, dr, rs, rfl, s6.seq hS5, hn, by lia, by lia, R6, hpn, fun v W H7 s7 r7 z7 w7 => ?_⟩
      have s67 := s6.trans s7
      have wo : Wo rs W := ⟨g, w7, z7⟩
      refine ⟨_, rfl, _, rfl, br, us, ps, rs, rfl, s67 _ _ eb, ab.mono (fun v z _ y => y.same s67), g, fb, fun H8 s8 => ?_⟩
      have s68 := s67.trans s8
      refine ⟨_, rfl, x, rs, v, W, ps, rfl, RA.same s68, fb, s8.rd r7, wo, fun H9 s9 => ?_⟩
      have s69 := s68.trans s9
      refine ⟨_, rfl, _, rfl, _, rfl, ?_⟩
      refine iteF ?_
      refine ⟨_, rfl, _, rfl, _, rfl, _, rfl, dr, br, us, ps, rs, v, W, rfl, R5.same s69, s69 _ _ eb, ab.mono (fun v z _ y => y.same s69), fb, (s8.trans s9).rd r7, wo, fun H10 s10 => ?_⟩
      generalize factB W ps = z
      cases z with
      | true =>
        refine ⟨rfl, _, rfl, ?_⟩
        exact iteF ⟨_, _, _, _, _, _, _, rfl, s69.trans s10⟩
      | false =>
        refine ⟨rfl, _, rfl, ?_⟩
        exact iteF ⟨_, _, _, _, _, _, _, rfl, s69.trans s10⟩
    · rintro σ H6 ⟨v6, v7, v8, v9, v10, v11, v12, rfl, s6⟩
      refine ⟨_, rfl, _, rfl, a, ns, _, dr, rs, _, rfl, s6.seq hS5, hn, by decide, by decide, R5.same s6, hpn, by decide, by decide, fun b1 us1 ps1 Hc sc ec ac fc => ?_⟩
      refine ⟨b1, us1, ps1, rs, rfl, ec, ac, g, fc, fun Hd sd => ?_⟩
      have s6d := s6.trans (sc.trans sd)
      refine ⟨_, rfl, _, rfl, a, ns, _, dr, rs, _, rfl, s6d.seq hS5, hn, by decide, by decide, R5.same s6d, hpn, by decide, by decide, fun b2 us2 ps2 He se ee ae fe => ?_⟩
      refine ⟨b2, us2, ps2, rs, rfl, ee, ae, g, fe, fun Hf sf => ?_⟩
      have s6f := s6d.trans (se.trans sf)
      have hl1 := fact_len g fc
      have hl2 := fact_len g fe
      have hw : (Str.ofString " while ").length = 7 := by decide +kernel
      refine ⟨_, rfl, _, rfl, _, _, rfl, rfl, by lia, _, rfl, _, _, rfl, rfl, by rw [len_app]; lia, x, rs, ps1, some ps2, rfl, RA.same s6f, g, fc, (fun q e => by cases e; exact fe), fun t1 Hg sg eg => ?_⟩
      have s6g := s6f.trans sg
      refine ⟨_, rfl, _, rfl, x, rs, ps1, none, rfl, RA.same s6g, g, fc, (fun q e => by cases e), fun t2 Hh sh eh => ?_⟩
      have eg' := sh _ _ eg
      refine ⟨_, rfl, t1, _, rfl, eg', _, rfl, ?_⟩
      refine iteF ?_
      refine ⟨_, rfl, t2, _, rfl, eh, _, rfl, ?_⟩
      refine iteF ?_
      have k1 := fact_ok g fc
      have k2 := fact_ok g fe
      refine ⟨_, rfl, _, rfl, _, rfl, by show 2 ≤ sizeLine; lia, fun t3 h3 => ?_⟩
      refine eqE (o := some (factT ps2)) eg' h3 k1 (fun x hx => by cases hx; exact k2) fun Hi si => ⟨_, rfl, ?_⟩
      refine iteT ?_
      refine ⟨_, rfl, _, rfl, by show 2 ≤ sizeLine; lia, fun t4 h4 => ?_⟩
      exact eqE (o := none) (si _ _ eh) h4 k1 (fun x hx => by cases hx) fun Hj sj => q Hj
end
end K14
namespace K14
open PySem L2 Tx Rk PyProof.Rows PySem.SeqAt
theorem ln1 {P : List Value → Prop} (h : ∀ a0 : Value, P [a0]) : ∀ us : List Value, us.length = 1 → P us := fun us hl => by
  obtain _ | ⟨a0, r0⟩ := us
  · exact absurd hl (by simp)
  obtain _ | ⟨b, r⟩ := r0
  · exact h a0
  · exact absurd hl (by simp)
theorem ln2 {P : List Value → Prop} (h : ∀ a0 a1 : Value, P [a0, a1]) : ∀ us : List Value, us.length = 2 → P us := fun us hl => by
  obtain _ | ⟨a0, r0⟩ := us
  · exact absurd hl (by simp)
  obtain _ | ⟨a1, r1⟩ := r0
  · exact absurd hl (by simp)
  obtain _ | ⟨b, r⟩ := r1
  · exact h a0 a1
  · exact absurd hl (by simp)
theorem ln3 {P : List Value → Prop} (h : ∀ a0 a1 a2 : Value, P [a0, a1, a2]) : ∀ us : List Value, us.length = 3 → P us := fun us hl => by
  obtain _ | ⟨a0, r0⟩ := us
  · exact absurd hl (by simp)
  obtain _ | ⟨a1, r1⟩ := r0
  · exact absurd hl (by simp)
  obtain _ | ⟨a2, r2⟩ := r1
  · exact absurd hl (by simp)
  obtain _ | ⟨b, r⟩ := r2
  · exact h a0 a1 a2
  · exact absurd hl (by simp)
theorem ln4 {P : List Value → Prop} (h : ∀ a0 a1 a2 a3 : Value, P [a0, a1, a2, a3]) : ∀ us : List Value, us.length = 4 → P us := fun us hl => by
  obtain _ | ⟨a0, r0⟩ := us
  · exact absurd hl (by simp)
  obtain _ | ⟨a1, r1⟩ := r0
  · exact absurd hl (by simp)
  obtain _ | ⟨a2, r2⟩ := r1
  · exact absurd hl (by simp)
  obtain _ | ⟨a3, r3⟩ := r2
  · exact absurd hl (by simp)
  obtain _ | ⟨b, r⟩ := r3
  · exact h a0 a1 a2 a3
  · exact absurd hl (by simp)
theorem all_mk {l : PySem.W.OpenLaw} {w : World} {K : PySem.W.Frag} {h : Heap} {mg : Str → Option Value} {fa C aN aF tF1 tF2 tF3 tF4 aI f1 f2 f3 f4 f5 f6 f7 f8 f9 f10 f11 f12 f13 f14 f15 f16 f17 f18 f19 f20 f21 f22 f23 f24 f25 f26 f27 f28 f29 f30 f31 f32 f33 f34 f35 f36 f37 f38 : Addr} (X : K.In h) (G : h.Ns mainGlobals mg) (hfa : mg "law" = some (.ref fa))
    {od1 an1 od2 an2 od3 an3 od4 an4 od5 an5 od6 an6 od7 an7 od8 an8 od9 an9 od10 an10 od11 an11 od12 an12 od13 an13 od14 an14 od15 an15 od16 an16 od17 an17 od18 an18 od19 an19 od20 an20 od21 an21 od22 an22 od23 an23 od24 an24 od25 an25 od26 an26 od27 an27 od28 an28 od29 an29 od30 an30 od31 an31 od32 an32 od33 an33 od34 an34 od35 an35 od36 an36 od37 an37 od38 an38 odN odF oF1 oF2 oF3 oF4 odI : Option Addr} {sl1 sl2 sl3 sl4 sl5 sl6 sl7 sl8 sl9 sl10 sl11 sl12 sl13 sl14 sl15 sl16 sl17 sl18 sl19 sl20 sl21 sl22 sl23 sl24 sl25 sl26 sl27 sl28 sl29 sl30 sl31 sl32 sl33 sl34 sl35 sl36 sl37 sl38 slN slF sF1 sF2 sF3 sF4 slI : Array (Option Value)} {oc1 kV1 dc1 pm1 cd1 ct1 oc2 kV2 dc2 pm2 cd2 ct2 oc3 kV3 dc3 pm3 cd3 ct3 oc4 kV4 dc4 pm4 cd4 ct4 oc5 kV5 dc5 pm5 cd5 ct5 oc6 kV6 dc6 pm6 cd6 ct6 oc7 kV7 dc7 pm7 cd7 ct7 oc8 kV8 dc8 pm8 cd8 ct8 oc9 kV9 dc9 pm9 cd9 ct9 oc10 kV10 dc10 pm10 cd10 ct10 oc11 kV11 dc11 pm11 cd11 ct11 oc12 kV12 dc12 pm12 cd12 ct12 oc13 kV13 dc13 pm13 cd13 ct13 oc14 kV14 dc14 pm14 cd14 ct14 oc15 kV15 dc15 pm15 cd15 ct15 oc16 kV16 dc16 pm16 cd16 ct16 oc17 kV17 dc17 pm17 cd17 ct17 oc18 kV18 dc18 pm18 cd18 ct18 oc19 kV19 dc19 pm19 cd19 ct19 oc20 kV20 dc20 pm20 cd20 ct20 oc21 kV21 dc21 pm21 cd21 ct21 oc22 kV22 dc22 pm22 cd22 ct22 oc23 kV23 dc23 pm23 cd23 ct23 oc24 kV24 dc24 pm24 cd24 ct24 oc25 kV25 dc25 pm25 cd25 ct25 oc26 kV26 dc26 pm26 cd26 ct26 oc27 kV27 dc27 pm27 cd27 ct27 oc28 kV28 dc28 pm28 cd28 ct28 oc29 kV29 dc29 pm29 cd29 ct29 oc30 kV30 dc30 pm30 cd30 ct30 oc31 kV31 dc31 pm31 cd31 ct31 oc32 kV32 dc32 pm32 cd32 ct32 oc33 kV33 dc33 pm33 cd33 ct33 oc34 kV34 dc34 pm34 cd34 ct34 oc35 kV35 dc35 pm35 cd35 ct35 oc36 kV36 dc36 pm36 cd36 ct36 oc37 kV37 dc37 pm37 cd37 ct37 oc38 kV38 dc38 pm38 cd38 ct38 uL uO uP uT : Value} {itN itF iF1 iF2 iF3 iF4 itI : Array Value} {nN nF nF1 nF2 nF3 nF4 nnI : Nat}
    (a1 : PySem.W.nsIn K mainGlobals "heap_in" = some (some (.ref f1))) (l1 : K.lookup f1 = some ⟨oc1, od1, .func (PySem.W.fnOf "heap_in" "heap_in" (defArgs sHeapIn) (defBody sHeapIn) (defScope sHeapIn) .none kV1 dc1 pm1 an1 cd1 ct1), sl1⟩) (c1 : PySem.W.codeIn K cd1 "heap_in" = true) (k1 : PySem.W.keepIn K (.ref f1) = true)
    (a2 : PySem.W.nsIn K mainGlobals "lid_on" = some (some (.ref f2))) (l2 : K.lookup f2 = some ⟨oc2, od2, .func (PySem.W.fnOf "lid_on" "lid_on" (defArgs sLidOn) (defBody sLidOn) (defScope sLidOn) .none kV2 dc2 pm2 an2 cd2 ct2), sl2⟩) (c2 : PySem.W.codeIn K cd2 "lid_on" = true) (k2 : PySem.W.keepIn K (.ref f2) = true)
    (a3 : PySem.W.nsIn K mainGlobals "holds" = some (some (.ref f3))) (l3 : K.lookup f3 = some ⟨oc3, od3, .func (PySem.W.fnOf "holds" "holds" (defArgs sHolds) (defBody sHolds) (defScope sHolds) .none kV3 dc3 pm3 an3 cd3 ct3), sl3⟩) (c3 : PySem.W.codeIn K cd3 "holds" = true) (k3 : PySem.W.keepIn K (.ref f3) = true)
    (a4 : PySem.W.nsIn K mainGlobals "read_errand" = some (some (.ref f4))) (l4 : K.lookup f4 = some ⟨oc4, od4, .func (PySem.W.fnOf "read_errand" "read_errand" (defArgs sReadErrand) (defBody sReadErrand) (defScope sReadErrand) .none kV4 dc4 pm4 an4 cd4 ct4), sl4⟩) (c4 : PySem.W.codeIn K cd4 "read_errand" = true) (k4 : PySem.W.keepIn K (.ref f4) = true)
    (a5 : PySem.W.nsIn K mainGlobals "read_fact" = some (some (.ref f5))) (l5 : K.lookup f5 = some ⟨oc5, od5, .func (PySem.W.fnOf "read_fact" "read_fact" (defArgs sReadFact) (defBody sReadFact) (defScope sReadFact) .none kV5 dc5 pm5 an5 cd5 ct5), sl5⟩) (c5 : PySem.W.codeIn K cd5 "read_fact" = true) (k5 : PySem.W.keepIn K (.ref f5) = true)
    (a6 : PySem.W.nsIn K mainGlobals "read_part" = some (some (.ref f6))) (l6 : K.lookup f6 = some ⟨oc6, od6, .func (PySem.W.fnOf "read_part" "read_part" (defArgs sReadPart) (defBody sReadPart) (defScope sReadPart) .none kV6 dc6 pm6 an6 cd6 ct6), sl6⟩) (c6 : PySem.W.codeIn K cd6 "read_part" = true) (k6 : PySem.W.keepIn K (.ref f6) = true)
    (a7 : PySem.W.nsIn K mainGlobals "read_term" = some (some (.ref f7))) (l7 : K.lookup f7 = some ⟨oc7, od7, .func (PySem.W.fnOf "read_term" "read_term" (defArgs sReadTerm) (defBody sReadTerm) (defScope sReadTerm) .none kV7 dc7 pm7 an7 cd7 ct7), sl7⟩) (c7 : PySem.W.codeIn K cd7 "read_term" = true) (k7 : PySem.W.keepIn K (.ref f7) = true)
    (a8 : PySem.W.nsIn K mainGlobals "is_atom" = some (some (.ref f8))) (l8 : K.lookup f8 = some ⟨oc8, od8, .func (PySem.W.fnOf "is_atom" "is_atom" (defArgs sIsAtom) (defBody sIsAtom) (defScope sIsAtom) .none kV8 dc8 pm8 an8 cd8 ct8), sl8⟩) (c8 : PySem.W.codeIn K cd8 "is_atom" = true) (k8 : PySem.W.keepIn K (.ref f8) = true)
    (a9 : PySem.W.nsIn K mainGlobals "is_short_atom" = some (some (.ref f9))) (l9 : K.lookup f9 = some ⟨oc9, od9, .func (PySem.W.fnOf "is_short_atom" "is_short_atom" (defArgs sIsShortAtom) (defBody sIsShortAtom) (defScope sIsShortAtom) .none kV9 dc9 pm9 an9 cd9 ct9), sl9⟩) (c9 : PySem.W.codeIn K cd9 "is_short_atom" = true) (k9 : PySem.W.keepIn K (.ref f9) = true)
    (a10 : PySem.W.nsIn K mainGlobals "is_spot" = some (some (.ref f10))) (l10 : K.lookup f10 = some ⟨oc10, od10, .func (PySem.W.fnOf "is_spot" "is_spot" (defArgs sIsSpot) (defBody sIsSpot) (defScope sIsSpot) .none kV10 dc10 pm10 an10 cd10 ct10), sl10⟩) (c10 : PySem.W.codeIn K cd10 "is_spot" = true) (k10 : PySem.W.keepIn K (.ref f10) = true)
    (a11 : PySem.W.nsIn K mainGlobals "part_holds" = some (some (.ref f11))) (l11 : K.lookup f11 = some ⟨oc11, od11, .func (PySem.W.fnOf "part_holds" "part_holds" (defArgs sPartHolds) (defBody sPartHolds) (defScope sPartHolds) .none kV11 dc11 pm11 an11 cd11 ct11), sl11⟩) (c11 : PySem.W.codeIn K cd11 "part_holds" = true) (k11 : PySem.W.keepIn K (.ref f11) = true)
    (a12 : PySem.W.nsIn K mainGlobals "atom_holds" = some (some (.ref f12))) (l12 : K.lookup f12 = some ⟨oc12, od12, .func (PySem.W.fnOf "atom_holds" "atom_holds" (defArgs sAtomHolds) (defBody sAtomHolds) (defScope sAtomHolds) .none kV12 dc12 pm12 an12 cd12 ct12), sl12⟩) (c12 : PySem.W.codeIn K cd12 "atom_holds" = true) (k12 : PySem.W.keepIn K (.ref f12) = true)
    (a13 : PySem.W.nsIn K mainGlobals "holds_of_thing" = some (some (.ref f13))) (l13 : K.lookup f13 = some ⟨oc13, od13, .func (PySem.W.fnOf "holds_of_thing" "holds_of_thing" (defArgs sHoldsOfThing) (defBody sHoldsOfThing) (defScope sHoldsOfThing) .none kV13 dc13 pm13 an13 cd13 ct13), sl13⟩) (c13 : PySem.W.codeIn K cd13 "holds_of_thing" = true) (k13 : PySem.W.keepIn K (.ref f13) = true)
    (a14 : PySem.W.nsIn K mainGlobals "lies_on" = some (some (.ref f14))) (l14 : K.lookup f14 = some ⟨oc14, od14, .func (PySem.W.fnOf "lies_on" "lies_on" (defArgs sLiesOn) (defBody sLiesOn) (defScope sLiesOn) .none kV14 dc14 pm14 an14 cd14 ct14), sl14⟩) (c14 : PySem.W.codeIn K cd14 "lies_on" = true) (k14 : PySem.W.keepIn K (.ref f14) = true)
    (a15 : PySem.W.nsIn K mainGlobals "is_name" = some (some (.ref f15))) (l15 : K.lookup f15 = some ⟨oc15, od15, .func (PySem.W.fnOf "is_name" "is_name" (defArgs sIsName) (defBody sIsName) (defScope sIsName) .none kV15 dc15 pm15 an15 cd15 ct15), sl15⟩) (c15 : PySem.W.codeIn K cd15 "is_name" = true) (k15 : PySem.W.keepIn K (.ref f15) = true)
    (a16 : PySem.W.nsIn K mainGlobals "read_line" = some (some (.ref f16))) (l16 : K.lookup f16 = some ⟨oc16, od16, .func (PySem.W.fnOf "read_line" "read_line" (defArgs sReadLine) (defBody sReadLine) (defScope sReadLine) .none kV16 dc16 pm16 an16 cd16 ct16), sl16⟩) (c16 : PySem.W.codeIn K cd16 "read_line" = true) (k16 : PySem.W.keepIn K (.ref f16) = true)
    (a17 : PySem.W.nsIn K mainGlobals "read_rows" = some (some (.ref f17))) (l17 : K.lookup f17 = some ⟨oc17, od17, .func (PySem.W.fnOf "read_rows" "read_rows" (defArgs sReadRows) (defBody sReadRows) (defScope sReadRows) .none kV17 dc17 pm17 an17 cd17 ct17), sl17⟩) (c17 : PySem.W.codeIn K cd17 "read_rows" = true) (k17 : PySem.W.keepIn K (.ref f17) = true)
    (a18 : PySem.W.nsIn K mainGlobals "read_things" = some (some (.ref f18))) (l18 : K.lookup f18 = some ⟨oc18, od18, .func (PySem.W.fnOf "read_things" "read_things" (defArgs sReadThings) (defBody sReadThings) (defScope sReadThings) .none kV18 dc18 pm18 an18 cd18 ct18), sl18⟩) (c18 : PySem.W.codeIn K cd18 "read_things" = true) (k18 : PySem.W.keepIn K (.ref f18) = true)
    (a19 : PySem.W.nsIn K mainGlobals "read_places" = some (some (.ref f19))) (l19 : K.lookup f19 = some ⟨oc19, od19, .func (PySem.W.fnOf "read_places" "read_places" (defArgs sReadPlaces) (defBody sReadPlaces) (defScope sReadPlaces) .none kV19 dc19 pm19 an19 cd19 ct19), sl19⟩) (c19 : PySem.W.codeIn K cd19 "read_places" = true) (k19 : PySem.W.keepIn K (.ref f19) = true)
    (a20 : PySem.W.nsIn K mainGlobals "check_keys" = some (some (.ref f20))) (l20 : K.lookup f20 = some ⟨oc20, od20, .func (PySem.W.fnOf "check_keys" "check_keys" (defArgs sCheckKeys) (defBody sCheckKeys) (defScope sCheckKeys) .none kV20 dc20 pm20 an20 cd20 ct20), sl20⟩) (c20 : PySem.W.codeIn K cd20 "check_keys" = true) (k20 : PySem.W.keepIn K (.ref f20) = true)
    (a21 : PySem.W.nsIn K mainGlobals "_law_pick" = some (some (.ref f21))) (l21 : K.lookup f21 = some ⟨oc21, od21, .func (PySem.W.fnOf "_law_pick" "_law_pick" (defArgs sPick) (defBody sPick) (defScope sPick) .none kV21 dc21 pm21 an21 cd21 ct21), sl21⟩) (c21 : PySem.W.codeIn K cd21 "_law_pick" = true) (k21 : PySem.W.keepIn K (.ref f21) = true)
    (a22 : PySem.W.nsIn K mainGlobals "_law_fixed" = some (some (.ref f22))) (l22 : K.lookup f22 = some ⟨oc22, od22, .func (PySem.W.fnOf "_law_fixed" "_law_fixed" (defArgs sFixed) (defBody sFixed) (defScope sFixed) .none kV22 dc22 pm22 an22 cd22 ct22), sl22⟩) (c22 : PySem.W.codeIn K cd22 "_law_fixed" = true) (k22 : PySem.W.keepIn K (.ref f22) = true)
    (a23 : PySem.W.nsIn K mainGlobals "_law_names" = some (some (.ref f23))) (l23 : K.lookup f23 = some ⟨oc23, od23, .func (PySem.W.fnOf "_law_names" "_law_names" (defArgs sNames) (defBody sNames) (defScope sNames) .none kV23 dc23 pm23 an23 cd23 ct23), sl23⟩) (c23 : PySem.W.codeIn K cd23 "_law_names" = true) (k23 : PySem.W.keepIn K (.ref f23) = true)
    (a24 : PySem.W.nsIn K mainGlobals "_law_place_line" = some (some (.ref f24))) (l24 : K.lookup f24 = some ⟨oc24, od24, .func (PySem.W.fnOf "_law_place_line" "_law_place_line" (defArgs sLine) (defBody sLine) (defScope sLine) .none kV24 dc24 pm24 an24 cd24 ct24), sl24⟩) (c24 : PySem.W.codeIn K cd24 "_law_place_line" = true) (k24 : PySem.W.keepIn K (.ref f24) = true)
    (a25 : PySem.W.nsIn K mainGlobals "_law_room" = some (some (.ref f25))) (l25 : K.lookup f25 = some ⟨oc25, od25, .func (PySem.W.fnOf "_law_room" "_law_room" (defArgs sRoom) (defBody sRoom) (defScope sRoom) .none kV25 dc25 pm25 an25 cd25 ct25), sl25⟩) (c25 : PySem.W.codeIn K cd25 "_law_room" = true) (k25 : PySem.W.keepIn K (.ref f25) = true)
    (a26 : PySem.W.nsIn K mainGlobals "_law_sizes" = some (some (.ref f26))) (l26 : K.lookup f26 = some ⟨oc26, od26, .func (PySem.W.fnOf "_law_sizes" "_law_sizes" (defArgs sSizes) (defBody sSizes) (defScope sSizes) .none kV26 dc26 pm26 an26 cd26 ct26), sl26⟩) (c26 : PySem.W.codeIn K cd26 "_law_sizes" = true) (k26 : PySem.W.keepIn K (.ref f26) = true)
    (a27 : PySem.W.nsIn K mainGlobals "_law_lids" = some (some (.ref f27))) (l27 : K.lookup f27 = some ⟨oc27, od27, .func (PySem.W.fnOf "_law_lids" "_law_lids" (defArgs sLids) (defBody sLids) (defScope sLids) .none kV27 dc27 pm27 an27 cd27 ct27), sl27⟩) (c27 : PySem.W.codeIn K cd27 "_law_lids" = true) (k27 : PySem.W.keepIn K (.ref f27) = true)
    (a28 : PySem.W.nsIn K mainGlobals "_law_world" = some (some (.ref f28))) (l28 : K.lookup f28 = some ⟨oc28, od28, .func (PySem.W.fnOf "_law_world" "_law_world" (defArgs sWorld) (defBody sWorld) (defScope sWorld) .none kV28 dc28 pm28 an28 cd28 ct28), sl28⟩) (c28 : PySem.W.codeIn K cd28 "_law_world" = true) (k28 : PySem.W.keepIn K (.ref f28) = true)
    (a29 : PySem.W.nsIn K mainGlobals "_law_atom" = some (some (.ref f29))) (l29 : K.lookup f29 = some ⟨oc29, od29, .func (PySem.W.fnOf "_law_atom" "_law_atom" (defArgs sLAtom) (defBody sLAtom) (defScope sLAtom) .none kV29 dc29 pm29 an29 cd29 ct29), sl29⟩) (c29 : PySem.W.codeIn K cd29 "_law_atom" = true) (k29 : PySem.W.keepIn K (.ref f29) = true)
    (a30 : PySem.W.nsIn K mainGlobals "_law_stands" = some (some (.ref f30))) (l30 : K.lookup f30 = some ⟨oc30, od30, .func (PySem.W.fnOf "_law_stands" "_law_stands" (defArgs sLStands) (defBody sLStands) (defScope sLStands) .none kV30 dc30 pm30 an30 cd30 ct30), sl30⟩) (c30 : PySem.W.codeIn K cd30 "_law_stands" = true) (k30 : PySem.W.keepIn K (.ref f30) = true)
    (a31 : PySem.W.nsIn K mainGlobals "_law_atom_holds" = some (some (.ref f31))) (l31 : K.lookup f31 = some ⟨oc31, od31, .func (PySem.W.fnOf "_law_atom_holds" "_law_atom_holds" (defArgs sLAtomHolds) (defBody sLAtomHolds) (defScope sLAtomHolds) .none kV31 dc31 pm31 an31 cd31 ct31), sl31⟩) (c31 : PySem.W.codeIn K cd31 "_law_atom_holds" = true) (k31 : PySem.W.keepIn K (.ref f31) = true)
    (a32 : PySem.W.nsIn K mainGlobals "_law_parts" = some (some (.ref f32))) (l32 : K.lookup f32 = some ⟨oc32, od32, .func (PySem.W.fnOf "_law_parts" "_law_parts" (defArgs sLParts) (defBody sLParts) (defScope sLParts) .none kV32 dc32 pm32 an32 cd32 ct32), sl32⟩) (c32 : PySem.W.codeIn K cd32 "_law_parts" = true) (k32 : PySem.W.keepIn K (.ref f32) = true)
    (a33 : PySem.W.nsIn K mainGlobals "_law_text" = some (some (.ref f33))) (l33 : K.lookup f33 = some ⟨oc33, od33, .func (PySem.W.fnOf "_law_text" "_law_text" (defArgs sLText) (defBody sLText) (defScope sLText) .none kV33 dc33 pm33 an33 cd33 ct33), sl33⟩) (c33 : PySem.W.codeIn K cd33 "_law_text" = true) (k33 : PySem.W.keepIn K (.ref f33) = true)
    (a34 : PySem.W.nsIn K mainGlobals "_law_fact_holds" = some (some (.ref f34))) (l34 : K.lookup f34 = some ⟨oc34, od34, .func (PySem.W.fnOf "_law_fact_holds" "_law_fact_holds" (defArgs sLFactHolds) (defBody sLFactHolds) (defScope sLFactHolds) .none kV34 dc34 pm34 an34 cd34 ct34), sl34⟩) (c34 : PySem.W.codeIn K cd34 "_law_fact_holds" = true) (k34 : PySem.W.keepIn K (.ref f34) = true)
    (a35 : PySem.W.nsIn K mainGlobals "law" = some (some (.ref f35))) (l35 : K.lookup f35 = some ⟨oc35, od35, .func (PySem.W.fnOf "law" "law" (defArgs sLaw) (defBody sLaw) (defScope sLaw) .none kV35 dc35 pm35 an35 cd35 ct35), sl35⟩) (c35 : PySem.W.codeIn K cd35 "law" = true) (k35 : PySem.W.keepIn K (.ref f35) = true)
    (aC : PySem.W.nsIn K mainGlobals "Room" = some (some (.ref C)))
    (a36 : PySem.W.findIn K (.ref C) "__init__" = some (some (.ref f36))) (i36 : PySem.W.isFn K (.ref f36) = true) (l36 : K.lookup f36 = some ⟨oc36, od36, .func (PySem.W.fnOf "__init__" "Room.__init__" (defArgs sInit) (defBody sInit) (defScope sInit) .none kV36 dc36 pm36 an36 cd36 ct36), sl36⟩) (c36 : PySem.W.codeIn K cd36 "Room.__init__" = true) (k36 : PySem.W.keepIn K (.ref f36) = true)
    (a37 : PySem.W.findIn K (.ref C) "places" = some (some (.ref f37))) (i37 : PySem.W.isFn K (.ref f37) = true) (l37 : K.lookup f37 = some ⟨oc37, od37, .func (PySem.W.fnOf "places" "Room.places" (defArgs sPlaces) (defBody sPlaces) (defScope sPlaces) .none kV37 dc37 pm37 an37 cd37 ct37), sl37⟩) (c37 : PySem.W.codeIn K cd37 "Room.places" = true) (k37 : PySem.W.keepIn K (.ref f37) = true)
    (a38 : PySem.W.findIn K (.ref C) "things" = some (some (.ref f38))) (i38 : PySem.W.isFn K (.ref f38) = true) (l38 : K.lookup f38 = some ⟨oc38, od38, .func (PySem.W.fnOf "things" "Room.things" (defArgs sThings) (defBody sThings) (defScope sThings) .none kV38 dc38 pm38 an38 cd38 ct38), sl38⟩) (c38 : PySem.W.codeIn K cd38 "Room.things" = true) (k38 : PySem.W.keepIn K (.ref f38) = true)
    (pg : PySem.W.plainGet K C Str.empty = true) (hd : PySem.W.hasDictIn K C = true) (po : PySem.W.plainOver K C = true) (sa : PySem.W.findIn K (.ref C) "__setattr__" = some (some (.builtin "object.__setattr__"))) (mk : PySem.W.makesIn K C = true) (kc : PySem.W.keepIn K (.ref C) = true)
    (nP : PySem.W.findIn K (.ref C) "told_places" = some none) (nS : PySem.W.findIn K (.ref C) "told_shapes" = some none)
    (gL : PySem.W.nsIn K mainGlobals "LETTERS" = some (some uL)) (vL : absV uL = some (.str abc))
    (gO : PySem.W.nsIn K mainGlobals "MOST_LETTERS" = some (some uO)) (vO : absV uO = some (.int 8))
    (gP : PySem.W.nsIn K mainGlobals "MOST_PLACES" = some (some uP)) (vP : absV uP = some (.int 6))
    (gT : PySem.W.nsIn K mainGlobals "MOST_THINGS" = some (some uT)) (vT : absV uT = some (.int 6))
    (gN : PySem.W.nsIn K mainGlobals "NO_NAMES" = some (some (.ref aN))) (lN : K.lookup aN = some ⟨.type "tuple", odN, .seq itN nN, slN⟩) (vN : absAll itN.toList = some (fixedS.map V.str))
    (gF : PySem.W.nsIn K mainGlobals "FORMS" = some (some (.ref aF))) (lF : K.lookup aF = some ⟨.type "tuple", odF, .seq itF nF, slF⟩) (vF : absAll itF.toList = some [.ref tF1, .ref tF2, .ref tF3, .ref tF4])
    (lF1 : K.lookup tF1 = some ⟨.type "tuple", oF1, .seq iF1 nF1, sF1⟩) (vF1 : absAll iF1.toList = some [.str "place", .int 2])
    (lF2 : K.lookup tF2 = some ⟨.type "tuple", oF2, .seq iF2 nF2, sF2⟩) (vF2 : absAll iF2.toList = some [.str "box", .int 2])
    (lF3 : K.lookup tF3 = some ⟨.type "tuple", oF3, .seq iF3 nF3, sF3⟩) (vF3 : absAll iF3.toList = some [.str "box", .int 3])
    (lF4 : K.lookup tF4 = some ⟨.type "tuple", oF4, .seq iF4 nF4, sF4⟩) (vF4 : absAll iF4.toList = some [.str "thing", .int 3])
    (gI : PySem.W.nsIn K mainGlobals "LIDS" = some (some (.ref aI))) (lI : K.lookup aI = some ⟨.type "tuple", odI, .seq itI nnI, slI⟩) (vI : absAll itI.toList = some (lidsS.map V.str))
    (z1 : PySem.W.nsIn K mainGlobals "len" = some none) (z2 : PySem.W.nsIn K mainGlobals "range" = some none) (z3 : PySem.W.nsIn K mainGlobals "tuple" = some none) (z4 : PySem.W.nsIn K mainGlobals "zip" = some none) (z5 : PySem.W.nsIn K mainGlobals "isinstance" = some none) (z6 : PySem.W.nsIn K mainGlobals "str" = some none) (z7 : PySem.W.nsIn K mainGlobals "list" = some none) (z8 : PySem.W.nsIn K mainGlobals "set" = some none) (z9 : PySem.W.nsIn K mainGlobals "all" = some none) (z10 : PySem.W.nsIn K mainGlobals "sorted" = some none) (z11 : PySem.W.nsIn K mainGlobals "int" = some none) (z12 : PySem.W.nsIn K mainGlobals "bool" = some none) (z13 : PySem.W.nsIn K mainGlobals "any" = some none) :
    ∃ fd : FuncData, (∀ (s : Shared) (v : Value), BindsTo s fd ⟨[v], []⟩ [("_law_script", v)]) ∧ ∀ base : Heap, K.In base → base.Ns mainGlobals mg → FnOk l.prog w K mg base CX0 9 fa fd ["_law_script"] (spLaw K) := by
  have e := hfa.symm.trans (PySem.W.mg_of X G a35)
  cases e
  have T : Bl mg := ⟨PySem.W.mg_none_of X G z1, PySem.W.mg_none_of X G z2, PySem.W.mg_none_of X G z3, PySem.W.mg_none_of X G z4, PySem.W.mg_none_of X G z5, PySem.W.mg_none_of X G z6, PySem.W.mg_none_of X G z7, PySem.W.mg_none_of X G z8, PySem.W.mg_none_of X G z9, PySem.W.mg_none_of X G z10, PySem.W.mg_none_of X G z11, PySem.W.mg_none_of X G z12, PySem.W.mg_none_of X G z13⟩
  obtain ⟨tL, eL⟩ := (rel_abs vL : RelV (.str abc) uL)
  rw [eL] at gL
  obtain ⟨tO, eO⟩ := (rel_abs vO : RelV (.int 8) uO)
  rw [eO] at gO
  obtain ⟨tP, eP⟩ := (rel_abs vP : RelV (.int 6) uP)
  rw [eP] at gP
  obtain ⟨tT, eT⟩ := (rel_abs vT : RelV (.int 6) uT)
  rw [eT] at gT
  have M : Md K mg aN aF := ⟨⟨_, PySem.W.mg_of X G gL⟩, ⟨_, PySem.W.mg_of X G gO⟩, ⟨_, PySem.W.mg_of X G gP⟩, ⟨_, PySem.W.mg_of X G gT⟩, PySem.W.mg_of X G gN, fun H => .inr ⟨_, itN, nN, lN, rfl, rfl, by
      have h1 := (vals_abs vN).length
      have h2 : itN.toList.length = itN.size := by simp
      have h3 : (fixedS.map V.str).length = 14 := by decide +kernel
      have hs : sizeLine = 16777216 := sizeLine_eq
      lia, vals_abs vN⟩, PySem.W.mg_of X G gF,
    rdK_tup lF vF (.cons (rdK_tup lF1 vF1 (.cons (rdK_flat rfl) (.cons (rdK_flat rfl) .nil))) (.cons (rdK_tup lF2 vF2 (.cons (rdK_flat rfl) (.cons (rdK_flat rfl) .nil))) (.cons (rdK_tup lF3 vF3 (.cons (rdK_flat rfl) (.cons (rdK_flat rfl) .nil))) (.cons (rdK_tup lF4 vF4 (.cons (rdK_flat rfl) (.cons (rdK_flat rfl) .nil))) .nil))))⟩
  have L : Cl K C := ⟨⟨pg, hd, po, sa⟩, nP, nS⟩
  have MI : Ml K mg aI := ⟨PySem.W.mg_of X G gI, fun H => .inr ⟨_, itI, nnI, lI, rfl, rfl, by
      have h1 := (vals_abs vI).length
      have h2 : itI.toList.length = itI.size := by simp
      have h3 : (lidsS.map V.str).length ≤ 100 := by decide +kernel
      have hs : sizeLine = 16777216 := sizeLine_eq
      lia, vals_abs vI⟩⟩
  have F1 := fun_mk (st := sHeapIn) l1 c1 k1
  have F2 := fun_mk (st := sLidOn) l2 c2 k2
  have F3 := fun_mk (st := sHolds) l3 c3 k3
  have F4 := fun_mk (st := sReadErrand) l4 c4 k4
  have F5 := fun_mk (st := sReadFact) l5 c5 k5
  have F6 := fun_mk (st := sReadPart) l6 c6 k6
  have F7 := fun_mk (st := sReadTerm) l7 c7 k7
  have F8 := fun_mk (st := sIsAtom) l8 c8 k8
  have F9 := fun_mk (st := sIsShortAtom) l9 c9 k9
  have F10 := fun_mk (st := sIsSpot) l10 c10 k10
  have F11 := fun_mk (st := sPartHolds) l11 c11 k11
  have F12 := fun_mk (st := sAtomHolds) l12 c12 k12
  have F13 := fun_mk (st := sHoldsOfThing) l13 c13 k13
  have F14 := fun_mk (st := sLiesOn) l14 c14 k14
  have F15 := fun_mk (st := sIsName) l15 c15 k15
  have F16 := fun_mk (st := sReadLine) l16 c16 k16
  have F17 := fun_mk (st := sReadRows) l17 c17 k17
  have F18 := fun_mk (st := sReadThings) l18 c18 k18
  have F19 := fun_mk (st := sReadPlaces) l19 c19 k19
  have F20 := fun_mk (st := sCheckKeys) l20 c20 k20
  have F21 := fun_mk (st := sPick) l21 c21 k21
  have F22 := fun_mk (st := sFixed) l22 c22 k22
  have F23 := fun_mk (st := sNames) l23 c23 k23
  have F24 := fun_mk (st := sLine) l24 c24 k24
  have F25 := fun_mk (st := sRoom) l25 c25 k25
  have F26 := fun_mk (st := sSizes) l26 c26 k26
  have F27 := fun_mk (st := sLids) l27 c27 k27
  have F28 := fun_mk (st := sWorld) l28 c28 k28
  have F29 := fun_mk (st := sLAtom) l29 c29 k29
  have F30 := fun_mk (st := sLStands) l30 c30 k30
  have F31 := fun_mk (st := sLAtomHolds) l31 c31 k31
  have F32 := fun_mk (st := sLParts) l32 c32 k32
  have F33 := fun_mk (st := sLText) l33 c33 k33
  have F34 := fun_mk (st := sLFactHolds) l34 c34 k34
  have F35 := fun_mk (st := sLaw) l35 c35 k35
  have F36 := fun_mk (st := sInit) l36 c36 k36
  have b36 := F36.binds (ps := ["self", "lines"]) fun _ _ _ _ _ _ => ln2 fun _ _ => rfl
  have F37 := fun_mk (st := sPlaces) l37 c37 k37
  have b37 := F37.binds (ps := ["self"]) fun _ _ _ _ _ _ => ln1 fun _ => rfl
  have F38 := fun_mk (st := sThings) l38 c38 k38
  have b38 := F38.binds (ps := ["self"]) fun _ _ _ _ _ _ => ln1 fun _ => rfl
  have D1 : Df K mg "heap_in" sHeapIn ["room", "world", "place"] f1 _ := ⟨F1, PySem.W.mg_of X G a1, F1.binds (ps := ["room", "world", "place"]) fun _ _ _ _ _ _ => ln3 fun _ _ _ => rfl⟩
  have D2 : Df K mg "lid_on" sLidOn ["room", "world", "place"] f2 _ := ⟨F2, PySem.W.mg_of X G a2, F2.binds (ps := ["room", "world", "place"]) fun _ _ _ _ _ _ => ln3 fun _ _ _ => rfl⟩
  have D3 : Df K mg "holds" sHolds ["room", "fact", "world"] f3 _ := ⟨F3, PySem.W.mg_of X G a3, F3.binds (ps := ["room", "fact", "world"]) fun _ _ _ _ _ _ => ln3 fun _ _ _ => rfl⟩
  have D4 : Df K mg "read_errand" sReadErrand ["room", "text"] f4 _ := ⟨F4, PySem.W.mg_of X G a4, F4.binds (ps := ["room", "text"]) fun _ _ _ _ _ _ => ln2 fun _ _ => rfl⟩
  have D5 : Df K mg "read_fact" sReadFact ["room", "text"] f5 _ := ⟨F5, PySem.W.mg_of X G a5, F5.binds (ps := ["room", "text"]) fun _ _ _ _ _ _ => ln2 fun _ _ => rfl⟩
  have D6 : Df K mg "read_part" sReadPart ["room", "text"] f6 _ := ⟨F6, PySem.W.mg_of X G a6, F6.binds (ps := ["room", "text"]) fun _ _ _ _ _ _ => ln2 fun _ _ => rfl⟩
  have D7 : Df K mg "read_term" sReadTerm ["room", "text"] f7 _ := ⟨F7, PySem.W.mg_of X G a7, F7.binds (ps := ["room", "text"]) fun _ _ _ _ _ _ => ln2 fun _ _ => rfl⟩
  have D8 : Df K mg "is_atom" sIsAtom ["room", "words"] f8 _ := ⟨F8, PySem.W.mg_of X G a8, F8.binds (ps := ["room", "words"]) fun _ _ _ _ _ _ => ln2 fun _ _ => rfl⟩
  have D9 : Df K mg "is_short_atom" sIsShortAtom ["room", "name", "word"] f9 _ := ⟨F9, PySem.W.mg_of X G a9, F9.binds (ps := ["room", "name", "word"]) fun _ _ _ _ _ _ => ln3 fun _ _ _ => rfl⟩
  have D10 : Df K mg "is_spot" sIsSpot ["room", "word", "name"] f10 _ := ⟨F10, PySem.W.mg_of X G a10, F10.binds (ps := ["room", "word", "name"]) fun _ _ _ _ _ _ => ln3 fun _ _ _ => rfl⟩
  have D11 : Df K mg "part_holds" sPartHolds ["room", "part", "world"] f11 _ := ⟨F11, PySem.W.mg_of X G a11, F11.binds (ps := ["room", "part", "world"]) fun _ _ _ _ _ _ => ln3 fun _ _ _ => rfl⟩
  have D12 : Df K mg "atom_holds" sAtomHolds ["room", "atom", "world"] f12 _ := ⟨F12, PySem.W.mg_of X G a12, F12.binds (ps := ["room", "atom", "world"]) fun _ _ _ _ _ _ => ln3 fun _ _ _ => rfl⟩
  have D13 : Df K mg "holds_of_thing" sHoldsOfThing ["room", "atom", "world"] f13 _ := ⟨F13, PySem.W.mg_of X G a13, F13.binds (ps := ["room", "atom", "world"]) fun _ _ _ _ _ _ => ln3 fun _ _ _ => rfl⟩
  have D14 : Df K mg "lies_on" sLiesOn ["heap", "thing", "under"] f14 _ := ⟨F14, PySem.W.mg_of X G a14, F14.binds (ps := ["heap", "thing", "under"]) fun _ _ _ _ _ _ => ln3 fun _ _ _ => rfl⟩
  have D15 : Df K mg "is_name" sIsName ["text"] f15 _ := ⟨F15, PySem.W.mg_of X G a15, F15.binds (ps := ["text"]) fun _ _ _ _ _ _ => ln1 fun _ => rfl⟩
  have D16 : Df K mg "read_line" sReadLine ["line"] f16 _ := ⟨F16, PySem.W.mg_of X G a16, F16.binds (ps := ["line"]) fun _ _ _ _ _ _ => ln1 fun _ => rfl⟩
  have D17 : Df K mg "read_rows" sReadRows ["lines"] f17 _ := ⟨F17, PySem.W.mg_of X G a17, F17.binds (ps := ["lines"]) fun _ _ _ _ _ _ => ln1 fun _ => rfl⟩
  have D18 : Df K mg "read_things" sReadThings ["rows"] f18 _ := ⟨F18, PySem.W.mg_of X G a18, F18.binds (ps := ["rows"]) fun _ _ _ _ _ _ => ln1 fun _ => rfl⟩
  have D19 : Df K mg "read_places" sReadPlaces ["rows"] f19 _ := ⟨F19, PySem.W.mg_of X G a19, F19.binds (ps := ["rows"]) fun _ _ _ _ _ _ => ln1 fun _ => rfl⟩
  have D20 : Df K mg "check_keys" sCheckKeys ["places", "shapes"] f20 _ := ⟨F20, PySem.W.mg_of X G a20, F20.binds (ps := ["places", "shapes"]) fun _ _ _ _ _ _ => ln2 fun _ _ => rfl⟩
  have D21 : Df K mg "_law_pick" sPick ["_law_script", "_law_k", "_law_many"] f21 _ := ⟨F21, PySem.W.mg_of X G a21, F21.binds (ps := ["_law_script", "_law_k", "_law_many"]) fun _ _ _ _ _ _ => ln3 fun _ _ _ => rfl⟩
  have D22 : Df K mg "_law_fixed" sFixed ["_law_text_here"] f22 _ := ⟨F22, PySem.W.mg_of X G a22, F22.binds (ps := ["_law_text_here"]) fun _ _ _ _ _ _ => ln1 fun _ => rfl⟩
  have D23 : Df K mg "_law_names" sNames ["_law_script", "_law_k", "_law_many"] f23 _ := ⟨F23, PySem.W.mg_of X G a23, F23.binds (ps := ["_law_script", "_law_k", "_law_many"]) fun _ _ _ _ _ _ => ln3 fun _ _ _ => rfl⟩
  have D24 : Df K mg "_law_place_line" sLine ["_law_script", "_law_k", "_law_room_here", "_law_name"] f24 _ := ⟨F24, PySem.W.mg_of X G a24, F24.binds (ps := ["_law_script", "_law_k", "_law_room_here", "_law_name"]) fun _ _ _ _ _ _ => ln4 fun _ _ _ _ => rfl⟩
  have D25 : Df K mg "_law_room" sRoom ["_law_script", "_law_places", "_law_things"] f25 _ := ⟨F25, PySem.W.mg_of X G a25, F25.binds (ps := ["_law_script", "_law_places", "_law_things"]) fun _ _ _ _ _ _ => ln3 fun _ _ _ => rfl⟩
  have D26 : Df K mg "_law_sizes" sSizes ["_law_script"] f26 _ := ⟨F26, PySem.W.mg_of X G a26, F26.binds (ps := ["_law_script"]) fun _ _ _ _ _ _ => ln1 fun _ => rfl⟩
  have D27 : Df K mg "_law_lids" sLids ["_law_room_here", "_law_place"] f27 _ := ⟨F27, PySem.W.mg_of X G a27, F27.binds (ps := ["_law_room_here", "_law_place"]) fun _ _ _ _ _ _ => ln2 fun _ _ => rfl⟩
  have D28 : Df K mg "_law_world" sWorld ["_law_script", "_law_k", "_law_room_here"] f28 _ := ⟨F28, PySem.W.mg_of X G a28, F28.binds (ps := ["_law_script", "_law_k", "_law_room_here"]) fun _ _ _ _ _ _ => ln3 fun _ _ _ => rfl⟩
  have D29 : Df K mg "_law_atom" sLAtom ["_law_script", "_law_k", "_law_drawn"] f29 _ := ⟨F29, PySem.W.mg_of X G a29, F29.binds (ps := ["_law_script", "_law_k", "_law_drawn"]) fun _ _ _ _ _ _ => ln3 fun _ _ _ => rfl⟩
  have D30 : Df K mg "_law_stands" sLStands ["_law_words", "_law_world_here"] f30 _ := ⟨F30, PySem.W.mg_of X G a30, F30.binds (ps := ["_law_words", "_law_world_here"]) fun _ _ _ _ _ _ => ln2 fun _ _ => rfl⟩
  have D31 : Df K mg "_law_atom_holds" sLAtomHolds ["_law_drawn", "_law_words", "_law_world_here"] f31 _ := ⟨F31, PySem.W.mg_of X G a31, F31.binds (ps := ["_law_drawn", "_law_words", "_law_world_here"]) fun _ _ _ _ _ _ => ln3 fun _ _ _ => rfl⟩
  have D32 : Df K mg "_law_parts" sLParts ["_law_script", "_law_k", "_law_drawn", "_law_many"] f32 _ := ⟨F32, PySem.W.mg_of X G a32, F32.binds (ps := ["_law_script", "_law_k", "_law_drawn", "_law_many"]) fun _ _ _ _ _ _ => ln4 fun _ _ _ _ => rfl⟩
  have D33 : Df K mg "_law_text" sLText ["_law_branches"] f33 _ := ⟨F33, PySem.W.mg_of X G a33, F33.binds (ps := ["_law_branches"]) fun _ _ _ _ _ _ => ln1 fun _ => rfl⟩
  have D34 : Df K mg "_law_fact_holds" sLFactHolds ["_law_drawn", "_law_branches", "_law_world_here"] f34 _ := ⟨F34, PySem.W.mg_of X G a34, F34.binds (ps := ["_law_drawn", "_law_branches", "_law_world_here"]) fun _ _ _ _ _ _ => ln3 fun _ _ _ => rfl⟩
  refine ⟨PySem.W.fnOf "law" "law" (defArgs sLaw) (defBody sLaw) (defScope sLaw) .none kV35 dc35 pm35 an35 cd35 ct35, fun s v => .of_eq rfl, fun base _ _ => ?_⟩
  have GQ := ok_pickD (P := l.prog) (w := w) (base := base) F21 T
  have GP := ok_pick GQ
  have GX := ok_fixed (P := l.prog) (w := w) (mg := mg) (base := base) F22
  have GN := ok_names (P := l.prog) (w := w) (base := base) F23 D21 D22 T GQ GX
  have GL := ok_line (P := l.prog) (w := w) (base := base) F24 D21 T GP
  have GR := ok_room (P := l.prog) (w := w) (base := base) F25 D21 D23 D24 T GP GN GL
  have GS := ok_sizes (P := l.prog) (w := w) (base := base) F26 D21 T GP
  have GI := ok_lids (P := l.prog) (w := w) (mg := mg) (base := base) F27
  have GW := ok_world (P := l.prog) (w := w) (base := base) F28 D21 D27 T GP GI
  have Gis := ok_isname (P := l.prog) (w := w) (base := base) F15 T M
  have Grl := ok_readline (P := l.prog) (w := w) (base := base) F16 D15 T M Gis
  have Grr := ok_readrows (P := l.prog) (w := w) (base := base) F17 D16 T Grl
  have Gth := ok_things (P := l.prog) (w := w) (base := base) F18 T M
  have Gpl := ok_places (P := l.prog) (w := w) (base := base) F19 T M
  have Gck := ok_check (P := l.prog) (w := w) (mg := mg) (base := base) F20
  have Gin := ok_init (P := l.prog) (w := w) (base := base) F36 L D17 D19 D18 D20 Grr Gpl Gth Gck
  have Gps := ok_pl (P := l.prog) (w := w) (base := base) F37 L T
  have Gth2 := ok_ths (P := l.prog) (w := w) (base := base) F38 L T
  have Ghi := ok_heapin (P := l.prog) (w := w) (mg := mg) (base := base) F1 L b37 ⟨a37, i37, k37⟩ Gps
  have Gln := ok_lidon (P := l.prog) (w := w) (mg := mg) (base := base) F2 L b37 ⟨a37, i37, k37⟩ Gps
  have Gsh := ok_short (P := l.prog) (w := w) (base := base) F9 L MI b37 ⟨a37, i37, k37⟩ Gps b38 ⟨a38, i38, k38⟩ Gth2
  have Gsp := ok_spot (P := l.prog) (w := w) (mg := mg) (base := base) F10 L b37 ⟨a37, i37, k37⟩ Gps b38 ⟨a38, i38, k38⟩ Gth2
  have Gat := ok_atom (P := l.prog) (w := w) (base := base) F8 L T b38 ⟨a38, i38, k38⟩ Gth2 D9 Gsh D10 Gsp
  have Gtm := ok_term (P := l.prog) (w := w) (base := base) F7 T D8 Gat
  have Gpt := ok_partN (P := l.prog) (w := w) (base := base) F6 T D7 Gtm
  have Gfa := ok_factN (P := l.prog) (w := w) (base := base) F5 T D6 Gpt
  have Gli := ok_lies (P := l.prog) (w := w) (mg := mg) (base := base) F14 T
  have Got := ok_ofthing (P := l.prog) (w := w) (base := base) F13 T D1 Ghi D14 Gli
  have Gah := ok_aholds (P := l.prog) (w := w) (base := base) F12 L T b38 ⟨a38, i38, k38⟩ Gth2 D1 Ghi D2 Gln D13 Got
  have Gph := ok_pholdsN (P := l.prog) (w := w) (base := base) F11 T D12 Gah
  have Gho := ok_holdsN (P := l.prog) (w := w) (base := base) F3 T D5 Gfa D11 Gph
  have Ger := ok_errand (P := l.prog) (w := w) (base := base) F4 T D5 Gfa
  have Gla := ok_latom (P := l.prog) (w := w) (base := base) F29 T D21 GP
  have Gls := ok_lstands (P := l.prog) (w := w) (mg := mg) (base := base) F30 T
  have Glh := ok_lholds (P := l.prog) (w := w) (base := base) F31 T D30 Gls
  have Glp := ok_lparts (P := l.prog) (w := w) (base := base) F32 T D21 GP D29 Gla
  have Glt := ok_ltext (P := l.prog) (w := w) (mg := mg) (base := base) F33 T
  have Glf := ok_lfact (P := l.prog) (w := w) (base := base) F34 T D31 Glh
  exact ok_law F35 D26 D25 D28 D32 D3 D34 D4 D33 T ⟨mk, a36, i36, kc⟩ (PySem.W.mg_of X G aC) b36 Gin GS GR GW Glp Gho Glf Ger Glt
theorem walk {l : PySem.W.OpenLaw} {q : Program} {loose : List Str} {XP : (Str → Option Value) → Heap → Prop} {YP : World → Heap → Prop} {d : DefRec} {K : Params → PySem.W.Frag} (hn : l.most = some 63) (hdf : d.params.defaults = [])
    (hY : ∀ (w : World) (h : Heap), YP w h → (K w.params).In h)
    (F : ∀ (w : World) (mg : Str → Option Value) (fa : Addr) (h : Heap), (K w.params).In h → h.Ns mainGlobals mg → mg d.name = some (.ref fa) →
      ∃ fd : FuncData, (∀ (s : Shared) (u : Value), BindsTo s fd ⟨[u], []⟩ [("_law_script", u)]) ∧ ∀ base : Heap, (K w.params).In base → base.Ns mainGlobals mg → FnOk l.prog w (K w.params) mg base CX0 9 fa fd ["_law_script"] (spLaw (K w.params))) :
    PySem.W.WalkO q loose XP YP l.row.toRowW d [] (fun f vs => PySem.call f vs) :=
  L2.walk_of (n := 63) (k := 9) (x := "_law_script") (CX := fun _ => CX0) (sp := fun w => spLaw (K w.params)) hn (by decide) hdf ⟨rfl, by decide, by decide⟩ hY F (fun _ _ a ns hl _ hS => ⟨a, ns, rfl, hS, hl, fun _ => rfl⟩) fun _ _ _ _ _ z => z
end K14
/-- names that are taken: the twins that would have them are made for the walk alone, and it goes without them as well -/
def PySem.W.Fast.tw16309212209666460840 : Nat := 0
def PySem.W.Fast.tw5440092948453990487 : Nat := 0
def PySem.W.Fast.tw6034654830597571025 : Nat := 0
def PySem.W.Fast.tw14456157358081396260 : Nat := 0
def PySem.W.Fast.tw14441617681148808527 : Nat := 0
def PySem.W.Fast.tw17850584949130445048 : Nat := 0
def PySem.W.Fast.tw14833964831341809697 : Nat := 0
def PySem.W.Fast.tw3335780977472327978 : Nat := 0
def PySem.W.Fast.tw3372387717564385792 : Nat := 0
def PySem.W.Fast.tw10080573283010519877 : Nat := 0
def PySem.W.Fast.tw15344975551861876282 : Nat := 0
def PySem.W.Fast.tw13865487404849583424 : Nat := 0
def PySem.W.Fast.tw9663918742430174209 : Nat := 0
def PySem.W.Fast.tw14838491159968871222 : Nat := 0
def PySem.W.Fast.tw4211866675902308341 : Nat := 0
def PySem.W.Fast.tw5137753364669897121 : Nat := 0
def PySem.W.Fast.tw9458134502291994165 : Nat := 0
def PySem.W.Fast.tw17326812042319813188 : Nat := 0
def PySem.W.Fast.tw13795663804682832833 : Nat := 0
def PySem.W.Fast.tw11308082261919759475 : Nat := 0
def PySem.W.Fast.tw7411952340337568489 : Nat := 0
open PySem PySem.W PyProof.Rows
set_option maxRecDepth 100000 in
set_option maxHeartbeats 0 in
theorem PySem.Challenge.cw_grope_k14_facts_joined_holds : PySem.Challenge.rw_grope_k14_facts_joined.Holds := by
  w_on; o_law; k_head; (case hw => w_witness2)
  k_fill
  refine K14.walk (l := PySem.Challenge.rw_grope_k14_facts_joined) rfl rfl (fun w h Y => PySem.W.kIn_of Y) ?F
  case F =>
    intro w mg fa h KX G hmg
    refine' K14.all_mk KX G hmg ?a1 ?l1 ?c1 ?k1 ?a2 ?l2 ?c2 ?k2 ?a3 ?l3 ?c3 ?k3 ?a4 ?l4 ?c4 ?k4 ?a5 ?l5 ?c5 ?k5 ?a6 ?l6 ?c6 ?k6 ?a7 ?l7 ?c7 ?k7 ?a8 ?l8 ?c8 ?k8 ?a9 ?l9 ?c9 ?k9 ?a10 ?l10 ?c10 ?k10 ?a11 ?l11 ?c11 ?k11 ?a12 ?l12 ?c12 ?k12 ?a13 ?l13 ?c13 ?k13 ?a14 ?l14 ?c14 ?k14 ?a15 ?l15 ?c15 ?k15 ?a16 ?l16 ?c16 ?k16 ?a17 ?l17 ?c17 ?k17 ?a18 ?l18 ?c18 ?k18 ?a19 ?l19 ?c19 ?k19 ?a20 ?l20 ?c20 ?k20 ?a21 ?l21 ?c21 ?k21 ?a22 ?l22 ?c22 ?k22 ?a23 ?l23 ?c23 ?k23 ?a24 ?l24 ?c24 ?k24 ?a25 ?l25 ?c25 ?k25 ?a26 ?l26 ?c26 ?k26 ?a27 ?l27 ?c27 ?k27 ?a28 ?l28 ?c28 ?k28 ?a29 ?l29 ?c29 ?k29 ?a30 ?l30 ?c30 ?k30 ?a31 ?l31 ?c31 ?k31 ?a32 ?l32 ?c32 ?k32 ?a33 ?l33 ?c33 ?k33 ?a34 ?l34 ?c34 ?k34 ?a35 ?l35 ?c35 ?k35 ?aC ?a36 ?i36 ?l36 ?c36 ?k36 ?a37 ?i37 ?l37 ?c37 ?k37 ?a38 ?i38 ?l38 ?c38 ?k38 ?pg ?hd ?po ?sa ?mk ?kc ?nP ?nS ?gL ?vL ?gO ?vO ?gP ?vP ?gT ?vT ?gN ?lN ?vN ?gF ?lF ?vF ?lF1 ?vF1 ?lF2 ?vF2 ?lF3 ?vF3 ?lF4 ?vF4 ?gI ?lI ?vI ?z1 ?z2 ?z3 ?z4 ?z5 ?z6 ?z7 ?z8 ?z9 ?z10 ?z11 ?z12 ?z13
    (case a1 => k_is)
    (case l1 => k_is)
    (case c1 => k_is)
    (case k1 => k_is)
    (case a2 => k_is)
    (case l2 => k_is)
    (case c2 => k_is)
    (case k2 => k_is)
    (case a3 => k_is)
    (case l3 => k_is)
    (case c3 => k_is)
    (case k3 => k_is)
    (case a4 => k_is)
    (case l4 => k_is)
    (case c4 => k_is)
    (case k4 => k_is)
    (case a5 => k_is)
    (case l5 => k_is)
    (case c5 => k_is)
    (case k5 => k_is)
    (case a6 => k_is)
    (case l6 => k_is)
    (case c6 => k_is)
    (case k6 => k_is)
    (case a7 => k_is)
    (case l7 => k_is)
    (case c7 => k_is)
    (case k7 => k_is)
    (case a8 => k_is)
    (case l8 => k_is)
    (case c8 => k_is)
    (case k8 => k_is)
    (case a9 => k_is)
    (case l9 => k_is)
    (case c9 => k_is)
    (case k9 => k_is)
    (case a10 => k_is)
    (case l10 => k_is)
    (case c10 => k_is)
    (case k10 => k_is)
    (case a11 => k_is)
    (case l11 => k_is)
    (case c11 => k_is)
    (case k11 => k_is)
    (case a12 => k_is)
    (case l12 => k_is)
    (case c12 => k_is)
    (case k12 => k_is)
    (case a13 => k_is)
    (case l13 => k_is)
    (case c13 => k_is)
    (case k13 => k_is)
    (case a14 => k_is)
    (case l14 => k_is)
    (case c14 => k_is)
    (case k14 => k_is)
    (case a15 => k_is)
    (case l15 => k_is)
    (case c15 => k_is)
    (case k15 => k_is)
    (case a16 => k_is)
    (case l16 => k_is)
    (case c16 => k_is)
    (case k16 => k_is)
    (case a17 => k_is)
    (case l17 => k_is)
    (case c17 => k_is)
    (case k17 => k_is)
    (case a18 => k_is)
    (case l18 => k_is)
    (case c18 => k_is)
    (case k18 => k_is)
    (case a19 => k_is)
    (case l19 => k_is)
    (case c19 => k_is)
    (case k19 => k_is)
    (case a20 => k_is)
    (case l20 => k_is)
    (case c20 => k_is)
    (case k20 => k_is)
    (case a21 => k_is)
    (case l21 => k_is)
    (case c21 => k_is)
    (case k21 => k_is)
    (case a22 => k_is)
    (case l22 => k_is)
    (case c22 => k_is)
    (case k22 => k_is)
    (case a23 => k_is)
    (case l23 => k_is)
    (case c23 => k_is)
    (case k23 => k_is)
    (case a24 => k_is)
    (case l24 => k_is)
    (case c24 => k_is)
    (case k24 => k_is)
    (case a25 => k_is)
    (case l25 => k_is)
    (case c25 => k_is)
    (case k25 => k_is)
    (case a26 => k_is)
    (case l26 => k_is)
    (case c26 => k_is)
    (case k26 => k_is)
    (case a27 => k_is)
    (case l27 => k_is)
    (case c27 => k_is)
    (case k27 => k_is)
    (case a28 => k_is)
    (case l28 => k_is)
    (case c28 => k_is)
    (case k28 => k_is)
    (case a29 => k_is)
    (case l29 => k_is)
    (case c29 => k_is)
    (case k29 => k_is)
    (case a30 => k_is)
    (case l30 => k_is)
    (case c30 => k_is)
    (case k30 => k_is)
    (case a31 => k_is)
    (case l31 => k_is)
    (case c31 => k_is)
    (case k31 => k_is)
    (case a32 => k_is)
    (case l32 => k_is)
    (case c32 => k_is)
    (case k32 => k_is)
    (case a33 => k_is)
    (case l33 => k_is)
    (case c33 => k_is)
    (case k33 => k_is)
    (case a34 => k_is)
    (case l34 => k_is)
    (case c34 => k_is)
    (case k34 => k_is)
    (case a35 => k_is)
    (case l35 => k_is)
    (case c35 => k_is)
    (case k35 => k_is)
    (case aC => k_is)
    (case a36 => k_is)
    (case i36 => k_is)
    (case l36 => k_is)
    (case c36 => k_is)
    (case k36 => k_is)
    (case a37 => k_is)
    (case i37 => k_is)
    (case l37 => k_is)
    (case c37 => k_is)
    (case k37 => k_is)
    (case a38 => k_is)
    (case i38 => k_is)
    (case l38 => k_is)
    (case c38 => k_is)
    (case k38 => k_is)
    (case pg => k_is)
    (case hd => k_is)
    (case po => k_is)
    (case sa => k_is)
    (case mk => k_is)
    (case kc => k_is)
    (case nP => k_is)
    (case nS => k_is)
    (case gL => k_is)
    (case vL => first | rfl | decide +kernel | k_is)
    (case gO => k_is)
    (case vO => first | rfl | decide +kernel | k_is)
    (case gP => k_is)
    (case vP => first | rfl | decide +kernel | k_is)
    (case gT => k_is)
    (case vT => first | rfl | decide +kernel | k_is)
    (case gN => k_is)
    (case lN => k_is)
    (case vN => first | rfl | decide +kernel | k_is)
    (case gF => k_is)
    (case lF => k_is)
    (case vF => first | rfl | decide +kernel | k_is)
    (case lF1 => k_is)
    (case vF1 => first | rfl | decide +kernel | k_is)
    (case lF2 => k_is)
    (case vF2 => first | rfl | decide +kernel | k_is)
    (case lF3 => k_is)
    (case vF3 => first | rfl | decide +kernel | k_is)
    (case lF4 => k_is)
    (case vF4 => first | rfl | decide +kernel | k_is)
    (case gI => k_is)
    (case lI => k_is)
    (case vI => first | rfl | decide +kernel | k_is)
    (case z1 => k_is)
    (case z2 => k_is)
    (case z3 => k_is)
    (case z4 => k_is)
    (case z5 => k_is)
    (case z6 => k_is)
    (case z7 => k_is)
    (case z8 => k_is)
    (case z9 => k_is)
    (case z10 => k_is)
    (case z11 => k_is)
    (case z12 => k_is)
    (case z13 => k_is)
#print axioms PySem.Challenge.cw_grope_k14_facts_joined_holds
