import PyProof.Rows.All
import Wide.All
import OpenK.AllK
import Wide.FinOn
import Lean
import PyProof.EqAt
import PyProof.EqKinds
import PyProof.TupleCall
import PySem.Challenge.RW_grope_k38_no_plan
set_option Elab.async false
set_option linter.all false
set_option maxRecDepth 100000
set_option maxHeartbeats 4000000
namespace L2
open PySem PySem.Spec PyProof.Rows
noncomputable abbrev Key := Sum Int Str
noncomputable def keyIs : Key → Value → Bool
  | .inl k, v => Value.isInt k v
  | .inr x, v => Value.isStrOf x v
noncomputable def keyH (w : World) : Key → Int
  | .inl k => hashInt k
  | .inr x => hashStr w x
theorem keyIs_shape : ∀ {k : Key} {v : Value}, keyIs k v = true → (∃ i t, k = Sum.inl i ∧ v = Value.int i t) ∨ (∃ x t, k = Sum.inr x ∧ v = Value.str x t)
  | .inl i, v, h => by
    obtain ⟨t, e⟩ := Value.isInt_shape (k := i) (v := v) h
    exact .inl ⟨i, t, rfl, e⟩
  | .inr x, v, h => by
    obtain ⟨t, e⟩ := Value.isStrOf_shape (x := x) (v := v) h
    exact .inr ⟨x, t, rfl, e⟩
theorem keyIs_int (i : Int) (t : Tok) : keyIs (.inl i) (.int i t) = true := by simp [keyIs, Value.isInt]
theorem keyIs_str (x : Str) (t : Tok) : keyIs (.inr x) (.str x t) = true := by simp [keyIs, Value.isStrOf]
theorem key_ll (a b : Int) : decide ((Sum.inl a : Key) = Sum.inl b) = (a == b) := by
  by_cases e : a = b
  · subst e; simp
  · have h : ¬ (Sum.inl a : Key) = Sum.inl b := fun q => e (Sum.inl.inj q)
    rw [decide_eq_false h]
    exact (beq_eq_false_iff_ne.mpr e).symm
theorem key_rr (a b : Str) : decide ((Sum.inr a : Key) = Sum.inr b) = decide (a = b) := by
  by_cases e : a = b
  · subst e; simp
  · have h : ¬ (Sum.inr a : Key) = Sum.inr b := fun q => e (Sum.inr.inj q)
    rw [decide_eq_false h, decide_eq_false e]
theorem key_lr (a : Int) (b : Str) : decide ((Sum.inl a : Key) = Sum.inr b) = false := decide_eq_false (fun q => nomatch q)
theorem key_rl (a : Str) (b : Int) : decide ((Sum.inr a : Key) = Sum.inl b) = false := decide_eq_false (fun q => nomatch q)
noncomputable def mixKind (prog : Program) (w : World) : PySem.KeyKind prog w Key where
  is := keyIs
  hash := keyH w
  inj := fun v a b ha hb => by
    rcases keyIs_shape ha with ⟨i, t, rfl, rfl⟩ | ⟨x, t, rfl, rfl⟩
    · rcases keyIs_shape hb with ⟨j, u, rfl, e⟩ | ⟨y, u, rfl, e⟩
      · injection e with e1 _; rw [e1]
      · exact nomatch e
    · rcases keyIs_shape hb with ⟨j, u, rfl, e⟩ | ⟨y, u, rfl, e⟩
      · exact nomatch e
      · injection e with e1 _; rw [e1]
  byValue := fun k v h => by
    rcases keyIs_shape h with ⟨i, t, rfl, rfl⟩ | ⟨x, t, rfl, rfl⟩ <;> rfl
  pyHash := fun hv h => by
    rcases keyIs_shape hv with ⟨i, t, rfl, rfl⟩ | ⟨x, t, rfl, rfl⟩
    · exact wpAny_pyHash_int h
    · exact wpAny_pyHash_str h
  eqBool := fun hu hv h => by
    rcases keyIs_shape hu with ⟨i, t, rfl, rfl⟩ | ⟨x, t, rfl, rfl⟩
    · rcases keyIs_shape hv with ⟨j, u, rfl, rfl⟩ | ⟨y, u, rfl, rfl⟩
      · rw [key_ll] at h; exact wpAny_eqBool_int h
      · rw [key_lr] at h; exact SeqAt.EqAt.int_str i t y u _ _ _ _ h
    · rcases keyIs_shape hv with ⟨j, u, rfl, rfl⟩ | ⟨y, u, rfl, rfl⟩
      · rw [key_rl] at h; exact SeqAt.EqAt.str_int x t j u _ _ _ _ h
      · rw [key_rr] at h; exact wpAny_eqBool_str h
  «strs» := fun k x t v h => by
    rcases keyIs_shape h with ⟨i, u, rfl, e⟩ | ⟨y, u, rfl, e⟩
    · exact nomatch e
    · injection e with e1 _
      subst e1
      cases v <;> rfl
theorem mixKind_int (prog : Program) (w : World) (i : Int) (t : Tok) : (mixKind prog w).is (.inl i) (.int i t) = true := keyIs_int i t
theorem mixKind_str (prog : Program) (w : World) (x : Str) (t : Tok) : (mixKind prog w).is (.inr x) (.str x t) = true := keyIs_str x t
end L2
namespace L2
open PySem PySem.Spec PyProof.Rows
inductive V where
  | non | bl (b : Bool) | int (i : Int) | str (x : Str) | byt (b : Array UInt8) | flt (b : UInt64) | ref (a : Addr) | ty (n : String)
  deriving DecidableEq
noncomputable def RelV : V → Value → Prop
  | .non, u => u = Value.none
  | .bl b, u => u = Value.bool b
  | .int i, u => ∃ t, u = Value.int i t
  | .str x, u => ∃ t, u = Value.str x t
  | .byt b, u => ∃ t, u = Value.bytes b t
  | .flt b, u => ∃ t, u = Value.float b t
  | .ref a, u => u = Value.ref a
  | .ty n, u => u = Value.type n
noncomputable abbrev Vals : List V → List Value → Prop := Paired RelV
theorem Vals.length {xs : List V} {us : List Value} (r : Vals xs us) : xs.length = us.length := Paired.length r
theorem Vals.get : ∀ {xs : List V} {us : List Value} {i : Nat} {x : V}, Vals xs us → xs[i]? = some x → ∃ u, us[i]? = some u ∧ RelV x u
  | _, _, _, _, .nil, e => by simp at e
  | _, _, 0, _, .cons r _, e => by simp at e; subst e; exact ⟨_, rfl, r⟩
  | _, _, i + 1, x, .cons _ t, e => by
    obtain ⟨u, h1, h2⟩ := Vals.get (i := i) (x := x) t (by simpa using e)
    exact ⟨u, by simpa using h1, h2⟩
theorem Vals.append : ∀ {xs ys : List V} {us ws : List Value}, Vals xs us → Vals ys ws → Vals (xs ++ ys) (us ++ ws)
  | _, _, _, _, .nil, s => s
  | _, _, _, _, .cons r t, s => .cons r (Vals.append t s)
theorem Vals.take : ∀ {xs : List V} {us : List Value} (n : Nat), Vals xs us → Vals (xs.take n) (us.take n)
  | _, _, 0, _ => .nil
  | _, _, _ + 1, .nil => .nil
  | _, _, n + 1, .cons r t => .cons r (Vals.take n t)
theorem Vals.drop : ∀ {xs : List V} {us : List Value} (n : Nat), Vals xs us → Vals (xs.drop n) (us.drop n)
  | _, _, 0, r => r
  | _, _, _ + 1, .nil => .nil
  | _, _, n + 1, .cons _ t => Vals.drop n t
noncomputable def RelO : Option V → Option Value → Prop
  | some v, some u => RelV v u
  | none, none => True
  | _, _ => False
noncomputable def KV {κ : Type} : List (κ × V) → List (κ × Value) → Prop := Paired fun (p : κ × V) (q : κ × Value) => p.1 = q.1 ∧ RelV p.2 q.2
noncomputable def kV : Key → V
  | .inl i => .int i
  | .inr x => .str x
inductive HO where
  /-- a list -/
  | lst (xs : List V)
  /-- a tuple (never changes) -/
  | tup (xs : List V)
  /-- a dict whose keys are ints and texts; one whose keys are tuples of ints and texts (the empty one is both) -/
  | dK (kvs : List (Key × V)) | dT (kvs : List (List Key × V))
  /-- a set of ints: its members, its size -/
  | set (S : Int → Bool) (n : Nat)
  /-- an instance of the class at C, its dict at dx, its attributes -/
  | ins (C dx : Addr) (fs : List (Str × V))
  /-- the dict of the instance at x -/
  | own (x : Addr)
  /-- the dict of an exception -/
  | xd (fs : List (Str × V))
  /-- a bound method, f of x -/
  | met (f x : Addr)
  /-- a range object lo, lo + 1, .. below hi -/
  | rng (lo hi : Int)
  /-- a thing that is known to the object (the script; a dict while a loop walks it): read, never written while it is so -/
  | frz (o : Obj) (u : HO)
  /-- a code object's table -/
  | tbl (ps : Array Value)
  /-- any other thing, by what is true of its one object (a def of one's own: SetO a S n := HO.ext fun h => ..) -/
  | ext (φ : Heap → Prop)
noncomputable abbrev Hp := Addr → Option HO
noncomputable def upd (H : Hp) (a : Addr) (o : HO) : Hp := fun b => if b = a then some o else H b
theorem upd_same {H : Hp} {a : Addr} {o : HO} : upd H a o a = some o := by unfold upd; rw [if_pos rfl]
theorem upd_ne {H : Hp} {a b : Addr} {o : HO} (h : b ≠ a) : upd H a o b = H b := by unfold upd; rw [if_neg h]
theorem ne_of {H : Hp} {a b : Addr} {o u : HO} (h : H a = some o) (h' : H b = some u) (d : o ≠ u) : a ≠ b := by
  intro e; subst e; rw [h] at h'; exact d (Option.some.inj h')
theorem ne_of_none {H : Hp} {a b : Addr} {o : HO} (h : H a = some o) (h' : H b = none) : a ≠ b := by
  intro e; subst e; rw [h] at h'; cases h'
section
variable (P : Program) (w : World)
noncomputable def ObjOk (H : Hp) (h : Heap) (a : Addr) : HO → Prop
  | .lst xs => xs.length ≤ sizeLine ∧ ∃ (its : List Value) (n : Nat), Vals xs its ∧ h.get? a = some { cls := .type "list", data := .seq its.toArray n }
  | .tup xs => xs.length ≤ sizeLine ∧ ∃ its : List Value, Vals xs its ∧ IsTup h a its.toArray
  | .dK kvs => kvs.length ≤ sizeLine ∧ (a == sysModules) = false ∧ ∃ vs, KV kvs vs ∧ h.DictOf (mixKind P w) a vs
  | .dT kvs => kvs.length ≤ sizeLine ∧ (a == sysModules) = false ∧ ∃ xs : List (List Key × Addr × Value),
      Paired (fun (p : List Key × V) (q : List Key × Addr × Value) => p.1 = q.1 ∧ H q.2.1 = some (.tup (p.1.map kV)) ∧ RelV p.2 q.2.2) kvs xs ∧
      ∃ o es ep, h.get? a = some o ∧ o.ExactDict ∧ o.data = .dict es ep ∧ es.toList = xs.map (entryOfKey (tupleKind (mixKind P w))) ∧ (xs.map (·.1)).Nodup
  | .set S n => h.SetOf (intKind P w) a S n
  | .ins C dx fs => H dx = some (.own a) ∧ fs.length ≤ 1000 ∧ dx ≠ a ∧ h.get? a = some (PySem.W.instObj C dx) ∧
      ∃ mA, h.Ns1 dx mA ∧ (∀ f, RelO (fs.lookup f) (mA f)) ∧ PySem.Within mA (fs.map (·.1))
  | .own _ => ∃ o, h.get? a = some o
  | .xd fs => ∃ mA, h.Ns1 a mA ∧ ∀ f, RelO (fs.lookup f) (mA f)
  | .rng lo hi => ∃ t u v, h.get? a = some { cls := .type "range", data := .fields #[.int lo t, .int hi u, .int 1 v] }
  | .frz o u => h.get? a = some o ∧ ObjOk H h a u
  | .tbl ps => h.get? a = some { cls := .none, data := .fields ps }
  | .met f x => h.get? a = some (PySem.W.methodObj (.ref f) (.ref x))
  | .ext φ => φ h ∧ (∃ o, h.get? a = some o) ∧ ∀ h1 h2 : Heap, φ h1 → (∀ o, h1.get? a = some o → h2.get? a = some o) → φ h2
noncomputable def HOk (H : Hp) (h : Heap) : Prop := ∀ a o, H a = some o → ObjOk P w H h a o
end
section
variable {P : Program} {w : World} {H H' : Hp} {h h' : Heap} {a : Addr} {o : HO}
theorem ObjOk.lt (x : ObjOk P w H h a o) : a < h.objs.size := by
  cases o with
  | lst xs => obtain ⟨_, _, _, _, e⟩ := x; exact Heap.lt_size e
  | tup xs => obtain ⟨_, _, _, p⟩ := x; exact p.lt
  | dK kvs => obtain ⟨_, _, _, _, o, _, _, e, _⟩ := x; exact Heap.lt_size e
  | dT kvs => obtain ⟨_, _, _, _, o, _, _, e, _⟩ := x; exact Heap.lt_size e
  | set S n => obtain ⟨o, _, _, _, e, _⟩ := x; exact Heap.lt_size e
  | ins C dx fs => obtain ⟨_, _, _, e, _⟩ := x; exact Heap.lt_size e
  | own y => obtain ⟨_, e⟩ := x; exact Heap.lt_size e
  | xd fs => obtain ⟨_, ⟨_, _, _, e, _⟩, _⟩ := x; exact Heap.lt_size e
  | rng lo hi => obtain ⟨_, _, _, e⟩ := x; exact Heap.lt_size e
  | frz ob u => obtain ⟨e, _⟩ := x; exact Heap.lt_size e
  | tbl ps => exact Heap.lt_size (show h.get? a = some _ from x)
  | met f y => exact Heap.lt_size (show h.get? a = some _ from x)
  | ext φ => obtain ⟨_, ⟨_, e⟩, _⟩ := x; exact Heap.lt_size e
theorem Paired.mapP {α β : Type} {F G : α → β → Prop} : ∀ {l₁ : List α} {l₂ : List β}, Paired F l₁ l₂ → (∀ a b, F a b → G a b) → Paired G l₁ l₂
  | _, _, .nil, _ => .nil
  | _, _, .cons r t, f => .cons (f _ _ r) (Paired.mapP t f)
theorem ObjOk.stay (x : ObjOk P w H h a o) (k : ∀ b u, (b = a ∨ H b = some (.own a)) → h.get? b = some u → h'.get? b = some u)
    (ho : ∀ b, H b = some (.own a) → H' b = some (.own a)) (ht : ∀ b xs, H b = some (.tup xs) → H' b = some (.tup xs)) : ObjOk P w H' h' a o := by
  induction o with
  | lst xs => obtain ⟨z, its, n, r, e⟩ := x; exact ⟨z, its, n, r, k _ _ (.inl rfl) e⟩
  | tup xs => obtain ⟨z, its, r, ob, e, c⟩ := x; exact ⟨z, its, r, ob, k _ _ (.inl rfl) e, c⟩
  | dK kvs => obtain ⟨z, y, vs, r, ob, es, ep, e, c⟩ := x; exact ⟨z, y, vs, r, ob, es, ep, k _ _ (.inl rfl) e, c⟩
  | dT kvs =>
    obtain ⟨z, y, xs, r, ob, es, ep, e, c⟩ := x
    exact ⟨z, y, xs, Paired.mapP r fun p q z => ⟨z.1, ht _ _ z.2.1, z.2.2⟩, ob, es, ep, k _ _ (.inl rfl) e, c⟩
  | set S n => obtain ⟨ob, es, ep, t, e, c⟩ := x; exact ⟨ob, es, ep, t, k _ _ (.inl rfl) e, c⟩
  | ins C dx fs =>
    obtain ⟨d, z, ne, e, mA, ⟨od, es, ep, e2, c⟩, r⟩ := x
    exact ⟨ho _ d, z, ne, k _ _ (.inl rfl) e, mA, ⟨od, es, ep, k _ _ (.inr d) e2, c⟩, r⟩
  | own y => obtain ⟨ob, e⟩ := x; exact ⟨ob, k _ _ (.inl rfl) e⟩
  | xd fs => obtain ⟨mA, ⟨od, es, ep, e, c⟩, r⟩ := x; exact ⟨mA, ⟨od, es, ep, k _ _ (.inl rfl) e, c⟩, r⟩
  | rng lo hi => obtain ⟨t, u, v, e⟩ := x; exact ⟨t, u, v, k _ _ (.inl rfl) e⟩
  | frz ob u ih => obtain ⟨e, q⟩ := x; exact ⟨k _ _ (.inl rfl) e, ih q⟩
  | tbl ps =>
    have e : h.get? a = some { cls := .none, data := .fields ps } := x
    show h'.get? a = some { cls := .none, data := .fields ps }
    exact k a _ (.inl rfl) e
  | met f y =>
    have e : h.get? a = some (PySem.W.methodObj (.ref f) (.ref y)) := x
    show h'.get? a = some (PySem.W.methodObj (.ref f) (.ref y))
    exact k a _ (.inl rfl) e
  | ext φ => obtain ⟨p, ⟨o, e⟩, st⟩ := x; exact ⟨st _ _ p fun o q => k _ _ (.inl rfl) q, ⟨o, k _ _ (.inl rfl) e⟩, st⟩
theorem HOk.lt (x : HOk P w H h) (e : H a = some o) : a < h.objs.size := (x a o e).lt
theorem HOk.fresh (x : HOk P w H h) (e : h.objs.size ≤ a) : H a = none := by
  cases q : H a with
  | none => rfl
  | some u => exact absurd (Nat.lt_of_lt_of_le (x.lt q) e) (Nat.lt_irrefl _)
theorem HOk.kept (x : HOk P w H h) (k : ∀ b u, h.get? b = some u → h'.get? b = some u) : HOk P w H h' := fun a o e =>
  (x a o e).stay (fun b u _ q => k b u q) (fun _ q => q) fun _ _ q => q
theorem HOk.laid (x : HOk P w H h) (k : ∀ b u, h.get? b = some u → h'.get? b = some u) (hp : h.objs.size ≤ a) (new : ObjOk P w (upd H a o) h' a o) : HOk P w (upd H a o) h' := fun b u e => by
  have hn := x.fresh hp
  by_cases hb : b = a
  · subst hb; rw [upd_same] at e; cases e; exact new
  · rw [upd_ne hb] at e
    exact (x b u e).stay (fun c v _ q => k c v q) (fun c q => by rw [upd_ne (ne_of_none q hn)]; exact q) fun c xs q => by rw [upd_ne (ne_of_none q hn)]; exact q
end
noncomputable def Rd (H : Hp) (a : Addr) (u : HO) : Prop := H a = some u ∨ ∃ o, H a = some (.frz o u)
theorem Rd.ok {P : Program} {w : World} {H : Hp} {h : Heap} {a : Addr} {u : HO} (r : Rd H a u) (x : HOk P w H h) : ObjOk P w H h a u := by
  rcases r with r | ⟨o, r⟩
  · exact x a u r
  · obtain ⟨_, q⟩ := x a _ r
    exact q
noncomputable def Mut : Option HO → Prop
  | some (.lst _) => True
  | some (.dK _) => True
  | some (.dT _) => True
  | some (.set _ _) => True
  | some (.ins _ _ _) => True
  | some (.ext _) => True
  | _ => False
section
variable {P : Program} {w : World} {H : Hp} {h h' : Heap} {x e : Addr} {o' : HO}
theorem HOk.write (ok : HOk P w H h) (mu : Mut (H x)) (he : e = x ∨ H e = some (.own x)) (k : ∀ b u, b ≠ e → h.get? b = some u → h'.get? b = some u) (heo : ∃ u, h'.get? e = some u)
    (new : ObjOk P w (upd H x o') h' x o') : HOk P w (upd H x o') h' := fun b u q => by
  have nown : ∀ c y, H c = some (.own y) → c ≠ x := fun c y r z => by subst z; rw [r] at mu; exact mu
  have ntup : ∀ c xs, H c = some (.tup xs) → c ≠ x := fun c xs r z => by subst z; rw [r] at mu; exact mu
  by_cases hb : b = x
  · subst hb; rw [upd_same] at q; cases q; exact new
  · rw [upd_ne hb] at q
    by_cases hbe : b = e
    · have q' : H b = some (.own x) := by
        rcases he with z | z
        · exact absurd (hbe.trans z) hb
        · rw [hbe]; exact z
      rw [q] at q'; cases q'
      obtain ⟨v, hv⟩ := heo
      exact ⟨v, by rw [hbe]; exact hv⟩
    · refine (ok b u q).stay (fun c v hc r => k c v ?_ r) (fun c r => by rw [upd_ne (nown c b r)]; exact r) fun c xs r => by rw [upd_ne (ntup c xs r)]; exact r
      rcases hc with rfl | hc
      · exact hbe
      · rintro rfl
        rcases he with z | z
        · exact nown c b hc z
        · rw [hc] at z; cases z; exact hb rfl
end
structure Un (fs ex : List Addr) (H H' : Hp) (h h' : Heap) : Prop where
  keep : ∀ b o, h.get? b = some o → H b = none → b ∉ fs → b ∉ ex → h'.get? b = some o
  slot : ∀ b o, h.get? b = some o → H b = none → b ∈ fs → b ∉ ex → ∃ sl, h'.get? b = some { o with slots := sl }
  free : ∀ b o, h.get? b = some o → H b = none → b ∉ ex → H' b = none
  there : ∀ b o, h.get? b = some o → b ∉ ex → ∃ o', h'.get? b = some o'
  tups : ∀ b xs, H b = some (.tup xs) → H' b = some (.tup xs)
  frzs : ∀ b o u, H b = some (.frz o u) → H' b = some (.frz o u)
  tbls : ∀ b ps, H b = some (.tbl ps) → ∃ more, H' b = some (.tbl (ps ++ more))
section
variable {fs fs' ex ex' : List Addr} {H H1 H2 : Hp} {h h1 h2 h' : Heap} {a x e : Addr} {o : HO}
theorem Un.any (u : Un fs ex H H1 h h1) {b : Addr} {ob : Obj} (q : h.get? b = some ob) (n : H b = none) (hx : b ∉ ex) : ∃ sl, h1.get? b = some { ob with slots := sl } := by
  by_cases hb : b ∈ fs
  · exact u.slot b ob q n hb hx
  · exact ⟨ob.slots, u.keep b ob q n hb hx⟩
theorem Un.kept (k : ∀ b u, h.get? b = some u → h'.get? b = some u) : Un fs ex H H h h' :=
  ⟨fun b ob q _ _ _ => k b ob q, fun b ob q _ _ _ => ⟨ob.slots, k b ob q⟩, fun _ _ _ n _ => n, fun b ob q _ => ⟨ob, k b ob q⟩, fun _ _ q => q, fun _ _ _ q => q, fun _ ps q => ⟨#[], by rw [q]; simp⟩⟩
theorem Un.refl : Un fs ex H H h h := Un.kept fun _ _ q => q
theorem Un.laid (k : ∀ b u, h.get? b = some u → h'.get? b = some u) (hp : h.objs.size ≤ a) (hn : H a = none) : Un fs ex H (upd H a o) h h' where
  keep := fun b u q _ _ _ => k b u q
  slot := fun b u q _ _ _ => ⟨u.slots, k b u q⟩
  free := fun b u q n _ => by rw [upd_ne (Nat.ne_of_lt (Nat.lt_of_lt_of_le (Heap.lt_size q) hp))]; exact n
  there := fun b u q _ => ⟨u, k b u q⟩
  tups := fun b xs q => by rw [upd_ne (ne_of_none q hn)]; exact q
  frzs := fun b u xs q => by rw [upd_ne (ne_of_none q hn)]; exact q
  tbls := fun b ps q => ⟨#[], by rw [upd_ne (ne_of_none q hn), q]; simp⟩
theorem Un.write (mu : Mut (H x)) (he : e = x ∨ H e = some (.own x)) (k : ∀ b u, b ≠ e → h.get? b = some u → h'.get? b = some u) (heo : ∃ u, h'.get? e = some u) : Un fs ex H (upd H x o) h h' := by
  have hx : ∀ b, H b = none → b ≠ x := fun b n z => by subst z; rw [n] at mu; exact mu
  have hb : ∀ b, H b = none → b ≠ e := fun b n z => by
    subst z
    rcases he with r | r
    · exact hx b n r
    · rw [n] at r; cases r
  have hm : ∀ b u, H b = some u → ¬ Mut (some u) → b ≠ x := fun b u q nm z => by subst z; rw [q] at mu; exact nm mu
  refine ⟨fun b u q n _ _ => k b u (hb b n) q, fun b u q n _ _ => ⟨u.slots, k b u (hb b n) q⟩, fun b u q n _ => by rw [upd_ne (hx b n)]; exact n, fun b u q _ => ?_,
    fun b xs q => by rw [upd_ne (hm b _ q fun z => z)]; exact q, fun b u xs q => by rw [upd_ne (hm b _ q fun z => z)]; exact q, fun b ps q => ⟨#[], by rw [upd_ne (hm b _ q fun z => z), q]; simp⟩⟩
  by_cases hbe : b = e
  · subst hbe; exact heo
  · exact ⟨u, k b u hbe q⟩
end
noncomputable def trk (h : Heap) (H : Hp) : List Addr := (List.range h.objs.size).filter fun a => (H a).isSome
noncomputable def hidT (h : Heap) (H : Hp) : Heap := PySem.W.hideAll h (trk h H)
theorem hidT_size (h : Heap) (H : Hp) : (hidT h H).objs.size = h.objs.size := PySem.W.hideAll_size _ _
theorem hidT_get {h : Heap} {H : Hp} {b : Addr} {o : Obj} (e : h.get? b = some o) (n : H b = none) : (hidT h H).get? b = some o :=
  PySem.W.hideAll_get _ e fun hm => by
    have q : (H b).isSome = true := (List.mem_filter.mp hm).2
    rw [n] at q; simp at q
theorem of_hidT {h : Heap} {H : Hp} {b : Addr} {o : Obj} (e : (hidT h H).get? b = some o) : h.get? b = some o ∧ H b = none := by
  have e' : h.get? b = some o := PySem.W.of_hideAll (trk h H) e
  refine ⟨e', ?_⟩
  cases q : H b with
  | none => rfl
  | some x =>
    have hm : b ∈ trk h H := List.mem_filter.mpr ⟨List.mem_range.mpr (Heap.lt_size e'), by simp [q]⟩
    have z : (hidT h H).get? b = none := PySem.W.hideAll_none (trk h H) hm
    rw [z] at e; cases e
end L2
namespace L2
open PySem PySem.Spec PyProof.Rows
structure Mod (K : PySem.W.Frag) (mg : Str → Option Value) (base : Heap) : Prop where
  kin : K.In base
  glob : base.Ns mainGlobals mg
  blt : ∃ mb, base.Ns builtinsNs mb ∧ ∀ x : Str, x ≠ "__name__" → mb x = bootBuiltins x
  nolimit : base.NoLimit
structure Cx where
  prog : Program
  w : World
  K : PySem.W.Frag
  mg : Str → Option Value
  base : Heap
  A : Around
  N : List Str
  s₀ : Shared
  H₀ : Hp
  env : Env
  outer : List Env
  stack : List Env
  ex : List Addr
  fn : Str → Bool
  calm : Bool
  pn : List (Addr × Obj)
  xe : Value → Shared → Prop
noncomputable def frs (l : List Env) : List Addr := l.filterMap (·.frame)
noncomputable abbrev Cx.fs (X : Cx) : List Addr := frs X.outer
noncomputable def Vis (sc : Scope) (x : Str) : Prop := sc.names.lookup x = some .local ∨ sc.names.lookup x = some .cell ∨ sc.names.lookup x = some .free
noncomputable def Loc (sc : Scope) (x : Str) : Prop := sc.names.lookup x = some .local ∨ sc.names.lookup x = some .cell
noncomputable def Look (env : Env) (h : Heap) (m : Str → Option Value) (x : Str) (u : Value) : Prop :=
  (env.kindOf x = some .local ∧ m x = some u) ∨ ((env.kindOf x = some .cell ∨ env.kindOf x = some .free) ∧ ∃ c, env.cells.lookup x = some c ∧ h.IsCell c (some u))
structure Cx.Ok (X : Cx) : Prop where
  mod : Mod X.K X.mg X.base
  kind : X.env.scope.kind = .function
  glob : X.env.globals = mainGlobals
  blt : X.env.builtins = builtinsNs
  above : X.s₀.heap.objs.size ≤ X.env.locals
  inj : ∀ x y c, X.env.cells.lookup x = some c → X.env.cells.lookup y = some c → x = y
  has : ∀ x, (X.env.kindOf x = some .cell ∨ X.env.kindOf x = some .free) → ∃ c, X.env.cells.lookup x = some c
  cab : ∀ x c, X.fn x = true → X.env.cells.lookup x = some c → X.s₀.heap.objs.size ≤ c
  hd : X.calm = true → X.A.handled = none
  frames : X.A.frames = some X.stack
  stk : X.stack = X.outer ∨ (X.stack = X.env :: X.outer ∧ X.env.frame = some X.env.locals)
  exf : ∀ b ∈ X.ex, b ≠ X.env.locals ∧ ∀ x c, X.env.cells.lookup x = some c → c ≠ b
  bs : ∀ b o, X.base.get? b = some o → X.s₀.heap.get? b = some o ∧ X.H₀ b = none
  bsz : X.base.objs.size ≤ X.s₀.heap.objs.size
  noex : ∀ b o, X.base.get? b = some o → b ∉ X.ex
  exfs : ∀ b ∈ X.ex, b ∉ X.fs
  funs : X.s₀.heap.FunFrames X.base X.outer
  frf : ∀ b ∈ X.fs, X.H₀ b = none
structure Inv (X : Cx) (pins : List (Addr × Obj)) (σ : List (Option V)) (H : Hp) (s : Shared) : Prop where
  ok : X.Ok
  os : s.os = X.s₀.os
  bare : AllBare s.gens
  base : Un X.fs X.ex X.H₀ H X.s₀.heap s.heap
  loc : ∃ m, s.heap.Ns X.env.locals m ∧ ∀ (i : Nat) (x : Str) (v : V), X.N[i]? = some x → σ[i]? = some (some v) → Vis X.env.scope x → ∃ u, RelV v u ∧ Look X.env s.heap m x u
  cell : ∀ x c, X.env.cells.lookup x = some c → ∃ v, s.heap.IsCell c v
  free : H X.env.locals = none
  freeC : ∀ x c, X.env.cells.lookup x = some c → H c = none
  pin : ∀ p ∈ X.pn ++ pins, s.heap.get? p.1 = some p.2 ∧ H p.1 = none ∧ p.1 ≠ X.env.locals ∧ p.1 ∉ X.fs ∧ ∀ v, p.2.data ≠ .cell v
  hok : HOk X.prog X.w H s.heap
  len : σ.length = X.N.length
section
variable {X : Cx} {pins : List (Addr × Obj)} {σ : List (Option V)} {H H' : Hp} {s : Shared} {h' : Heap}
theorem Cx.Ok.nofr (ok : X.Ok) {b : Addr} {o : Obj} (e : X.base.get? b = some o) : b ∉ X.fs := fun hb => by
  have := (ok.funs.mem hb).1
  rw [e] at this; cases this
theorem Inv.bs (I : Inv X pins σ H s) : ∀ b o, X.base.get? b = some o → s.heap.get? b = some o ∧ H b = none := fun b o e =>
  ⟨I.base.keep b o (I.ok.bs b o e).1 (I.ok.bs b o e).2 (I.ok.nofr e) (I.ok.noex b o e), I.base.free b o (I.ok.bs b o e).1 (I.ok.bs b o e).2 (I.ok.noex b o e)⟩
theorem Inv.bk (I : Inv X pins σ H s) : ∀ b o, X.base.get? b = some o → s.heap.get? b = some o := fun b o e => (I.bs b o e).1
theorem Inv.mod (I : Inv X pins σ H s) : Mod X.K X.mg X.base := I.ok.mod
theorem Inv.kIn (I : Inv X pins σ H s) : X.K.In s.heap := I.ok.mod.kin.keeps I.bk
theorem Inv.lt (I : Inv X pins σ H s) : X.env.locals < s.heap.objs.size := let ⟨_, hn, _⟩ := I.loc; hn.lt
theorem Inv.sz (I : Inv X pins σ H s) : X.s₀.heap.objs.size ≤ s.heap.objs.size := Nat.le_trans I.ok.above (Nat.le_of_lt I.lt)
theorem Inv.nofs (I : Inv X pins σ H s) {a : Addr} (h : s.heap.objs.size ≤ a) : a ∉ X.fs := fun hb => by
  obtain ⟨_, o, ho, _⟩ := I.ok.funs.mem hb
  exact absurd (Nat.lt_of_lt_of_le (Heap.lt_size ho) (Nat.le_trans I.sz h)) (Nat.lt_irrefl _)
theorem Inv.cne (I : Inv X pins σ H s) : ∀ x c, X.env.cells.lookup x = some c → c ≠ X.env.locals := fun x c e z => by
  obtain ⟨v, o, ho, hd⟩ := I.cell x c e
  obtain ⟨m, ⟨o', es, ep, ho', hd', _⟩, _⟩ := I.loc
  rw [z, ho'] at ho; cases ho; rw [hd'] at hd; cases hd
theorem Inv.funs (I : Inv X pins σ H s) : s.heap.FunFrames X.base X.outer := by
  have all : ∀ (l : List Env), (∀ b ∈ frs l, b ∈ X.fs) → X.s₀.heap.FunFrames X.base l → s.heap.FunFrames X.base l := by
    intro l
    induction l with
    | nil => intro _ _; trivial
    | cons env r ih =>
      intro hs hl
      obtain ⟨hk, ⟨L, o, hf, hn, ho, hd⟩, hr⟩ := hl
      have hL : L ∈ X.fs := hs L (by unfold frs; rw [List.filterMap_cons, hf]; exact List.mem_cons_self)
      obtain ⟨sl, e⟩ := I.base.slot L o ho (I.ok.frf L hL) hL fun z => I.ok.exfs L z hL
      exact ⟨hk, ⟨L, _, hf, hn, e, hd⟩, ih (fun b hb => hs b (by unfold frs; rw [List.filterMap_cons, hf]; exact List.mem_cons_of_mem _ hb)) hr⟩
  exact all X.outer (fun _ hb => hb) I.ok.funs
theorem Inv.stack (I : Inv X pins σ H s) : s.heap.FunFrames X.base X.stack := by
  rcases I.ok.stk with e | ⟨e, hf⟩
  · rw [e]; exact I.funs
  · rw [e]
    obtain ⟨m, hn, _⟩ := I.loc
    refine .cons (by rw [I.ok.kind]; decide) hf hn ?_ I.funs
    exact Heap.get?_none_of_le (Nat.le_trans I.ok.bsz I.ok.above)
theorem Inv.stkSub (I : Inv X pins σ H s) : ∀ b ∈ frs X.stack, b ∈ X.env.locals :: X.fs := fun b hb => by
  rcases I.ok.stk with e | ⟨e, hf⟩
  · rw [e] at hb; exact List.mem_cons_of_mem _ hb
  · rw [e] at hb
    unfold frs at hb
    rw [List.filterMap_cons, hf] at hb
    exact hb
theorem Inv.stkFree (I : Inv X pins σ H s) : ∀ b ∈ frs X.stack, H b = none := fun b hb => by
  rcases List.mem_cons.mp (I.stkSub b hb) with e | hb
  · rw [e]; exact I.free
  · obtain ⟨_, o, ho, _⟩ := I.ok.funs.mem hb
    exact I.base.free b o ho (I.ok.frf b hb) fun z => I.ok.exfs b z hb
theorem Inv.step {g' : Array GenState} {t' : Nat} {d' : Drawn} {ch : List Addr} (I : Inv X pins σ H s)
    (hch : ∀ b ∈ ch, (b ∈ X.ex ∨ X.s₀.heap.objs.size ≤ b) ∧ b ≠ X.env.locals ∧ (∀ x c, X.env.cells.lookup x = some c → c ≠ b) ∧ ∀ p ∈ X.pn ++ pins, p.1 ≠ b)
    (keep : ∀ b o, b ≠ X.env.locals → b ∉ X.fs → b ∉ ch → s.heap.get? b = some o → H b = none → h'.get? b = some o)
    (slot : ∀ b o, b ≠ X.env.locals → b ∈ X.fs → b ∉ ch → s.heap.get? b = some o → H b = none → ∃ sl, h'.get? b = some { o with slots := sl }) (free : ∀ b o, b ∉ ch → s.heap.get? b = some o → H b = none → H' b = none)
    (there : ∀ b o, b ∉ ch → s.heap.get? b = some o → ∃ o', h'.get? b = some o')
    (tups : ∀ b xs, H b = some (.tup xs) → H' b = some (.tup xs)) (frzs : ∀ b o u, H b = some (.frz o u) → H' b = some (.frz o u)) (tbls : ∀ b ps, H b = some (.tbl ps) → ∃ more, H' b = some (.tbl (ps ++ more)))
    (ns : ∀ m, s.heap.Ns X.env.locals m → h'.Ns X.env.locals m) (hok : HOk X.prog X.w H' h') (hg : AllBare g') :
    Inv X pins σ H' { s with heap := h', gens := g', drawn := d', toks := t' } := by
  have neL : ∀ b o, X.s₀.heap.get? b = some o → b ≠ X.env.locals := fun b o e => Nat.ne_of_lt (Nat.lt_of_lt_of_le (Heap.lt_size e) I.ok.above)
  have neC : ∀ b o, X.s₀.heap.get? b = some o → b ∉ X.ex → b ∉ ch := fun b o e hx hb => by
    rcases (hch b hb).1 with z | z
    · exact hx z
    · exact absurd (Nat.lt_of_lt_of_le (Heap.lt_size e) z) (Nat.lt_irrefl _)
  have cellK : ∀ x c, X.env.cells.lookup x = some c → ∀ v, s.heap.IsCell c v → h'.IsCell c v := fun x c e v ⟨o, ho, hd⟩ => by
    have nch : c ∉ ch := fun z => (hch c z).2.2.1 x c e rfl
    by_cases hc : c ∈ X.fs
    · obtain ⟨sl, q⟩ := slot c o (I.cne x c e) hc nch ho (I.freeC x c e)
      exact ⟨_, q, hd⟩
    · exact ⟨o, keep c o (I.cne x c e) hc nch ho (I.freeC x c e), hd⟩
  refine ⟨I.ok, I.os, hg, ⟨fun b o e n hb hx => ?_, fun b o e n hb hx => ?_, fun b o e n hx => ?_, fun b o e hx => ?_, fun b xs e => tups b xs (I.base.tups b xs e), fun b o xs e => frzs b o xs (I.base.frzs b o xs e), fun b ps e => ?_⟩, ?_, fun x c e => ?_, ?_, fun x c e => ?_, fun p hp => ?_, hok, I.len⟩
  · exact keep b o (neL b o e) hb (neC b o e hx) (I.base.keep b o e n hb hx) (I.base.free b o e n hx)
  · obtain ⟨sl, e1⟩ := I.base.slot b o e n hb hx
    obtain ⟨sl', e2⟩ := slot b _ (neL b o e) hb (neC b o e hx) e1 (I.base.free b o e n hx)
    exact ⟨sl', e2⟩
  · obtain ⟨o', e1⟩ := I.base.there b o e hx
    exact free b o' (neC b o e hx) e1 (I.base.free b o e n hx)
  · obtain ⟨o', e1⟩ := I.base.there b o e hx
    exact there b o' (neC b o e hx) e1
  · obtain ⟨m1, e1⟩ := I.base.tbls b ps e
    obtain ⟨m2, e2⟩ := tbls b _ e1
    exact ⟨m1 ++ m2, by rw [e2, Array.append_assoc]⟩
  · obtain ⟨m, hn, hl⟩ := I.loc
    refine ⟨m, ns m hn, fun i x v e1 e2 e3 => ?_⟩
    obtain ⟨u, r, l⟩ := hl i x v e1 e2 e3
    refine ⟨u, r, ?_⟩
    rcases l with l | ⟨k, c, e, z⟩
    · exact .inl l
    · exact .inr ⟨k, c, e, cellK x c e _ z⟩
  · obtain ⟨v, z⟩ := I.cell x c e
    exact ⟨v, cellK x c e v z⟩
  · obtain ⟨m, ⟨o, _, _, ho, _⟩, _⟩ := I.loc
    exact free _ o (fun z => (hch _ z).2.1 rfl) ho I.free
  · obtain ⟨v, o, ho, hd⟩ := I.cell x c e
    exact free c o (fun z => (hch c z).2.2.1 x c e rfl) ho (I.freeC x c e)
  · obtain ⟨e, n, ne, nf, d⟩ := I.pin p hp
    have nch : p.1 ∉ ch := fun z => (hch p.1 z).2.2.2 p hp rfl
    exact ⟨keep p.1 p.2 ne nf nch e n, free p.1 p.2 nch e n, ne, nf, d⟩
theorem Inv.un {t' : Nat} (I : Inv X pins σ H s) (u : Un X.fs [] H H' s.heap h') (hok : HOk X.prog X.w H' h') : Inv X pins σ H' { s with heap := h', toks := t' } := by
  obtain ⟨m, ⟨o, es, ep, ho, r⟩, _⟩ := id I.loc
  obtain ⟨sl, hL⟩ := u.any ho I.free (by simp)
  exact I.step (g' := s.gens) (d' := s.drawn) (ch := []) (fun _ z => nomatch z) (fun b o _ hb _ e n => u.keep b o e n hb (by simp)) (fun b o _ hb _ e n => u.slot b o e n hb (by simp)) (fun b o _ e n => u.free b o e n (by simp)) (fun b o _ e => u.there b o e (by simp)) u.tups u.frzs u.tbls (fun m' hm => by
    obtain ⟨o', es', ep', ho', r'⟩ := hm
    rw [ho] at ho'; cases ho'
    exact ⟨_, es', ep', hL, r'⟩) hok I.bare
theorem Inv.call {g' : Array GenState} {t' : Nat} {d' : Drawn} {ch : List Addr} (I : Inv X pins σ H s) (u : Un (frs X.stack) ch H H' s.heap h') (hok : HOk X.prog X.w H' h') (hg : AllBare g')
    (hch : ∀ b ∈ ch, (b ∈ X.ex ∨ X.s₀.heap.objs.size ≤ b) ∧ b ≠ X.env.locals ∧ (∀ x c, X.env.cells.lookup x = some c → c ≠ b) ∧ ∀ p ∈ X.pn ++ pins, p.1 ≠ b) :
    Inv X pins σ H' { s with heap := h', gens := g', drawn := d', toks := t' } := by
  obtain ⟨m, ⟨o, es, ep, ho, r⟩, _⟩ := id I.loc
  obtain ⟨sl, hL⟩ := u.any ho I.free fun z => (hch _ z).2.1 rfl
  exact I.step (ch := ch) hch (fun b o hL hb hc e n => u.keep b o e n (fun z => (List.mem_cons.mp (I.stkSub b z)).elim hL hb) hc) (fun b o _ _ hc e n => u.any e n hc) (fun b o hc e n => u.free b o e n hc) (fun b o hc e => u.there b o e hc) u.tups u.frzs u.tbls (fun m' hm => by
    obtain ⟨o', es', ep', ho', r'⟩ := hm
    rw [ho] at ho'; cases ho'
    exact ⟨_, es', ep', hL, r'⟩) hok hg
theorem Inv.turned {t' : Nat} {it : Addr} (I : Inv X pins σ H s) (k : ∀ b o, b ≠ it → s.heap.get? b = some o → h'.get? b = some o) (hn : H it = none) (hL : it ≠ X.env.locals)
    (h1 : it ∈ X.ex ∨ X.s₀.heap.objs.size ≤ it) (h2 : ∀ x c, X.env.cells.lookup x = some c → c ≠ it) (h3 : ∀ p ∈ X.pn ++ pins, p.1 ≠ it) : Inv X pins σ H { s with heap := h', toks := t' } := by
  have nit : ∀ b u, H b = some u → b ≠ it := fun b u e z => by rw [z, hn] at e; cases e
  refine I.step (g' := s.gens) (d' := s.drawn) (ch := [it]) (fun b hb => ?_) (fun b o _ _ hc e _ => k b o (fun z => hc (by simp [z])) e) (fun b o _ _ hc e _ => ⟨o.slots, k b o (fun z => hc (by simp [z])) e⟩) (fun _ _ _ _ n => n)
    (fun b o hc e => ⟨o, k b o (fun z => hc (by simp [z])) e⟩) (fun _ _ e => e) (fun _ _ _ e => e) (fun b ps e => ⟨#[], by rw [e]; simp⟩) (fun m hm => ?_) (fun b u e => ?_) I.bare
  · have e : b = it := by simpa using hb
    subst e
    exact ⟨h1, hL, h2, h3⟩
  · obtain ⟨o, es, ep, ho, r⟩ := hm
    exact ⟨o, es, ep, k _ o (Ne.symm hL) ho, r⟩
  · refine (I.hok b u e).stay (fun c v hc q => k c v ?_ q) (fun _ q => q) fun _ _ q => q
    rcases hc with z | z
    · rw [z]; exact nit b u e
    · exact nit c _ z
theorem Inv.tok (I : Inv X pins σ H s) (t : Nat) : Inv X pins σ H { s with toks := t } := I.un (h' := s.heap) (t' := t) Un.refl I.hok
theorem Inv.kept {t' : Nat} (I : Inv X pins σ H s) (k : ∀ b u, s.heap.get? b = some u → h'.get? b = some u) : Inv X pins σ H { s with heap := h', toks := t' } := I.un (Un.kept k) (I.hok.kept k)
theorem Inv.laid {a : Addr} {o : HO} {t' : Nat} (I : Inv X pins σ H s) (k : ∀ b u, s.heap.get? b = some u → h'.get? b = some u) (hp : s.heap.objs.size ≤ a) (new : ObjOk X.prog X.w (upd H a o) h' a o) :
    Inv X pins σ (upd H a o) { s with heap := h', toks := t' } := I.un (Un.laid k hp (I.hok.fresh hp)) (I.hok.laid k hp new)
theorem Inv.write {x e : Addr} {o : HO} {t' : Nat} (I : Inv X pins σ H s) (mu : Mut (H x)) (he : e = x ∨ H e = some (.own x)) (k : ∀ b u, b ≠ e → s.heap.get? b = some u → h'.get? b = some u) (heo : ∃ u, h'.get? e = some u)
    (new : ObjOk X.prog X.w (upd H x o) h' x o) : Inv X pins σ (upd H x o) { s with heap := h', toks := t' } := I.un (Un.write mu he k heo) (I.hok.write mu he k heo new)
theorem Inv.weak {σ' : List (Option V)} (I : Inv X pins σ H s) (hl : σ'.length = σ.length) (w : ∀ (i : Nat) v, σ'[i]? = some (some v) → σ[i]? = some (some v)) : Inv X pins σ' H s :=
  ⟨I.ok, I.os, I.bare, I.base, let ⟨m, hn, hl'⟩ := I.loc; ⟨m, hn, fun i x v e1 e2 e3 => hl' i x v e1 (w i v e2) e3⟩, I.cell, I.free, I.freeC, I.pin, I.hok, hl.trans I.len⟩
theorem Inv.pins_of {pins' : List (Addr × Obj)} (I : Inv X pins σ H s) (h : ∀ p ∈ pins', s.heap.get? p.1 = some p.2 ∧ H p.1 = none ∧ p.1 ≠ X.env.locals ∧ p.1 ∉ X.fs ∧ ∀ v, p.2.data ≠ .cell v) : Inv X pins' σ H s :=
  ⟨I.ok, I.os, I.bare, I.base, I.loc, I.cell, I.free, I.freeC, fun p hp => (List.mem_append.mp hp).elim (fun z => I.pin p (List.mem_append_left _ z)) (h p), I.hok, I.len⟩
theorem nodup_ix {N : List Str} (hN : N.Nodup) {i j : Nat} {x : Str} (a : N[i]? = some x) (b : N[j]? = some x) : i = j := by
  obtain ⟨h1, e1⟩ := List.getElem?_eq_some_iff.mp a
  obtain ⟨h2, e2⟩ := List.getElem?_eq_some_iff.mp b
  exact (List.getElem_inj hN).mp (e1.trans e2.symm)
theorem store_ok2 {M : Model} {A : Around} {E : Value → Shared → Prop} {i : Nat} {x : Str} {v : V} {u : Value} {Q : Unit → Shared → Prop} (I : Inv X pins σ H s) (hN : X.N.Nodup) (hi : X.N[i]? = some x) (hx : Loc X.env.scope x) (r : RelV v u)
    (h : ∀ s', Inv X pins (σ.set i (some v)) H s' → (∃ a, Heap.SameBut a s.heap s'.heap ∧ (a = X.env.locals ∨ X.env.cells.lookup x = some a)) → Q () s') (hf : X.fn x = true ∨ X.env.scope.names.lookup x = some .local := by first | exact .inl rfl | exact .inr rfl | assumption) : wpAny M A (storeName X.env x u) Q E s := by
  obtain ⟨m, hn, hl⟩ := id I.loc
  have hcls : (X.env.scope.kind == .class || (X.env.scope.kind == .module && X.env.locals != X.env.globals)) = false := by rw [I.ok.kind]; rfl
  have hiσ : i < σ.length := by rw [I.len]; exact (List.getElem?_eq_some_iff.mp hi).1
  have cne := I.cne
  have tracked : ∀ {a : Addr} {h' : Heap}, (∃ o, s.heap.get? a = some o ∧ H a = none) → Heap.SameBut a s.heap h' → HOk X.prog X.w H h' := fun {a h'} ha hs b ob e => by
    obtain ⟨_, _, hfree⟩ := ha
    refine (I.hok b ob e).stay (fun c w' hc q => (hs.2 c ?_).trans q) (fun _ q => q) fun _ _ q => q
    rintro rfl
    rcases hc with rfl | hc
    · rw [hfree] at e; cases e
    · rw [hfree] at hc; cases hc
  rcases hx with hk | hk
  · refine wpAny_storeName_local hk hn (fun h' hn' hs => ?_) hcls
    obtain ⟨oL, _, _, hoL, _⟩ := id hn
    refine h _ ⟨I.ok, I.os, I.bare, ⟨fun b o e n hb hx => ?_, fun b o e n hb hx => ?_, I.base.free, fun b o e hx => ?_, I.base.tups, I.base.frzs, I.base.tbls⟩, ⟨_, hn', fun j y v' e1 e2 e3 => ?_⟩, fun y c e => ?_, I.free, I.freeC, fun p hp => ?_, tracked ⟨oL, hoL, I.free⟩ hs, by simpa using I.len⟩ ⟨_, hs, .inl rfl⟩
    · exact (hs.2 b (Nat.ne_of_lt (Nat.lt_of_lt_of_le (Heap.lt_size e) I.ok.above))).trans (I.base.keep b o e n hb hx)
    · obtain ⟨sl, e1⟩ := I.base.slot b o e n hb hx
      exact ⟨sl, (hs.2 b (Nat.ne_of_lt (Nat.lt_of_lt_of_le (Heap.lt_size e) I.ok.above))).trans e1⟩
    · obtain ⟨o', e1⟩ := I.base.there b o e hx
      exact ⟨o', (hs.2 b (Nat.ne_of_lt (Nat.lt_of_lt_of_le (Heap.lt_size e) I.ok.above))).trans e1⟩
    · by_cases hj : j = i
      · subst hj
        rw [hi] at e1; cases e1
        rw [List.getElem?_set_self hiσ] at e2
        cases e2
        exact ⟨u, r, .inl ⟨hk, by simp⟩⟩
      · rw [List.getElem?_set_ne (Ne.symm hj)] at e2
        obtain ⟨u', r', q⟩ := hl j y v' e1 e2 e3
        refine ⟨u', r', ?_⟩
        rcases q with ⟨k, e⟩ | ⟨k, c, e, z⟩
        · refine .inl ⟨k, ?_⟩
          have : y ≠ x := fun e => hj (nodup_ix hN e1 (e ▸ hi))
          simp [this, e]
        · exact .inr ⟨k, c, e, z.sameBut hs (cne y c e)⟩
    · obtain ⟨w', z⟩ := I.cell y c e
      exact ⟨w', z.sameBut hs (cne y c e)⟩
    · obtain ⟨e, n, ne, nf, d⟩ := I.pin p hp
      exact ⟨(hs.2 p.1 ne).trans e, n, ne, nf, d⟩
  · have hfn : X.fn x = true := by
      rcases hf with z | z
      · exact z
      · rw [z] at hk; cases hk
    obtain ⟨c, hc⟩ := I.ok.has x (.inl hk)
    obtain ⟨w', z⟩ := I.cell x c hc
    refine wpAny_storeName_cell I.ok.kind hk hc z (fun h' hc' hs => ?_)
    obtain ⟨oc, hoc, hocd⟩ := id z
    refine h { s with heap := h' } ⟨I.ok, I.os, I.bare, ⟨fun b o e n hb hx => ?_, fun b o e n hb hx => ?_, I.base.free, fun b o e hx => ?_, I.base.tups, I.base.frzs, I.base.tbls⟩, ⟨m, hn.sameBut hs (Ne.symm (cne x c hc)), fun j y v' e1 e2 e3 => ?_⟩, fun y c' e => ?_, I.free, I.freeC, fun p hp => ?_, tracked ⟨oc, hoc, I.freeC x c hc⟩ hs, by simpa using I.len⟩ ⟨c, hs, .inr hc⟩
    · exact (hs.2 b (Nat.ne_of_lt (Nat.lt_of_lt_of_le (Heap.lt_size e) (I.ok.cab x c hfn hc)))).trans (I.base.keep b o e n hb hx)
    · obtain ⟨sl, e1⟩ := I.base.slot b o e n hb hx
      exact ⟨sl, (hs.2 b (Nat.ne_of_lt (Nat.lt_of_lt_of_le (Heap.lt_size e) (I.ok.cab x c hfn hc)))).trans e1⟩
    · obtain ⟨o', e1⟩ := I.base.there b o e hx
      exact ⟨o', (hs.2 b (Nat.ne_of_lt (Nat.lt_of_lt_of_le (Heap.lt_size e) (I.ok.cab x c hfn hc)))).trans e1⟩
    · by_cases hj : j = i
      · subst hj
        rw [hi] at e1; cases e1
        rw [List.getElem?_set_self hiσ] at e2
        cases e2
        exact ⟨u, r, .inr ⟨.inl hk, c, hc, hc'⟩⟩
      · rw [List.getElem?_set_ne (Ne.symm hj)] at e2
        obtain ⟨u', r', q⟩ := hl j y v' e1 e2 e3
        refine ⟨u', r', ?_⟩
        rcases q with q | ⟨k, c', e, z'⟩
        · exact .inl q
        · refine .inr ⟨k, c', e, z'.sameBut hs ?_⟩
          rintro rfl
          exact hj (nodup_ix hN e1 (I.ok.inj _ _ _ e hc ▸ hi))
    · by_cases hcc : c' = c
      · subst hcc; exact ⟨_, hc'⟩
      · obtain ⟨w2, z2⟩ := I.cell y c' e
        exact ⟨w2, z2.sameBut hs hcc⟩
    · obtain ⟨e, n, ne, nf, d⟩ := I.pin p hp
      refine ⟨(hs.2 p.1 ?_).trans e, n, ne, nf, d⟩
      intro q
      rw [q, hoc] at e
      have q' : oc = p.2 := Option.some.inj e
      exact d w' (by rw [← q']; exact hocd)
theorem store_ok {M : Model} {A : Around} {E : Value → Shared → Prop} {i : Nat} {x : Str} {v : V} {u : Value} {Q : Unit → Shared → Prop} (I : Inv X pins σ H s) (hN : X.N.Nodup) (hi : X.N[i]? = some x) (hx : Loc X.env.scope x) (r : RelV v u)
    (h : ∀ s', Inv X pins (σ.set i (some v)) H s' → Q () s') (hf : X.fn x = true ∨ X.env.scope.names.lookup x = some .local := by first | exact .inl rfl | exact .inr rfl | assumption) : wpAny M A (storeName X.env x u) Q E s :=
  store_ok2 I hN hi hx r (fun s' I' _ => h s' I') hf
theorem Inv.call' {s' : Shared} {ch : List Addr} (I : Inv X pins σ H s) (ho : s'.os = s.os) (u : Un (frs X.stack) ch H H' s.heap s'.heap) (hok : HOk X.prog X.w H' s'.heap) (hg : AllBare s'.gens)
    (hch : ∀ b ∈ ch, (b ∈ X.ex ∨ X.s₀.heap.objs.size ≤ b) ∧ b ≠ X.env.locals ∧ (∀ x c, X.env.cells.lookup x = some c → c ≠ b) ∧ ∀ p ∈ X.pn ++ pins, p.1 ≠ b) : Inv X pins σ H' s' := by
  obtain ⟨h', g', d', t', o'⟩ := s'
  have e : o' = s.os := ho
  subst e
  exact I.call (g' := g') (t' := t') (d' := d') u hok hg hch
end
noncomputable abbrev XK := Value → Option Addr → Hp → Prop
noncomputable abbrev St := List (Option V)
noncomputable abbrev VK := V → Hp → Prop
noncomputable abbrev TE := St → Hp → VK → Prop
noncomputable abbrev TT := St → Hp → (Bool → Hp → Prop) → Prop
noncomputable abbrev TA := St → Hp → (List V → Hp → Prop) → Prop
structure Ends where
  nx : St → Hp → Prop
  rt : VK
  bk : St → Hp → Prop := fun _ _ => False
  ct : St → Hp → Prop := fun _ _ => False
noncomputable abbrev TS := Ends → St → Hp → Prop
noncomputable def EP (X : Cx) (pins : List (Addr × Obj)) (σ : St) (Q : VK) (u : Value) (s' : Shared) : Prop := ∃ v H', Inv X pins σ H' s' ∧ RelV v u ∧ Q v H'
noncomputable def TP (X : Cx) (pins : List (Addr × Obj)) (σ : St) (Q : Bool → Hp → Prop) (b : Bool) (s' : Shared) : Prop := ∃ H', Inv X pins σ H' s' ∧ Q b H'
noncomputable def AP (X : Cx) (pins : List (Addr × Obj)) (σ : St) (Q : List V → Hp → Prop) (us : List Value) (s' : Shared) : Prop := ∃ vs H', Inv X pins σ H' s' ∧ Vals vs us ∧ Q vs H'
noncomputable def SP (X : Cx) (pins : List (Addr × Obj)) (D : Ends) (f : Flow) (s' : Shared) : Prop :=
  match f with
  | .next => ∃ σ' H', Inv X pins σ' H' s' ∧ D.nx σ' H'
  | .brk => ∃ σ' H', Inv X pins σ' H' s' ∧ D.bk σ' H'
  | .cont => ∃ σ' H', Inv X pins σ' H' s' ∧ D.ct σ' H'
  | .ret u => ∃ v σ' H', Inv X pins σ' H' s' ∧ RelV v u ∧ D.rt v H'
noncomputable def PE (X : Cx) (e : Expr) (t : TE) : Prop :=
  ∀ (pins : List (Addr × Obj)) (s : Shared) (σ : St) (H : Hp) (Q : VK), Inv X pins σ H s → t σ H Q → wpAny (model X.prog X.w) X.A (eval e X.env) (EP X pins σ Q) X.xe s
noncomputable def PT (X : Cx) (e : Expr) (t : TT) : Prop :=
  ∀ (pins : List (Addr × Obj)) (s : Shared) (σ : St) (H : Hp) (Q : Bool → Hp → Prop), Inv X pins σ H s → t σ H Q → wpAny (model X.prog X.w) X.A (isTrue e X.env (eval e X.env)) (TP X pins σ Q) X.xe s
noncomputable def PW (X : Cx) (e : Expr) (t : TT) : Prop :=
  ∀ (whole : Sem Value) (pins : List (Addr × Obj)) (s : Shared) (σ : St) (H : Hp) (Q : Bool → Hp → Prop), Inv X pins σ H s → t σ H Q → wpAny (model X.prog X.w) X.A (isTrue e X.env whole) (TP X pins σ Q) X.xe s
theorem PW.pt {X : Cx} {e : Expr} {t : TT} (h : PW X e t) : PT X e t := h _
noncomputable def PA (X : Cx) (es : List Expr) (t : TA) : Prop :=
  ∀ (pos : Pos) (pins : List (Addr × Obj)) (s : Shared) (σ : St) (H : Hp) (Q : List V → Hp → Prop), Inv X pins σ H s → t σ H Q → wpAny (model X.prog X.w) X.A (spliced (backTo pos (starEach es X.env))) (AP X pins σ Q) X.xe s
noncomputable def PS (X : Cx) (st : Stmt) (t : TS) : Prop :=
  ∀ (pins : List (Addr × Obj)) (s : Shared) (σ : St) (H : Hp) (D : Ends), Inv X pins σ H s → t D σ H → wpAny (model X.prog X.w) X.A (exec st X.env) (SP X pins D) X.xe s
noncomputable def PSs (X : Cx) (st : List Stmt) (t : TS) : Prop :=
  ∀ (pins : List (Addr × Obj)) (s : Shared) (σ : St) (H : Hp) (D : Ends), Inv X pins σ H s → t D σ H → wpAny (model X.prog X.w) X.A (execs st X.env) (SP X pins D) X.xe s
theorem thn {α : Type} {t : Sem α} {Q Q' : α → Shared → Prop} {M : Model} {A : Around} {E : Value → Shared → Prop} {s : Shared} (h : wpAny M A t Q E s) (hQ : ∀ a s, Q a s → Q' a s) : wpAny M A t Q' E s := wpAny_mono h hQ fun _ _ x => x
end L2
namespace L2
open PySem PySem.Spec PyProof.Rows
section
variable {X : Cx}
inductive tVar (i : Nat) (σ : St) (H : Hp) (Q : VK) : Prop
  | mk (v : _) (c0 : σ[i]? = some (some v)) (c1 : Q v H) : tVar i σ H Q
noncomputable def tC (v : V) : TE := fun _ H Q => Q v H
theorem pe_var {i : Nat} {x : Str} {pos : Pos} (hN : X.N[i]? = some x) (hv : Vis X.env.scope x) (hd : (x == ("__debug__" : Str)) = false := by decide) (hcd : (x == ("__classdict__" : Str)) = false := by decide) : PE X (.Name x pos) (tVar i) := by
  intro pins s σ H Q I h
  obtain ⟨v, e, h⟩ := h
  obtain ⟨m, hn, hl⟩ := I.loc
  obtain ⟨u, r, l⟩ := hl i x v hN e hv
  have fin : EP X pins σ Q u s := ⟨v, H, I, r, h⟩
  rcases l with ⟨hk, hm⟩ | ⟨hk, c, hc, hcell⟩
  · exact wpAny_Name (wpAny_loadName_local I.ok.kind hk hn hm fin) hd
  · rcases hk with hk | hk
    · exact wpAny_Name (wpAny_loadName_cell I.ok.kind hk hc hcell fin) hd
    · exact wpAny_Name (wpAny_loadName_free I.ok.kind hk hc hcell fin hcd) hd
theorem pe_int {i j pos} : PE X (.Constant (.int i) j pos) (tC (.int i)) := fun _ _ _ H _ I h => wpAny_Constant_int ⟨.int i, H, I.tok _, ⟨_, rfl⟩, h⟩
theorem pe_bl {b j pos} : PE X (.Constant (.bool b) j pos) (tC (.bl b)) := fun _ _ _ H _ I h => Constant_bool ⟨.bl b, H, I, rfl, h⟩
theorem pe_non {j pos} : PE X (.Constant .none j pos) (tC .non) := fun _ _ _ H _ I h => Constant_none ⟨.non, H, I, rfl, h⟩
theorem pe_str {x j pos} : PE X (.Constant (.str x) j pos) (tC (.str x)) := fun _ _ _ H _ I h => Calls.Constant_str ⟨.str x, H, I.tok _, ⟨_, rfl⟩, h⟩
noncomputable def Gl (X : Cx) (x : Str) : Prop := X.env.kindOf x = some .globalImplicit
theorem ld_glob {E : Value → Shared → Prop} {pins : List (Addr × Obj)} {s : Shared} {σ : St} {H : Hp} {x : Str} {u : Value} {pos : Pos} {Q : Value → Shared → Prop} (I : Inv X pins σ H s) (hg : Gl X x) (hm : X.mg x = some u) (h : Q u s)
    (hd : (x == ("__debug__" : Str)) = false := by decide) : wpAny (model X.prog X.w) X.A (eval (.Name x pos) X.env) Q E s :=
  Calls.Name_function_global I.ok.kind hg (Calls.loadGlobal_global (by rw [I.ok.glob]; exact I.mod.glob.keeps I.bk) hm h) hd
theorem ld_blt {E : Value → Shared → Prop} {pins : List (Addr × Obj)} {s : Shared} {σ : St} {H : Hp} {x : Str} {u : Value} {pos : Pos} {Q : Value → Shared → Prop} (I : Inv X pins σ H s) (hg : Gl X x) (hm : X.mg x = none) (hv : bootBuiltins x = some u) (h : Q u s)
    (hn : x ≠ "__name__" := by decide) (hd : (x == ("__debug__" : Str)) = false := by decide) : wpAny (model X.prog X.w) X.A (eval (.Name x pos) X.env) Q E s := by
  obtain ⟨mb, h1, h2⟩ := I.mod.blt
  exact Calls.Name_function_global I.ok.kind hg (Calls.loadGlobal_builtin (by rw [I.ok.glob]; exact I.mod.glob.keeps I.bk) hm (by rw [I.ok.blt]; exact h1.keeps I.bk) ((h2 x hn).trans hv) h) hd
theorem pe_glob {x : Str} {v : V} {u : Value} {pos : Pos} (hg : Gl X x) (hm : X.mg x = some u) (r : RelV v u) (hd : (x == ("__debug__" : Str)) = false := by decide) : PE X (.Name x pos) (tC v) :=
  fun _ _ _ H _ I h => ld_glob I hg hm ⟨v, H, I, r, h⟩ hd
theorem pe_bltn {x : Str} {v : V} {u : Value} {pos : Pos} (hg : Gl X x) (hm : X.mg x = none) (hv : bootBuiltins x = some u) (r : RelV v u) (hn : x ≠ "__name__" := by decide) (hd : (x == ("__debug__" : Str)) = false := by decide) : PE X (.Name x pos) (tC v) :=
  fun _ _ _ H _ I h => ld_blt I hg hm hv ⟨v, H, I, r, h⟩ hn hd
variable {a b : Expr} {ta tb : TE} {pos : Pos}
inductive isB0 (Q : Bool → Hp → Prop) (x : V) (H1 : Hp) : Prop
  | mk (c : _) (c0 : x = .bl c) (c1 : Q c H1) : isB0 Q x H1
noncomputable def tB (t : TE) : TT := fun σ H Q => t σ H fun x H1 => isB0 Q x H1
theorem pt_val {e : Expr} {t : TE} (h : PE X e t) (he : ∀ whole, isTrue e X.env whole = (do let v ← whole; standAt e.pos; holding [v] (truthy v)) := by intro _; rfl) : PT X e (tB t) := by
  intro pins s σ H Q I hw
  refine isTrue_plain (thn (h pins s σ H _ I hw) fun v s1 hp0 => ?_) (he _)
  obtain ⟨x, H1, I1, r1, q1⟩ := hp0
  obtain ⟨d, rfl, q⟩ := q1
  cases r1
  exact wpAny_truthy_bool ⟨H1, I1, q⟩
variable {tA tB' : TT} {rest : List Expr}
noncomputable def tAnd (t u : TT) : TT := fun σ H Q => t σ H fun c H1 => if c = true then u σ H1 Q else Q false H1
noncomputable def tOr (t u : TT) : TT := fun σ H Q => t σ H fun c H1 => if c = true then Q true H1 else u σ H1 Q
noncomputable def tNot (t : TT) : TT := fun σ H Q => t σ H fun c H1 => Q (!c) H1
theorem pw_and1 (ha : PT X a tA) : PW X (.BoolOp .And [a] pos) tA := by
  intro wh pins s σ H Q I h
  refine isTrue_and (thn (ha pins s σ H Q I h) fun c s1 e => ?_)
  cases c with
  | true => exact isTrue_and_nil e
  | false => exact e
theorem pw_or1 (ha : PT X a tA) : PW X (.BoolOp .Or [a] pos) tA := by
  intro wh pins s σ H Q I h
  refine isTrue_or (thn (ha pins s σ H Q I h) fun c s1 e => ?_)
  cases c with
  | false => exact isTrue_or_nil e
  | true => exact e
theorem pw_and (ha : PT X a tA) (hb : PW X (.BoolOp .And (b :: rest) pos) tB') : PW X (.BoolOp .And (a :: b :: rest) pos) (tAnd tA tB') := by
  intro wh pins s σ H Q I h
  refine isTrue_and (thn (ha pins s σ H _ I h) fun c s1 hp0 => ?_)
  obtain ⟨H1, I1, q1⟩ := hp0
  cases c with
  | true => exact hb wh pins s1 σ H1 Q I1 q1
  | false => exact ⟨H1, I1, q1⟩
theorem pw_or (ha : PT X a tA) (hb : PW X (.BoolOp .Or (b :: rest) pos) tB') : PW X (.BoolOp .Or (a :: b :: rest) pos) (tOr tA tB') := by
  intro wh pins s σ H Q I h
  refine isTrue_or (thn (ha pins s σ H _ I h) fun c s1 hp0 => ?_)
  obtain ⟨H1, I1, q1⟩ := hp0
  cases c with
  | true => exact ⟨H1, I1, q1⟩
  | false => exact hb wh pins s1 σ H1 Q I1 q1
theorem pt_not (ha : PT X a tA) : PT X (.UnaryOp .Not a pos) (tNot tA) := by
  intro pins s σ H Q I h
  exact isTrue_not (ha pins s σ H (fun c H1 => Q (!c) H1) I h)
noncomputable def tAndV (ta tb : TE) : TE := fun σ H Q => ta σ H fun x H1 => ∃ c, x = .bl c ∧ if c = true then tb σ H1 Q else Q (.bl false) H1
noncomputable def tOrV (ta tb : TE) : TE := fun σ H Q => ta σ H fun x H1 => ∃ c, x = .bl c ∧ if c = true then Q (.bl true) H1 else tb σ H1 Q
noncomputable def tNotV (ta : TE) : TE := fun σ H Q => ta σ H fun x H1 => ∃ c, x = .bl c ∧ Q (.bl (!c)) H1
theorem pe_one {op} {t : TE} (h : PE X a t) : PE X (.BoolOp op [a] pos) t := fun pins s σ H Q I hw => BoolOp_one (h pins s σ H Q I hw)
theorem pe_and (ha : PE X a ta) (hb : PE X (.BoolOp .And (b :: rest) pos) tb) : PE X (.BoolOp .And (a :: b :: rest) pos) (tAndV ta tb) := by
  intro pins s σ H Q I h
  refine BoolOp_and (thn (ha pins s σ H _ I h) fun v s1 hp0 => ?_)
  obtain ⟨x, H1, I1, r1, q1⟩ := hp0
  obtain ⟨c, rfl, q1⟩ := q1
  cases r1
  refine wpAny_truthy_bool ?_
  cases c with
  | true => exact hb pins s1 σ H1 Q I1 q1
  | false => exact ⟨.bl false, H1, I1, rfl, q1⟩
theorem pe_or (ha : PE X a ta) (hb : PE X (.BoolOp .Or (b :: rest) pos) tb) : PE X (.BoolOp .Or (a :: b :: rest) pos) (tOrV ta tb) := by
  intro pins s σ H Q I h
  refine BoolOp_or (thn (ha pins s σ H _ I h) fun v s1 hp0 => ?_)
  obtain ⟨x, H1, I1, r1, q1⟩ := hp0
  obtain ⟨c, rfl, q1⟩ := q1
  cases r1
  refine wpAny_truthy_bool ?_
  cases c with
  | false => exact hb pins s1 σ H1 Q I1 q1
  | true => exact ⟨.bl true, H1, I1, rfl, q1⟩
theorem pe_not (ha : PE X a ta) : PE X (.UnaryOp .Not a pos) (tNotV ta) := by
  intro pins s σ H Q I h
  refine UnaryOp_ (thn (ha pins s σ H _ I h) fun v s1 hp0 => ?_)
  obtain ⟨x, H1, I1, r1, q1⟩ := hp0
  obtain ⟨c, rfl, q1⟩ := q1
  cases r1
  exact not_of (wpAny_truthy_bool ⟨.bl (!c), H1, I1, rfl, q1⟩)
end
end L2
namespace L2
open PySem PySem.Spec PyProof.Rows
noncomputable def SqL (K : PySem.W.Frag) (H : Hp) (a : Addr) (xs : List V) : Prop :=
  Rd H a (.lst xs) ∨
    ∃ (o : Obj) (its : Array Value) (n : Nat), K.lookup a = some o ∧ o.cls = .type "list" ∧ o.dict = none ∧ o.data = .seq its n ∧ its.size ≤ sizeLine ∧ Vals xs its.toList
noncomputable def SqT (K : PySem.W.Frag) (H : Hp) (a : Addr) (xs : List V) : Prop :=
  Rd H a (.tup xs) ∨
    ∃ (o : Obj) (its : Array Value) (n : Nat), K.lookup a = some o ∧ o.cls = .type "tuple" ∧ o.data = .seq its n ∧ its.size ≤ sizeLine ∧ Vals xs its.toList
def absV : Value → Option V
  | .none => some .non
  | .bool b => some (.bl b)
  | .int i _ => some (.int i)
  | .str x _ => some (.str x)
  | .bytes b _ => some (.byt b)
  | .float b _ => some (.flt b)
  | .ref a => some (.ref a)
  | .type n => some (.ty n)
  | _ => none
theorem RelV.abs {x : V} {u : Value} (r : RelV x u) : absV u = some x := by
  cases x with
  | non => cases r; rfl
  | bl _ => cases r; rfl
  | int _ => obtain ⟨t, rfl⟩ := r; rfl
  | str _ => obtain ⟨t, rfl⟩ := r; rfl
  | byt _ => obtain ⟨t, rfl⟩ := r; rfl
  | flt _ => obtain ⟨t, rfl⟩ := r; rfl
  | ref _ => cases r; rfl
  | ty _ => cases r; rfl
theorem RelV.inj {x y : V} {u : Value} (r : RelV x u) (q : RelV y u) : x = y := Option.some.inj (r.abs.symm.trans q.abs)
theorem Vals.inj : ∀ {xs ys : List V} {us : List Value}, Vals xs us → Vals ys us → xs = ys
  | _, _, _, .nil, .nil => rfl
  | _, _, _, .cons r t, .cons r' t' => by rw [r.inj r', Vals.inj t t']
section
variable {X : Cx} {pins : List (Addr × Obj)} {σ : St} {H : Hp} {s : Shared} {a : Addr} {xs ys : List V}
theorem SqL.of {K : PySem.W.Frag} (h : H a = some (.lst xs)) : SqL K H a xs := .inl (.inl h)
theorem SqT.of {K : PySem.W.Frag} (h : H a = some (.tup xs)) : SqT K H a xs := .inl (.inl h)
theorem Inv.list (I : Inv X pins σ H s) (h : SqL X.K H a xs) : ∃ its : List Value, Vals xs its ∧ PlainL s.heap a its.toArray ∧ xs.length ≤ sizeLine := by
  rcases h with h | ⟨o, its, n, hk, hc, hd, hs, hz, r⟩
  · obtain ⟨z, its, n, r, e⟩ := h.ok I.hok
    exact ⟨its, r, ⟨_, n, e, rfl, rfl, rfl⟩, z⟩
  · refine ⟨its.toList, r, ⟨o, n, I.kIn a o hk, hc, hd, by simpa using hs⟩, ?_⟩
    have e := r.length
    simp only [Array.length_toList] at e
    lia
theorem Inv.tuple (I : Inv X pins σ H s) (h : SqT X.K H a xs) : ∃ its : List Value, Vals xs its ∧ IsTup s.heap a its.toArray ∧ xs.length ≤ sizeLine := by
  rcases h with h | ⟨o, its, n, hk, hc, hs, hz, r⟩
  · obtain ⟨z, its, r, p⟩ := h.ok I.hok
    exact ⟨its, r, p, z⟩
  · refine ⟨its.toList, r, ⟨o, I.kIn a o hk, hc, n, by simpa using hs⟩, ?_⟩
    have e := r.length
    simp only [Array.length_toList] at e
    lia
theorem Inv.list_inj (I : Inv X pins σ H s) (h : SqL X.K H a xs) (h' : SqL X.K H a ys) : xs = ys := by
  obtain ⟨its, r, ⟨o, n, e, _, _, d⟩, _⟩ := I.list h
  obtain ⟨its', r', ⟨o', n', e', _, _, d'⟩, _⟩ := I.list h'
  rw [e] at e'; cases e'
  rw [d] at d'
  injection d' with d1 _
  have : its = its' := by simpa using congrArg Array.toList d1
  subst this
  exact r.inj r'
theorem Inv.tuple_inj (I : Inv X pins σ H s) (h : SqT X.K H a xs) (h' : SqT X.K H a ys) : xs = ys := by
  obtain ⟨its, r, ⟨o, e, _, n, d⟩, _⟩ := I.tuple h
  obtain ⟨its', r', ⟨o', e', _, n', d'⟩, _⟩ := I.tuple h'
  rw [e] at e'; cases e'
  rw [d] at d'
  injection d' with d1 _
  have : its = its' := by simpa using congrArg Array.toList d1
  subst this
  exact r.inj r'
end
noncomputable abbrev Cx.wish (X : Cx) (E : Value → Shared → Prop) : Cx := { X with xe := E }
noncomputable abbrev Cx.nox (X : Cx) : Cx := X.wish fun _ _ => False
theorem Cx.Ok.wish {X : Cx} (ok : X.Ok) (E : Value → Shared → Prop) : (X.wish E).Ok :=
  ⟨ok.mod, ok.kind, ok.glob, ok.blt, ok.above, ok.inj, ok.has, ok.cab, ok.hd, ok.frames, ok.stk, ok.exf, ok.bs, ok.bsz, ok.noex, ok.exfs, ok.funs, ok.frf⟩
theorem Cx.Ok.unwish {X : Cx} {E : Value → Shared → Prop} (ok : (X.wish E).Ok) : X.Ok :=
  ⟨ok.mod, ok.kind, ok.glob, ok.blt, ok.above, ok.inj, ok.has, ok.cab, ok.hd, ok.frames, ok.stk, ok.exf, ok.bs, ok.bsz, ok.noex, ok.exfs, ok.funs, ok.frf⟩
section
variable {X : Cx} {pins : List (Addr × Obj)} {σ : St} {H : Hp} {s : Shared} {E : Value → Shared → Prop}
theorem Inv.wish (I : Inv X pins σ H s) (E : Value → Shared → Prop) : Inv (X.wish E) pins σ H s := ⟨I.ok.wish E, I.os, I.bare, I.base, I.loc, I.cell, I.free, I.freeC, I.pin, I.hok, I.len⟩
theorem Inv.unwish (I : Inv (X.wish E) pins σ H s) : Inv X pins σ H s := ⟨I.ok.unwish, I.os, I.bare, I.base, I.loc, I.cell, I.free, I.freeC, I.pin, I.hok, I.len⟩
theorem SP.unwish {D : Ends} {f : Flow} {s' : Shared} (h : SP (X.wish E) pins D f s') : SP X pins D f s' := by
  cases f with
  | next => obtain ⟨σ', H', I, q⟩ := h; exact ⟨σ', H', I.unwish, q⟩
  | brk => obtain ⟨σ', H', I, q⟩ := h; exact ⟨σ', H', I.unwish, q⟩
  | cont => obtain ⟨σ', H', I, q⟩ := h; exact ⟨σ', H', I.unwish, q⟩
  | ret u => obtain ⟨v, σ', H', I, r, q⟩ := h; exact ⟨v, σ', H', I.unwish, r, q⟩
theorem PSs.nox {st : List Stmt} {t : TS} (h : PSs X.nox st t) : PSs X st t := fun pins s σ H D I hw =>
  wpAny_mono (h pins s σ H D (I.wish _) hw) (fun _ _ q => q.unwish) fun _ _ z => False.elim z
end
section
variable {X : Cx} {st : Stmt} {rest : List Stmt} {t u : TS} {e : Expr} {te : TE} {pos : Pos}
noncomputable def tNext : TS := fun D σ H => D.nx σ H
noncomputable def tSeq (t u : TS) : TS := fun D σ H => t { D with nx := u D } σ H
theorem pss_nil : PSs X [] tNext := fun _ _ σ H _ I h => wpAny_execs_nil ⟨σ, H, I, h⟩
theorem pss_cons (h1 : PS X st t) (h2 : PSs X rest u) : PSs X (st :: rest) (tSeq t u) := by
  intro pins s σ H D I h
  refine wpAny_execs_cons (thn (h1 pins s σ H { D with nx := u D } I h) fun f s1 q => ?_)
  cases f with
  | next =>
    obtain ⟨σ', H', I', q⟩ := q
    exact h2 pins s1 σ' H' D I' q
  | ret v => exact q
  | brk => exact q
  | cont => exact q
theorem pss_one (h1 : PS X st t) : PSs X [st] t := by
  intro pins s σ H D I h
  refine wpAny_execs_cons (thn (h1 pins s σ H D I h) fun f s1 q => ?_)
  cases f with
  | next => exact wpAny_execs_nil q
  | ret v => exact q
  | brk => exact q
  | cont => exact q
theorem Inv.quiet {pins : List (Addr × Obj)} {σ : St} {H : Hp} {s : Shared} (I : Inv X pins σ H s) : interactive X.env = false := by simp [interactive, I.ok.kind]
noncomputable def tDrop (te : TE) : TS := fun D σ H => te σ H fun _ H1 => D.nx σ H1
theorem ps_expr (he : PE X e te) (hs : swapsWith e none pos.line X.env = pure false := by rfl) : PS X (.Expr e pos) (tDrop te) := by
  intro pins s σ H D I h
  exact wpAny_Expr_any (thn (he pins s σ H _ I h) fun v s1 hp0 => by obtain ⟨x, H1, I1, r1, q1⟩ := hp0; exact ⟨σ, H1, I1, q1⟩) I.quiet hs
noncomputable def tRet (te : TE) : TS := fun D σ H => te σ H D.rt
theorem ps_ret (he : PE X e te) : PS X (.Return (some e) pos) (tRet te) := by
  intro pins s σ H D I h
  exact wpAny_Return_some (thn (he pins s σ H _ I h) fun v s1 hp0 => by obtain ⟨x, H1, I1, r1, q1⟩ := hp0; exact ⟨x, σ, H1, I1, r1, q1⟩)
noncomputable def tIfS (c : TT) (t u : TS) : TS := fun D σ H => c σ H fun b H1 => if b = true then t D σ H1 else u D σ H1
theorem ps_if {c : Expr} {a b : List Stmt} {tc : TT} (hc : PT X c tc) (ha : PSs X a t) (hb : PSs X b u) : PS X (.If c a b pos) (tIfS tc t u) := by
  intro pins s σ H D I h
  refine wpAny_If (thn (hc pins s σ H _ I h) fun d s1 hp0 => ?_)
  obtain ⟨H1, I1, q1⟩ := hp0
  cases d with
  | true => exact ha pins s1 σ H1 D I1 q1
  | false => exact hb pins s1 σ H1 D I1 q1
noncomputable def tNever : TS := fun _ _ _ => False
theorem ps_never : PS X st tNever := fun _ _ _ _ _ _ h => h.elim
theorem pss_never {sts : List Stmt} : PSs X sts tNever := fun _ _ _ _ _ _ h => h.elim
end
noncomputable abbrev TG := V → St → Hp → (St → Hp → Prop) → Prop
noncomputable abbrev TGs := List V → St → Hp → (St → Hp → Prop) → Prop
noncomputable def PG (X : Cx) (target : Expr) (t : TG) : Prop :=
  ∀ (pins : List (Addr × Obj)) (s : Shared) (σ : St) (H : Hp) (v : V) (u : Value) (Q : St → Hp → Prop), Inv X pins σ H s → RelV v u → t v σ H Q →
    wpAny (model X.prog X.w) X.A (assign target X.env u) (fun _ s' => ∃ σ' H', Inv X pins σ' H' s' ∧ Q σ' H') X.xe s
noncomputable def PGs (X : Cx) (ts : List Expr) (t : TGs) : Prop :=
  ∀ (pins : List (Addr × Obj)) (s : Shared) (σ : St) (H : Hp) (vs : List V) (us : List Value) (Q : St → Hp → Prop), Inv X pins σ H s → Vals vs us → t vs σ H Q →
    wpAny (model X.prog X.w) X.A (assignInOrder ((assignEach ts X.env).map (·.2)) us) (fun _ s' => ∃ σ' H', Inv X pins σ' H' s' ∧ Q σ' H') X.xe s
section
variable {X : Cx} {pos : Pos}
noncomputable def gName (i : Nat) : TG := fun v σ H Q => Q (σ.set i (some v)) H
theorem pg_name {i : Nat} {x : Str} (hN : X.N.Nodup) (hi : X.N[i]? = some x) (hx : Loc X.env.scope x) (hf : X.fn x = true ∨ X.env.scope.names.lookup x = some .local := by first | exact .inl rfl | exact .inr rfl | assumption) : PG X (.Name x pos) (gName i) := by
  intro pins s σ H v u Q I r h
  exact wpAny_assign_Name (store_ok I hN hi hx r (fun s' I' => ⟨_, H, I', h⟩) hf)
noncomputable def gNil : TGs := fun vs σ H Q => vs = [] ∧ Q σ H
inductive gCons (t : TG) (u : TGs) (vs : List V) (σ : St) (H : Hp) (Q : St → Hp → Prop) : Prop
  | mk (v : _) (r : _) (c0 : vs = v :: r) (c1 : t v σ H fun σ' H' => u r σ' H' Q) : gCons t u vs σ H Q
theorem pgs_nil : PGs X [] gNil := by
  intro pins s σ H vs us Q I r h
  obtain ⟨e, h⟩ := h
  subst e
  cases r
  exact assignInOrder_nil ⟨σ, H, I, h⟩
theorem pgs_cons {e : Expr} {es : List Expr} {t : TG} {u : TGs} (h1 : PG X e t) (h2 : PGs X es u)
    (hs : (assignEach (e :: es) X.env).map (·.2) = assign e X.env :: (assignEach es X.env).map (·.2) := by rfl) : PGs X (e :: es) (gCons t u) := by
  intro pins s σ H vs us Q I r h
  obtain ⟨v, vr, e1, h⟩ := h
  subst e1
  cases r with
  | cons r rr =>
    rw [hs]
    refine assignInOrder_cons (thn (h1 pins s σ H _ _ _ I r h) fun _ s1 hp0 => ?_)
    obtain ⟨σ1, H1, I1, q1⟩ := hp0
    exact h2 pins s1 σ1 H1 _ _ Q I1 rr q1
inductive gTup (K : PySem.W.Frag) (n : Nat) (t : TGs) (v : V) (σ : St) (H : Hp) (Q : St → Hp → Prop) : Prop
  | mk (a : _) (xs : _) (c0 : v = .ref a) (c1 : SqT K H a xs) (c2 : xs.length = n) (c3 : t xs σ H Q) : gTup K n t v σ H Q
theorem pg_tup {es : List Expr} {k : Nat} {t : TGs} {n : Nat} (hc : X.calm = true) (h : PGs X es t)
    (hn : (assignEach es X.env).length = n := by rfl) (hst : (assignEach es X.env).findIdx? (·.1) = none := by rfl) : PG X (.Tuple es k pos) (gTup X.K n t) := by
  intro pins s σ H v u Q I r hw
  obtain ⟨a, xs, e1, hq, hl, hw⟩ := hw
  subst e1
  cases r
  obtain ⟨its, rv, ht, hz⟩ := I.tuple hq
  refine assign_Tuple_tuple (I.ok.hd hc) ht (by simp [hn, ← hl, rv.length]) hst fun h' hx => ?_
  have I1 : Inv X pins σ H { s with heap := h' } := I.kept (t' := s.toks) fun b o e => hx b o (Nat.ne_of_lt (Heap.lt_size e)) e
  exact h pins _ σ H xs _ Q I1 (by simpa using rv) hw
noncomputable def tAsg (te : TE) (g : TG) : TS := fun D σ H => te σ H fun x H1 => g x σ H1 D.nx
theorem ps_set {i : Nat} {x : Str} {e : Expr} {te : TE} {pos' : Pos} (hN : X.N.Nodup) (hi : X.N[i]? = some x) (hx : Loc X.env.scope x) (he : PE X e te) (hs : swapsWith e (some (.Name x pos')) pos.line X.env = pure false := by rfl) (hf : X.fn x = true ∨ X.env.scope.names.lookup x = some .local := by first | exact .inl rfl | exact .inr rfl | assumption) :
    PS X (.Assign [.Name x pos'] e pos) (tAsg te (gName i)) := by
  intro pins s σ H D I h
  refine wpAny_Assign_Name (thn (he pins s σ H _ I h) fun v s1 hp0 => ?_) hs
  obtain ⟨y, H1, I1, r1, q1⟩ := hp0
  exact store_ok I1 hN hi hx r1 (fun s2 I2 => ⟨_, H1, I2, q1⟩) hf
end
section
variable {X : Cx} {pos : Pos}
noncomputable def tWhile (c : TT) (tb : TS) : TS := fun D σ H => ∃ W : Nat → St → Hp → Prop, (∃ m, W m σ H) ∧ ∀ m σ H, W m σ H →
  c σ H fun b H1 => if b = true then ∃ N : St → Hp → Prop, (∀ σ' H', N σ' H' → ∃ m', m' < m ∧ W m' σ' H') ∧ tb { D with nx := N, ct := N, bk := D.nx } σ H1 else D.nx σ H1
theorem ps_while {c : Expr} {body : List Stmt} {tc : TT} {tb : TS} (hp : PassesOwn (model X.prog X.w) X.A X.env X.xe) (hc : PT X c tc) (hb : PSs X body tb) : PS X (.While c body [] pos) (tWhile tc tb) := by
  intro pins s σ H D I h
  obtain ⟨W, ⟨m0, w0⟩, turn⟩ := h
  refine wpAny_While (codeAny_whileLoop (fun n s' => ∃ σ' H', Inv X pins σ' H' s' ∧ W n σ' H') ?_ m0 ⟨σ, H, I, w0⟩)
  rintro n s1 ⟨σ1, H1, I1, w1⟩
  refine wpAny_passesOwn hp (thn (hc pins s1 σ1 H1 _ I1 (turn n σ1 H1 w1)) fun b s2 hp0 => ?_)
  obtain ⟨H2, I2, q2⟩ := hp0
  cases b with
  | true =>
    obtain ⟨N, hN, q2⟩ := q2
    rw [if_pos rfl]
    refine wpAny_passesOwn hp (thn (hb pins s2 σ1 H2 _ I2 q2) fun f s3 q3 => ?_)
    cases f with
    | next =>
      obtain ⟨σ3, H3, I3, n3⟩ := q3
      obtain ⟨m', hm, w3⟩ := hN σ3 H3 n3
      exact ⟨m', hm, σ3, H3, I3, w3⟩
    | cont =>
      obtain ⟨σ3, H3, I3, n3⟩ := q3
      obtain ⟨m', hm, w3⟩ := hN σ3 H3 n3
      exact ⟨m', hm, σ3, H3, I3, w3⟩
    | brk => exact q3
    | ret v => exact q3
  | false =>
    rw [if_neg Bool.false_ne_true]
    exact wpAny_execs_nil ⟨σ1, H2, I2, q2⟩
end
structure It where
  go : Nat → Hp → Prop
  yld : Nat → Hp → V → Hp → Prop
  stop : Nat → Hp → Prop
noncomputable def FpOk (X : Cx) (pins : List (Addr × Obj)) (H : Hp) (b : Addr) : Prop :=
  H b = none ∧ b ≠ X.env.locals ∧ b ∉ X.fs ∧ (b ∈ X.ex ∨ X.s₀.heap.objs.size ≤ b) ∧ (∀ x c, X.env.cells.lookup x = some c → c ≠ b) ∧ ∀ p ∈ X.pn ++ pins, p.1 ≠ b
theorem Inv.fpOk {X : Cx} {pins : List (Addr × Obj)} {σ : St} {H H' : Hp} {s : Shared} {b : Addr} (I : Inv X pins σ H s) (hb : s.heap.objs.size ≤ b) (hn : H' b = none) : FpOk X pins H' b := by
  refine ⟨hn, Nat.ne_of_gt (Nat.lt_of_lt_of_le I.lt hb), I.nofs hb, .inr (Nat.le_trans I.sz hb), fun x c e z => ?_, fun p hp z => ?_⟩
  · obtain ⟨v, q⟩ := I.cell x c e
    exact absurd (Nat.lt_of_lt_of_le q.lt (by rw [z]; exact hb)) (Nat.lt_irrefl _)
  · exact absurd (Nat.lt_of_lt_of_le (Heap.lt_size (I.pin p hp).1) (by rw [z]; exact hb)) (Nat.lt_irrefl _)
structure Turn (P : Program) (w : World) (K : PySem.W.Frag) (tg : Expr) (J : It) (fp : List Addr) (it : Addr) (tn : Nat → Heap → Prop) : Prop where
  mem : it ∈ fp
  obj : ∀ i h, tn i h → ∀ b ∈ fp, ∃ o, h.get? b = some o ∧ ∀ v, o.data ≠ .cell v
  keep : ∀ i h h', tn i h → (∀ b ∈ fp, ∀ o, h.get? b = some o → h'.get? b = some o) → tn i h'
  item : ∀ (X : Cx), X.prog = P → X.w = w → X.K = K → X.calm = true → ∀ (i : Nat) (pins : List (Addr × Obj)) (s : Shared) (σ : St) (H : Hp) (E : Value → Shared → Prop), Inv X pins σ H s → (∀ b ∈ fp, FpOk X pins H b) → tn i s.heap → J.go i H →
    wpAny (model P w) X.A (pyNext (.ref it)) (fun r s1 => ∃ u, r = some u ∧
      wpAny (model P w) X.A (letOwnedTupleGo tg (.ref it) u) (fun _ s2 => ∃ x H', Inv X pins σ H' s2 ∧ RelV x u ∧ J.yld i H x H' ∧ tn (i + 1) s2.heap ∧ ∀ b ∈ fp, H' b = none) E s1) E s
  done : ∀ (X : Cx), X.prog = P → X.w = w → X.K = K → X.calm = true → ∀ (i : Nat) (pins : List (Addr × Obj)) (s : Shared) (σ : St) (H : Hp) (E : Value → Shared → Prop), Inv X pins σ H s → (∀ b ∈ fp, FpOk X pins H b) → tn i s.heap → J.stop i H →
    wpAny (model P w) X.A (pyNext (.ref it)) (fun r s1 => r = none ∧ Inv X pins σ H s1) E s
  self : ∀ (A : Around) (i : Nat) (s : Shared) (Q : Value → Shared → Prop) (E : Value → Shared → Prop), tn i s.heap → Q (.ref it) s → wpAny (model P w) A (pyIter (.ref it)) Q E s
noncomputable abbrev TI := St → Hp → (It → Hp → Prop) → Prop
noncomputable def PIE (X : Cx) (pins : List (Addr × Obj)) (σ : St) (tg : Expr) (R : It → Hp → Prop) (itv : Value) (s2 : Shared) : Prop :=
  ∃ (it : Addr) (fp : List Addr) (tn : Nat → Heap → Prop) (J : It) (H' : Hp), itv = .ref it ∧ Inv X pins σ H' s2 ∧ Turn X.prog X.w X.K tg J fp it tn ∧ tn 0 s2.heap ∧ (∀ b ∈ fp, FpOk X pins H' b) ∧ R J H'
noncomputable def PI (X : Cx) (tg iter : Expr) (wi : TI) : Prop :=
  ∀ (pins : List (Addr × Obj)) (s : Shared) (σ : St) (H : Hp) (R : It → Hp → Prop), Inv X pins σ H s → wi σ H R →
    wpAny (model X.prog X.w) X.A (eval iter X.env) (fun v s1 => wpAny (model X.prog X.w) X.A (pyIter v) (PIE X pins σ tg R) X.xe s1) X.xe s
theorem go_of {M : Model} {A : Around} {E : Value → Shared → Prop} {s : Shared} {tg : Expr} {it : Addr} {u : Value} {o : Obj} {n : String} {vs : Array Value} {Q : Unit → Shared → Prop} (ho : s.heap.get? it = some o) (hc : o.cls = .type n) (hd : o.data = .fields vs)
    (hn : ["enumerate", "zip", "dict_itemiterator", "dict_reverseitemiterator", "odict_iterator", "itertools.zip_longest", "itertools.pairwise"].contains n = false) (hQ : Q () s) : wpAny M A (letOwnedTupleGo tg (.ref it) u) Q E s := by
  unfold letOwnedTupleGo
  cases tg <;> first
    | exact wpAny_pure hQ
    | (cases u <;> first
        | exact wpAny_pure hQ
        | (refine wpAny_bind (wpAny_load ho ?_)
           rw [hc, hd]
           show wpAny M A (if (["enumerate", "zip", "dict_itemiterator", "dict_reverseitemiterator", "odict_iterator", "itertools.zip_longest", "itertools.pairwise"].contains n && vs[0]? == some (rawInt _)) = true then _ else _) Q E s
           rw [if_neg (by intro h; rw [hn, Bool.false_and] at h; cases h)]
           exact wpAny_pure hQ))
noncomputable def Itl (K : PySem.W.Frag) (a : Addr) : It :=
  ⟨fun i H => ∃ xs x, SqL K H a xs ∧ xs[i]? = some x, fun i H x H' => H' = H ∧ ∀ xs, SqL K H a xs → xs[i]? = some x, fun i H => ∃ xs, SqL K H a xs ∧ xs.length ≤ i⟩
noncomputable def Itt (K : PySem.W.Frag) (a : Addr) : It :=
  ⟨fun i H => ∃ xs x, SqT K H a xs ∧ xs[i]? = some x, fun i H x H' => H' = H ∧ ∀ xs, SqT K H a xs → xs[i]? = some x, fun i H => ∃ xs, SqT K H a xs ∧ xs.length ≤ i⟩
noncomputable def Itr (lo : Int) (n : Nat) : It := ⟨fun i _ => i < n, fun i H x H' => H' = H ∧ x = .int (lo + i), fun i _ => n ≤ i⟩
theorem turn_list {P : Program} {w : World} {K : PySem.W.Frag} {tg : Expr} (a it : Addr) : Turn P w K tg (Itl K a) [it] it (fun i h => h.IsListIter it a i) where
  mem := by simp
  obj := fun i h st b hb => by
    have e : b = it := by simpa using hb
    subst e
    obtain ⟨o, e, c, d⟩ := st
    exact ⟨o, e, fun v z => by rw [d] at z; cases z⟩
  keep := fun i h h' st k => st.at fun o e => k it (by simp) o e
  item := by
    intro X hP hw hK hc i pins s σ H E I hf st hg
    subst hP hw hK
    obtain ⟨xs, x, hq, hx⟩ := hg
    obtain ⟨its, rv, p, hz⟩ := I.list hq
    obtain ⟨u, hu, ru⟩ := rv.get hx
    obtain ⟨f0, f1, f2, f3, f4, f5⟩ := hf it (by simp)
    refine wpAny_pyNext_list_item st p.isList (x := u) (by simpa using hu) fun h' st' sb => ?_
    have I1 : Inv X pins σ H { s with heap := h' } := I.turned (t' := s.toks) (fun b o hb e => (sb.2 b hb).trans e) f0 f1 f3 f4 f5
    obtain ⟨o, e, c, d⟩ := id st'
    exact ⟨u, rfl, go_of (s := { s with heap := h' }) e c d (by decide) ⟨x, H, I1, ru, ⟨rfl, fun ys hy => by rw [I.list_inj hy hq]; exact hx⟩, st', fun b hb => (hf b hb).1⟩⟩
  done := by
    intro X hP hw hK hc i pins s σ H E I hf st hg
    subst hP hw hK
    obtain ⟨xs, hq, hx⟩ := hg
    obtain ⟨its, rv, p, hz⟩ := I.list hq
    obtain ⟨f0, f1, f2, f3, f4, f5⟩ := hf it (by simp)
    have hl := rv.length
    exact wpAny_pyNext_list_end (I.ok.hd hc) st p.isList (by simp; lia) fun h' eb => ⟨rfl, I.turned (t' := s.toks) (fun b o hb e => eb b o hb e) f0 f1 f3 f4 f5⟩
  self := fun _ _ _ _ _ st h => wpAny_pyIter_listiter st h
theorem turn_tuple {P : Program} {w : World} {K : PySem.W.Frag} {tg : Expr} (a it : Addr) : Turn P w K tg (Itt K a) [it] it (fun i h => h.IsTupleIter it a i) where
  mem := by simp
  obj := fun i h st b hb => by
    have e : b = it := by simpa using hb
    subst e
    obtain ⟨o, e, c, d⟩ := st
    exact ⟨o, e, fun v z => by rw [d] at z; cases z⟩
  keep := fun i h h' st k => st.at fun o e => k it (by simp) o e
  item := by
    intro X hP hw hK hc i pins s σ H E I hf st hg
    subst hP hw hK
    obtain ⟨xs, x, hq, hx⟩ := hg
    obtain ⟨its, rv, p, hz⟩ := I.tuple hq
    obtain ⟨u, hu, ru⟩ := rv.get hx
    obtain ⟨f0, f1, f2, f3, f4, f5⟩ := hf it (by simp)
    refine wpAny_pyNext_tuple_item st (show s.heap.IsTuple a its.toArray from p) (x := u) (by simpa using hu) fun h' st' sb => ?_
    have I1 : Inv X pins σ H { s with heap := h' } := I.turned (t' := s.toks) (fun b o hb e => (sb.2 b hb).trans e) f0 f1 f3 f4 f5
    obtain ⟨o, e, c, d⟩ := id st'
    exact ⟨u, rfl, go_of (s := { s with heap := h' }) e c d (by decide) ⟨x, H, I1, ru, ⟨rfl, fun ys hy => by rw [I.tuple_inj hy hq]; exact hx⟩, st', fun b hb => (hf b hb).1⟩⟩
  done := by
    intro X hP hw hK hc i pins s σ H E I hf st hg
    subst hP hw hK
    obtain ⟨xs, hq, hx⟩ := hg
    obtain ⟨its, rv, p, hz⟩ := I.tuple hq
    obtain ⟨f0, f1, f2, f3, f4, f5⟩ := hf it (by simp)
    have hl := rv.length
    exact wpAny_pyNext_tuple_end (I.ok.hd hc) st (show s.heap.IsTuple a its.toArray from p) (by simp; lia) fun h' eb => ⟨rfl, I.turned (t' := s.toks) (fun b o hb e => eb b o hb e) f0 f1 f3 f4 f5⟩
  self := fun _ _ _ _ _ st h => wpAny_pyIter_tupleiter st h
theorem turn_range {P : Program} {w : World} {K : PySem.W.Frag} {tg : Expr} (it : Addr) (lo : Int) (n : Nat) : Turn P w K tg (Itr lo n) [it] it (fun i h => IsRangeIter h it (lo + (i : Nat) * 1) ((n : Int) - (i : Nat)) 1) where
  mem := by simp
  obj := fun i h st b hb => by
    have e : b = it := by simpa using hb
    subst e
    exact ⟨_, st, fun v z => by
      have z' : Data.fields _ = Data.cell v := z
      cases z'⟩
  keep := fun i h h' st k => k it (by simp) _ st
  item := by
    intro X hP hw hK hc i pins s σ H E I hf st hg
    subst hP hw hK
    obtain ⟨f0, f1, f2, f3, f4, f5⟩ := hf it (by simp)
    have W := Walks.range (prog := X.prog) (w := X.w) (I.ok.hd hc) it lo 1 n
    refine W.item i s _ _ hg st fun v h' tk hv st' kk => ?_
    obtain ⟨t, rfl⟩ := hv
    have I1 : Inv X pins σ H { s with heap := h', toks := tk } := I.turned (fun b o hb e => kk b o (by simpa using hb) e) f0 f1 f3 f4 f5
    refine ⟨_, rfl, go_of (s := { s with heap := h', toks := tk }) (n := "range_iterator") st' rfl rfl (by decide) ⟨.int (lo + i), H, I1, ⟨t, ?_⟩, ⟨rfl, rfl⟩, st', fun b hb => (hf b hb).1⟩⟩
    rw [Int.mul_one]
  done := by
    intro X hP hw hK hc i pins s σ H E I hf st hg
    subst hP hw hK
    obtain ⟨f0, f1, f2, f3, f4, f5⟩ := hf it (by simp)
    exact wpAny_pyNext_range_end (I.ok.hd hc) st (by have : n ≤ i := hg; lia) fun h' eb => ⟨rfl, I.turned (t' := s.toks) (fun b o hb e => eb b o hb e) f0 f1 f3 f4 f5⟩
  self := fun _ _ _ _ _ st h => wpAny_pyIter_rangeiter st h
end L2
namespace L2
open PySem PySem.Spec PyProof.Rows
section
variable {X : Cx} {tg : Expr}
noncomputable def iList (K : PySem.W.Frag) (tl : TE) : TI := fun σ H R => tl σ H fun x H1 => ∃ a, x = .ref a ∧ (∃ xs, SqL K H1 a xs) ∧ R (Itl K a) H1
noncomputable def iTup (K : PySem.W.Frag) (tl : TE) : TI := fun σ H R => tl σ H fun x H1 => ∃ a, x = .ref a ∧ (∃ xs, SqT K H1 a xs) ∧ R (Itt K a) H1
theorem pi_list {l : Expr} {tl : TE} (hl : PE X l tl) : PI X tg l (iList X.K tl) := by
  intro pins s σ H R I h
  refine thn (hl pins s σ H _ I h) fun v s1 hp0 => ?_
  obtain ⟨x, H1, I1, r1, q1⟩ := hp0
  obtain ⟨a, e, ⟨xs, hq⟩, q⟩ := q1
  subst e
  cases r1
  obtain ⟨its, rv, p, hz⟩ := I1.list hq
  refine wpAny_pyIter_list p.isList ?_
  refine ⟨s1.heap.objs.size, [s1.heap.objs.size], _, _, H1, rfl, I1.kept (t' := s1.toks) fun b o e => Heap.get?_push_of_some _ e, turn_list a _, ⟨_, Heap.get?_push_size _ rfl, rfl, rfl⟩, fun b hb => ?_, q⟩
  have e : b = s1.heap.objs.size := by simpa using hb
  subst e
  exact I1.fpOk (Nat.le_refl _) (I1.hok.fresh (Nat.le_refl _))
theorem pi_tup {l : Expr} {tl : TE} (hl : PE X l tl) : PI X tg l (iTup X.K tl) := by
  intro pins s σ H R I h
  refine thn (hl pins s σ H _ I h) fun v s1 hp0 => ?_
  obtain ⟨x, H1, I1, r1, q1⟩ := hp0
  obtain ⟨a, e, ⟨xs, hq⟩, q⟩ := q1
  subst e
  cases r1
  obtain ⟨its, rv, p, hz⟩ := I1.tuple hq
  refine wpAny_pyIter_tuple (show s1.heap.IsTuple a its.toArray from p) ?_
  refine ⟨s1.heap.objs.size, [s1.heap.objs.size], _, _, H1, rfl, I1.kept (t' := s1.toks) fun b o e => Heap.get?_push_of_some _ e, turn_tuple a _, ⟨_, Heap.get?_push_size _ rfl, rfl, rfl⟩, fun b hb => ?_, q⟩
  have e : b = s1.heap.objs.size := by simpa using hb
  subst e
  exact I1.fpOk (Nat.le_refl _) (I1.hok.fresh (Nat.le_refl _))
theorem range_it {pins : List (Addr × Obj)} {σ : St} {H : Hp} {s : Shared} {R : It → Hp → Prop} {E : Value → Shared → Prop} {lo hi : Int} {t u v : Tok} {tk : Nat} (I : Inv X pins σ H s) (h1 : -(2 ^ 62) ≤ lo) (h2 : lo < 2 ^ 62) (h3 : -(2 ^ 62) ≤ hi) (h4 : hi < 2 ^ 62)
    (q : R (Itr lo (hi - lo).toNat) H) : wpAny (model X.prog X.w) X.A (pyIter (.ref s.heap.objs.size)) (PIE X pins σ tg R) E { s with heap := s.heap.push { cls := .type "range", data := .fields #[.int lo t, .int hi u, .int 1 v] }, toks := tk } := by
  refine wpAny_pyIter_range (IsRange.new ..) (small_one h1 h2 h3 h4) ?_
  have I1 : Inv X pins σ H { s with heap := s.heap.push { cls := .type "range", data := .fields #[.int lo t, .int hi u, .int 1 v] }, toks := tk } := I.kept fun b o e => Heap.get?_push_of_some _ e
  refine ⟨(s.heap.push { cls := .type "range", data := .fields #[.int lo t, .int hi u, .int 1 v] }).objs.size, [(s.heap.push { cls := .type "range", data := .fields #[.int lo t, .int hi u, .int 1 v] }).objs.size], _, _, H, rfl,
    I1.kept (t' := tk) fun b o e => Heap.get?_push_of_some _ e, turn_range _ lo (hi - lo).toNat, ?_, fun b hb => ?_, q⟩
  · have e1 : lo + ((0 : Nat) : Int) * 1 = lo := by simp
    have e2 : (((hi - lo).toNat : Nat) : Int) - ((0 : Nat) : Int) = Builtin.Range.rangeSize lo hi 1 := by rw [rangeSize_one]; split <;> lia
    show IsRangeIter _ _ (lo + ((0 : Nat) : Int) * 1) ((((hi - lo).toNat : Nat) : Int) - ((0 : Nat) : Int)) 1
    rw [e1, e2]
    exact Heap.get?_push_size _ rfl
  · have e : b = (s.heap.push { cls := .type "range", data := .fields #[.int lo t, .int hi u, .int 1 v] }).objs.size := by simpa using hb
    subst e
    exact I1.fpOk (Nat.le_refl _) (I1.hok.fresh (Nat.le_refl _))
noncomputable def iRng1 (ta : TA) : TI := fun σ H R => ta σ H fun vs H1 => ∃ j : Int, vs = [.int j] ∧ -(2 ^ 62) ≤ j ∧ j < 2 ^ 62 ∧ R (Itr 0 j.toNat) H1
theorem pi_range1 {a : Expr} {ta : TA} {p pos : Pos} (hg : Gl X "range") (hm : X.mg "range" = none) (ha : PA X [a] ta) (hs : starEach [a] X.env = [(false, eval a X.env)] := by rfl) : PI X tg (.Call (.Name "range" p) [a] [] pos) (iRng1 ta) := by
  intro pins s σ H R I h
  refine Call_ (ld_blt I hg hm boot_range (PyProof.Rows.callWith_type1 (thn (ha pos pins s σ H _ I h) fun us s1 hp0 => ?_) hs rfl))
  obtain ⟨vs, H1, I1, r1, q1⟩ := hp0
  obtain ⟨j, e, q1, q2, q⟩ := q1
  subst e
  cases r1 with
  | cons r rr =>
    cases rr
    obtain ⟨t, rfl⟩ := r
    exact call_range_1 (range_it I1 (by lia) (by lia) q1 q2 (by simpa using q))
noncomputable def tFor (wi : TI) (g : TG) (tb : TS) : TS := fun D σ H => wi σ H fun J H1 => ∃ W : Nat → Nat → St → Hp → Prop, (∃ m, W 0 m σ H1) ∧ ∀ i m σ H, W i m σ H →
  (J.stop i H ∧ D.nx σ H) ∨ (J.go i H ∧ ∃ N : St → Hp → Prop, (∀ σ' H', N σ' H' → ∃ m', m' < m ∧ W (i + 1) m' σ' H') ∧ ∀ x H', J.yld i H x H' → g x σ H' fun σ2 H2 => tb { D with nx := N, ct := N, bk := D.nx } σ2 H2)
noncomputable def pinsAt (fp : List Addr) (h : Heap) : List (Addr × Obj) := fp.filterMap fun b => (h.get? b).map fun o => (b, o)
theorem mem_pinsAt {fp : List Addr} {h : Heap} {b : Addr} {o : Obj} (hb : b ∈ fp) (e : h.get? b = some o) : (b, o) ∈ pinsAt fp h := List.mem_filterMap.mpr ⟨b, hb, by rw [e]; rfl⟩
theorem of_pinsAt {fp : List Addr} {h : Heap} {p : Addr × Obj} (hp : p ∈ pinsAt fp h) : p.1 ∈ fp ∧ h.get? p.1 = some p.2 := by
  obtain ⟨b, hb, e⟩ := List.mem_filterMap.mp hp
  cases q : h.get? b with
  | none => rw [q] at e; cases e
  | some o =>
    rw [q] at e
    have e' : (b, o) = p := Option.some.inj e
    subst e'
    exact ⟨hb, q⟩
theorem Inv.pinned {pins : List (Addr × Obj)} {σ : St} {H : Hp} {s : Shared} {fp : List Addr} (I : Inv X pins σ H s) (hf : ∀ b ∈ fp, FpOk X pins H b) (ho : ∀ b ∈ fp, ∃ o, s.heap.get? b = some o ∧ ∀ v, o.data ≠ .cell v) : Inv X (pins ++ pinsAt fp s.heap) σ H s :=
  I.pins_of fun p hp => (List.mem_append.mp hp).elim (fun z => I.pin p (List.mem_append_right _ z)) fun z => by
    obtain ⟨hb, e⟩ := of_pinsAt z
    obtain ⟨f0, f1, f2, _⟩ := hf p.1 hb
    obtain ⟨o, e', d⟩ := ho p.1 hb
    rw [e] at e'; cases e'
    exact ⟨e, f0, f1, f2, d⟩
theorem Inv.unpinned {pins pl : List (Addr × Obj)} {σ : St} {H : Hp} {s : Shared} (I : Inv X (pins ++ pl) σ H s) : Inv X pins σ H s := I.pins_of fun p hp => I.pin p (List.mem_append_right _ (List.mem_append_left _ hp))
theorem ps_for {iter : Expr} {body : List Stmt} {wi : TI} {g : TG} {tb : TS} {pos : Pos} (hp : PassesOwn (model X.prog X.w) X.A X.env X.xe) (hc : X.calm = true) (hi : PI X tg iter wi) (hg : PG X tg g) (hb : PSs X body tb)
    (hs : ∀ x, foldedSetIterable iter X.env x = pure x := by intro _; rfl) : PS X (.For tg iter body [] pos) (tFor wi g tb) := by
  intro pins s σ H D I h
  refine wpAny_For (thn (hi pins s σ H _ I h) fun v s1 h1 => thn h1 fun itv s2 h2 => ?_) hs
  obtain ⟨it, fp, tn, J, H2, e, I2, T, st2, f2, W, ⟨m0, w0⟩, turn⟩ := h2
  subst e
  -- what stays true of the iterator's objects through the loop
  have stat : ∀ {H' : Hp}, (∀ b ∈ fp, H' b = none) → ∀ b ∈ fp, FpOk X pins H' b := fun hn b hb => ⟨hn b hb, (f2 b hb).2⟩
  refine codeAny_forLoop_any (fun n s' => ∃ i σ' H', Inv X pins σ' H' s' ∧ tn i s'.heap ∧ (∀ b ∈ fp, H' b = none) ∧ W i n σ' H') ?_ m0 ⟨0, σ, H2, I2, st2, fun b hb => (f2 b hb).1, w0⟩
  rintro n s3 ⟨i, σ3, H3, I3, st3, fr3, w3⟩
  rcases turn i n σ3 H3 w3 with ⟨stop, qn⟩ | ⟨go, N, hN, step⟩
  · refine wpAny_passesOwn hp (thn (T.done X rfl rfl rfl hc i pins s3 σ3 H3 X.xe I3 (stat fr3) st3 stop) fun r s4 hp0 => ?_)
    obtain ⟨hr, I4⟩ := hp0
    subst hr
    exact wpAny_execs_nil ⟨σ3, H3, I4, qn⟩
  · refine wpAny_passesOwn hp (thn (T.item X rfl rfl rfl hc i pins s3 σ3 H3 X.xe I3 (stat fr3) st3 go) fun r s4 hp0 => ?_)
    obtain ⟨u, hr, h4⟩ := hp0
    subst hr
    refine wpAny_passesOwn hp (thn h4 fun _ s5 hp0 => ?_)
    obtain ⟨x, H5, I5, r5, y5, st5, fr5⟩ := hp0
    have I5' := I5.pinned (stat fr5) (T.obj _ _ st5)
    refine wpAny_passesOwn hp (thn (hg _ s5 σ3 H5 x u _ I5' r5 (step x H5 y5)) fun _ s6 hp0 => ?_)
    obtain ⟨σ6, H6, I6, q6⟩ := hp0
    refine wpAny_passesOwn hp (thn (hb _ s6 σ6 H6 _ I6 q6) fun f s7 q7 => ?_)
    have again : ∀ {σ7 : St} {H7 : Hp}, Inv X (pins ++ pinsAt fp s5.heap) σ7 H7 s7 → N σ7 H7 → ∃ m, m < n ∧ ∃ i σ' H', Inv X pins σ' H' s7 ∧ tn i s7.heap ∧ (∀ b ∈ fp, H' b = none) ∧ W i m σ' H' := fun {σ7 H7} I7 n7 => by
      obtain ⟨m', hm, w7⟩ := hN σ7 H7 n7
      refine ⟨m', hm, i + 1, σ7, H7, I7.unpinned, T.keep _ _ _ st5 fun b hb o e => (I7.pin (b, o) (List.mem_append_right _ (List.mem_append_right _ (mem_pinsAt hb e)))).1, fun b hb => ?_, w7⟩
      obtain ⟨o, e, d⟩ := T.obj _ _ st5 b hb
      exact (I7.pin (b, o) (List.mem_append_right _ (List.mem_append_right _ (mem_pinsAt hb e)))).2.1
    cases f with
    | next => obtain ⟨σ7, H7, I7, n7⟩ := q7; exact again I7 n7
    | cont => obtain ⟨σ7, H7, I7, n7⟩ := q7; exact again I7 n7
    | brk => obtain ⟨σ7, H7, I7, q7⟩ := q7; exact ⟨σ7, H7, I7.unpinned, q7⟩
    | ret v => obtain ⟨x7, σ7, H7, I7, r7, q7⟩ := q7; exact ⟨x7, σ7, H7, I7.unpinned, r7, q7⟩
end
theorem for_list {K : PySem.W.Frag} {a : Addr} {xs : List V} {g : TG} {tb : TS} {D : Ends} {σ : St} {H : Hp} (Pv : Nat → St → Hp → Prop) (h0 : Pv 0 σ H) (hl : ∀ i σ H, i ≤ xs.length → Pv i σ H → SqL K H a xs)
    (hs : ∀ i x σ H, xs[i]? = some x → Pv i σ H → g x σ H fun σ2 H2 => tb { D with nx := Pv (i + 1), ct := Pv (i + 1), bk := D.nx } σ2 H2) (hd : ∀ σ H, Pv xs.length σ H → D.nx σ H) :
    ∃ W : Nat → Nat → St → Hp → Prop, (∃ m, W 0 m σ H) ∧ ∀ i m σ H, W i m σ H →
      ((Itl K a).stop i H ∧ D.nx σ H) ∨ ((Itl K a).go i H ∧ ∃ N : St → Hp → Prop, (∀ σ' H', N σ' H' → ∃ m', m' < m ∧ W (i + 1) m' σ' H') ∧ ∀ x H', (Itl K a).yld i H x H' → g x σ H' fun σ2 H2 => tb { D with nx := N, ct := N, bk := D.nx } σ2 H2) := by
  refine ⟨fun i m σ H => m = xs.length - i ∧ i ≤ xs.length ∧ Pv i σ H, ⟨xs.length, by simp, Nat.zero_le _, h0⟩, ?_⟩
  rintro i m σ H ⟨rfl, hi, p⟩
  have q := hl i σ H hi p
  by_cases hlt : i < xs.length
  · refine .inr ⟨⟨xs, xs[i], q, by simp [hlt]⟩, Pv (i + 1), fun σ' H' p' => ⟨xs.length - (i + 1), by lia, rfl, hlt, p'⟩, fun x H' y => ?_⟩
    obtain ⟨e, y⟩ := y
    subst e
    exact hs i x σ _ (y xs q) p
  · have e : i = xs.length := by lia
    subst e
    exact .inl ⟨⟨xs, q, Nat.le_refl _⟩, hd σ H p⟩
theorem for_range {lo : Int} {n : Nat} {g : TG} {tb : TS} {D : Ends} {σ : St} {H : Hp} (Pv : Nat → St → Hp → Prop) (h0 : Pv 0 σ H)
    (hs : ∀ i σ H, i < n → Pv i σ H → g (.int (lo + i)) σ H fun σ2 H2 => tb { D with nx := Pv (i + 1), ct := Pv (i + 1), bk := D.nx } σ2 H2) (hd : ∀ σ H, Pv n σ H → D.nx σ H) :
    ∃ W : Nat → Nat → St → Hp → Prop, (∃ m, W 0 m σ H) ∧ ∀ i m σ H, W i m σ H →
      ((Itr lo n).stop i H ∧ D.nx σ H) ∨ ((Itr lo n).go i H ∧ ∃ N : St → Hp → Prop, (∀ σ' H', N σ' H' → ∃ m', m' < m ∧ W (i + 1) m' σ' H') ∧ ∀ x H', (Itr lo n).yld i H x H' → g x σ H' fun σ2 H2 => tb { D with nx := N, ct := N, bk := D.nx } σ2 H2) := by
  refine ⟨fun i m σ H => m = n - i ∧ i ≤ n ∧ Pv i σ H, ⟨n, by simp, Nat.zero_le _, h0⟩, ?_⟩
  rintro i m σ H ⟨rfl, hi, p⟩
  by_cases hlt : i < n
  · refine .inr ⟨hlt, Pv (i + 1), fun σ' H' p' => ⟨n - (i + 1), by lia, rfl, hlt, p'⟩, fun x H' y => ?_⟩
    obtain ⟨e, y⟩ := y
    subst e y
    exact hs i σ _ hlt p
  · have e : i = n := by lia
    subst e
    exact .inl ⟨Nat.le_refl _, hd σ H p⟩
end L2
namespace L2
open PySem PySem.Spec PyProof.Rows
noncomputable abbrev R2 := V → V → Hp → VK → Prop
noncomputable def OpR (X : Cx) (f : Value → Value → Sem Value) (r : R2) : Prop :=
  ∀ (pins : List (Addr × Obj)) (s : Shared) (σ : St) (H : Hp) (x y : V) (v u : Value) (Q : VK), Inv X pins σ H s → RelV x v → RelV y u → r x y H Q →
    wpAny (model X.prog X.w) X.A (f v u) (EP X pins σ Q) X.xe s
noncomputable def UnR (X : Cx) (f : Value → Sem Value) (r : V → Hp → VK → Prop) : Prop :=
  ∀ (pins : List (Addr × Obj)) (s : Shared) (σ : St) (H : Hp) (x : V) (v : Value) (Q : VK), Inv X pins σ H s → RelV x v → r x H Q →
    wpAny (model X.prog X.w) X.A (f v) (EP X pins σ Q) X.xe s
noncomputable def CallR (X : Cx) (f : Value) (r : List V → Hp → VK → Prop) : Prop :=
  ∀ (pins : List (Addr × Obj)) (s : Shared) (σ : St) (H : Hp) (xs : List V) (us : List Value) (Q : VK), Inv X pins σ H s → Vals xs us → r xs H Q →
    wpAny (model X.prog X.w) X.A (call f us) (EP X pins σ Q) X.xe s
noncomputable def tOp (r : R2) (ta tb : TE) : TE := fun σ H Q => ta σ H fun x H1 => tb σ H1 fun y H2 => r x y H2 Q
noncomputable def tUn (r : V → Hp → VK → Prop) (ta : TE) : TE := fun σ H Q => ta σ H fun x H1 => r x H1 Q
inductive rI (C : Int → Int → Prop) (g : Int → Int → V) (x : V) (y : V) (H : Hp) (Q : VK) : Prop
  | mk (i : _) (j : _) (c0 : x = .int i) (c1 : y = .int j) (c2 : C i j) (c3 : Q (g i j) H) : rI C g x y H Q
inductive rI0 (g : Int → Int → V) (x : V) (y : V) (H : Hp) (Q : VK) : Prop
  | mk (i : _) (j : _) (c0 : x = .int i) (c1 : y = .int j) (c2 : Q (g i j) H) : rI0 g x y H Q
noncomputable def rU (g : Int → V) : V → Hp → VK → Prop := fun x H Q => ∃ i, x = .int i ∧ Q (g i) H
section
variable {X : Cx} {a b c : Expr} {ta tb tc : TE} {pos : Pos}
theorem binT (ha : PE X a ta) (hb : PE X b tb) {pins : List (Addr × Obj)} {s : Shared} {σ : St} {H : Hp} {R : V → V → Hp → Prop} (I : Inv X pins σ H s)
    (h : ta σ H fun x H1 => tb σ H1 fun y H2 => R x y H2) {Q : Value → Shared → Prop} {f : Value → Value → Sem Value}
    (hf : ∀ v u s2 x y H2, Inv X pins σ H2 s2 → RelV x v → RelV y u → R x y H2 → wpAny (model X.prog X.w) X.A (f v u) Q X.xe s2) :
    wpAny (model X.prog X.w) X.A (eval a X.env) (fun v s₁ => wpAny (model X.prog X.w) X.A (eval b X.env) (fun u s₂ => wpAny (model X.prog X.w) X.A (f v u) Q X.xe s₂) X.xe s₁) X.xe s := by
  refine thn (ha pins s σ H _ I h) fun v s1 hp0 => ?_
  obtain ⟨x, H1, I1, r1, q1⟩ := hp0
  refine thn (hb pins s1 σ H1 _ I1 q1) fun u s2 hp0 => ?_
  obtain ⟨y, H2, I2, r2, q2⟩ := hp0
  exact hf v u s2 x y H2 I2 r1 r2 q2
theorem pe_op {op : Operator} {r : R2} (ho : OpR X (binaryOp op) r) (ha : PE X a ta) (hb : PE X b tb) : PE X (.BinOp a op b pos) (tOp r ta tb) := by
  intro pins s σ H Q I h
  exact wpAny_BinOp (binT ha hb I h fun v u s2 x y H2 I2 rx ry q => ho pins s2 σ H2 x y v u Q I2 rx ry q)
theorem pe_un {op : UnaryOp} {r : V → Hp → VK → Prop} (ho : UnR X (unaryOp op) r) (ha : PE X a ta) : PE X (.UnaryOp op a pos) (tUn r ta) := by
  intro pins s σ H Q I h
  exact UnaryOp_ (thn (ha pins s σ H _ I h) fun v s1 hp0 => by obtain ⟨x, H1, I1, r1, q1⟩ := hp0; exact ho pins s1 σ H1 x v Q I1 r1 q1)
theorem opI {f : Value → Value → Sem Value} {C : Int → Int → Prop} {g : Int → Int → Int}
    (rule : ∀ (i j : Int) (t u : Tok) (s : Shared) (Q : Value → Shared → Prop) (E : Value → Shared → Prop), C i j → Q (.int (g i j) s.toks) { s with toks := s.toks + 1 } → wpAny (model X.prog X.w) X.A (f (.int i t) (.int j u)) Q E s) :
    OpR X f (rI C fun i j => .int (g i j)) := by
  intro pins s σ H x y v u Q I rx ry h
  obtain ⟨i, j, rfl, rfl, hc, q⟩ := h
  obtain ⟨t, rfl⟩ := rx
  obtain ⟨t', rfl⟩ := ry
  exact rule i j t t' s _ _ hc ⟨.int (g i j), H, I.tok _, ⟨_, rfl⟩, q⟩
theorem opI0 {f : Value → Value → Sem Value} {g : Int → Int → Int}
    (rule : ∀ (i j : Int) (t u : Tok) (s : Shared) (Q : Value → Shared → Prop) (E : Value → Shared → Prop), Q (.int (g i j) s.toks) { s with toks := s.toks + 1 } → wpAny (model X.prog X.w) X.A (f (.int i t) (.int j u)) Q E s) :
    OpR X f (rI0 fun i j => .int (g i j)) := by
  intro pins s σ H x y v u Q I rx ry h
  obtain ⟨i, j, rfl, rfl, q⟩ := h
  obtain ⟨t, rfl⟩ := rx
  obtain ⟨t', rfl⟩ := ry
  exact rule i j t t' s _ _ ⟨.int (g i j), H, I.tok _, ⟨_, rfl⟩, q⟩
theorem opB0 {f : Value → Value → Sem Value} {g : Int → Int → Bool}
    (rule : ∀ (i j : Int) (t u : Tok) (s : Shared) (Q : Value → Shared → Prop) (E : Value → Shared → Prop), Q (.bool (g i j)) s → wpAny (model X.prog X.w) X.A (f (.int i t) (.int j u)) Q E s) :
    OpR X f (rI0 fun i j => .bl (g i j)) := by
  intro pins s σ H x y v u Q I rx ry h
  obtain ⟨i, j, rfl, rfl, q⟩ := h
  obtain ⟨t, rfl⟩ := rx
  obtain ⟨t', rfl⟩ := ry
  exact rule i j t t' s _ _ ⟨.bl (g i j), H, I, rfl, q⟩
noncomputable def CMul (i j : Int) : Prop := (-(2 ^ 64) < i ∧ i < 2 ^ 64) ∨ (-(2 ^ 64) < j ∧ j < 2 ^ 64)
theorem CMul.ok {i j : Int} (h : CMul i j) : IntMulOk i j := by
  rcases h with ⟨h1, h2⟩ | ⟨h1, h2⟩
  · exact .of_left (intBits_le_64 h1 h2)
  · exact .of_right (intBits_le_64 h1 h2)
theorem op_add : OpR X (binaryOp .Add) (rI0 fun i j => .int (i + j)) := opI0 fun _ _ _ _ _ _ _ q => add_int q
theorem op_sub : OpR X (binaryOp .Sub) (rI0 fun i j => .int (i - j)) := opI0 fun _ _ _ _ _ _ _ q => sub_int q
theorem op_mul : OpR X (binaryOp .Mult) (rI CMul fun i j => .int (i * j)) := opI fun _ _ _ _ _ _ _ hc q => mul_int q hc.ok
theorem op_mod : OpR X (binaryOp .Mod) (rI (fun _ j => 0 < j) fun i j => .int (i % j)) := opI fun i j _ _ _ _ _ hc q => by
  have h1 : (0 : Int) < j := hc
  exact mod_int' (by lia) (by rw [Int.fmod_eq_emod_of_nonneg i (by lia)]; exact q)
theorem unI {f : Value → Sem Value} {g : Int → Int}
    (rule : ∀ (i : Int) (t : Tok) (s : Shared) (Q : Value → Shared → Prop) (E : Value → Shared → Prop), Q (.int (g i) s.toks) { s with toks := s.toks + 1 } → wpAny (model X.prog X.w) X.A (f (.int i t)) Q E s) :
    UnR X f (rU fun i => .int (g i)) := by
  intro pins s σ H x v Q I rx h
  obtain ⟨i, rfl, q⟩ := h
  obtain ⟨t, rfl⟩ := rx
  exact rule i t s _ _ ⟨.int (g i), H, I.tok _, ⟨_, rfl⟩, q⟩
theorem un_neg : UnR X (unaryOp .USub) (rU fun i => .int (-i)) := unI fun _ _ _ _ _ q => neg_int q
end
noncomputable def scal : V → V → Bool
  | .non, .non => true | .non, .int _ => true | .int _, .non => true | .non, .bl _ => true | .bl _, .non => true | .non, .str _ => true | .str _, .non => true
  | .int _, .int _ => true | .bl _, .bl _ => true | .str _, .str _ => true | .byt _, .byt _ => true
  | .int _, .str _ => true | .str _, .int _ => true | .bl _, .str _ => true | .str _, .bl _ => true
  | _, _ => false
noncomputable def rEq : R2 := fun x y H Q => scal x y = true ∧ Q (.bl (decide (x = y))) H
noncomputable def rNe : R2 := fun x y H Q => scal x y = true ∧ Q (.bl (!decide (x = y))) H
theorem dec_int {i j : Int} : decide (V.int i = V.int j) = (i == j) := by
  rw [Bool.eq_iff_iff]
  simp
theorem dec_bl {i j : Bool} : decide (V.bl i = V.bl j) = (i == j) := by
  rw [Bool.eq_iff_iff]
  simp
theorem dec_str {i j : Str} : decide (V.str i = V.str j) = (i == j) := by
  rw [Bool.eq_iff_iff]
  simp
theorem dec_byt {i j : Array UInt8} : decide (V.byt i = V.byt j) = (i.toList == j.toList) := by
  rw [Bool.eq_iff_iff]
  cases i
  cases j
  simp
section
variable {X : Cx} {a b c : Expr} {ta tb tc : TE} {pos : Pos}
theorem fin_bl {pins : List (Addr × Obj)} {σ : St} {H : Hp} {s : Shared} {Q : VK} {k k' : Bool} (I : Inv X pins σ H s) (q : Q (.bl k) H) (e : k = k') : EP X pins σ Q (.bool k') s := by
  subst e
  exact ⟨.bl k, H, I, rfl, q⟩
theorem op_eq : OpR X (compareOp .Eq) rEq := by
  intro pins s σ H x y v u Q I rx ry h
  obtain ⟨hs, q⟩ := h
  cases x with
  | non =>
    cases rx
    cases y with
    | non => cases ry; exact PySem.EqNone.eq_none_none (fin_bl I q (by simp))
    | bl j => cases ry; exact PySem.EqNone.eq_none_bool (fin_bl I q (by simp))
    | int j => obtain ⟨t', rfl⟩ := ry; exact PySem.EqNone.eq_none_int (fin_bl I q (by simp))
    | str j => obtain ⟨t', rfl⟩ := ry; exact PySem.EqNone.eq_none_str (fin_bl I q (by simp))
    | _ => exact absurd (show false = true from hs) Bool.false_ne_true
  | bl i =>
    cases rx
    cases y with
    | non => cases ry; exact PySem.EqNone.eq_bool_none (fin_bl I q (by simp))
    | bl j => cases ry; exact eq_bool (fin_bl I q dec_bl)
    | str j => obtain ⟨t', rfl⟩ := ry; exact PySem.EqMixed.eq_bool_str (fin_bl I q (by simp))
    | _ => exact absurd (show false = true from hs) Bool.false_ne_true
  | int i =>
    obtain ⟨t, rfl⟩ := rx
    cases y with
    | non => cases ry; exact PySem.EqNone.eq_int_none (fin_bl I q (by simp))
    | int j => obtain ⟨t', rfl⟩ := ry; exact eq_int (fin_bl I q dec_int)
    | str j => obtain ⟨t', rfl⟩ := ry; exact PySem.EqMixed.eq_int_str (fin_bl I q (by simp))
    | _ => exact absurd (show false = true from hs) Bool.false_ne_true
  | str i =>
    obtain ⟨t, rfl⟩ := rx
    cases y with
    | non => cases ry; exact PySem.EqNone.eq_str_none (fin_bl I q (by simp))
    | bl j => cases ry; exact PySem.EqMixed.eq_str_bool (fin_bl I q (by simp))
    | int j => obtain ⟨t', rfl⟩ := ry; exact PySem.EqMixed.eq_str_int (fin_bl I q (by simp))
    | str j => obtain ⟨t', rfl⟩ := ry; exact eq_str (fin_bl I q dec_str)
    | _ => exact absurd (show false = true from hs) Bool.false_ne_true
  | byt i =>
    obtain ⟨t, rfl⟩ := rx
    cases y with
    | byt j => obtain ⟨t', rfl⟩ := ry; exact PySem.W.eq_bytes (fin_bl I q dec_byt)
    | _ => exact absurd (show false = true from hs) Bool.false_ne_true
  | _ => cases y <;> exact absurd (show false = true from hs) Bool.false_ne_true
theorem op_ne : OpR X (compareOp .NotEq) rNe := by
  intro pins s σ H x y v u Q I rx ry h
  obtain ⟨hs, q⟩ := h
  cases x with
  | non =>
    cases rx
    cases y with
    | non => cases ry; exact PySem.EqNone.ne_none_none (fin_bl I q (by simp))
    | bl j => cases ry; exact PySem.EqNone.ne_none_bool (fin_bl I q (by simp))
    | int j => obtain ⟨t', rfl⟩ := ry; exact PySem.EqNone.ne_none_int (fin_bl I q (by simp))
    | str j => obtain ⟨t', rfl⟩ := ry; exact PySem.EqNone.ne_none_str (fin_bl I q (by simp))
    | _ => exact absurd (show false = true from hs) Bool.false_ne_true
  | bl i =>
    cases rx
    cases y with
    | non => cases ry; exact PySem.EqNone.ne_bool_none (fin_bl I q (by simp))
    | bl j => cases ry; exact ne_bool (fin_bl I q (congrArg not dec_bl))
    | str j => obtain ⟨t', rfl⟩ := ry; exact PySem.EqMixed.ne_bool_str (fin_bl I q (by simp))
    | _ => exact absurd (show false = true from hs) Bool.false_ne_true
  | int i =>
    obtain ⟨t, rfl⟩ := rx
    cases y with
    | non => cases ry; exact PySem.EqNone.ne_int_none (fin_bl I q (by simp))
    | int j => obtain ⟨t', rfl⟩ := ry; exact ne_int (fin_bl I q (congrArg not dec_int))
    | str j => obtain ⟨t', rfl⟩ := ry; exact PySem.EqMixed.ne_int_str (fin_bl I q (by simp))
    | _ => exact absurd (show false = true from hs) Bool.false_ne_true
  | str i =>
    obtain ⟨t, rfl⟩ := rx
    cases y with
    | non => cases ry; exact PySem.EqNone.ne_str_none (fin_bl I q (by simp))
    | bl j => cases ry; exact PySem.EqMixed.ne_str_bool (fin_bl I q (by simp))
    | int j => obtain ⟨t', rfl⟩ := ry; exact PySem.EqMixed.ne_str_int (fin_bl I q (by simp))
    | str j => obtain ⟨t', rfl⟩ := ry; exact ne_str (fin_bl I q (congrArg not dec_str))
    | _ => exact absurd (show false = true from hs) Bool.false_ne_true
  | byt i =>
    obtain ⟨t, rfl⟩ := rx
    cases y with
    | byt j => obtain ⟨t', rfl⟩ := ry; exact PySem.W.ne_bytes (fin_bl I q (congrArg not dec_byt))
    | _ => exact absurd (show false = true from hs) Bool.false_ne_true
  | _ => cases y <;> exact absurd (show false = true from hs) Bool.false_ne_true
theorem op_lt : OpR X (compareOp .Lt) (rI0 fun i j => .bl (decide (i < j))) := opB0 fun _ _ _ _ _ _ _ q => lt_int q
theorem op_le : OpR X (compareOp .LtE) (rI0 fun i j => .bl (decide (i ≤ j))) := opB0 fun _ _ _ _ _ _ _ q => le_int q
theorem op_gt : OpR X (compareOp .Gt) (rI0 fun i j => .bl (decide (j < i))) := opB0 fun _ _ _ _ _ _ _ q => gt_int q
theorem op_notN : OpR X (compareOp .IsNot) (fun x y H Q => y = .non ∧ Q (.bl (!decide (x = .non))) H) := by
  intro pins s σ H x y v u Q I rx ry h
  obtain ⟨rfl, q⟩ := h
  cases ry
  refine isnot_none_gen (fin_bl I q ?_)
  cases x <;> first
    | (cases rx; rfl)
    | (obtain ⟨t, rfl⟩ := rx; rfl)
theorem nomark (b : Expr) {op : CmpOp} (h : op ≠ .In := by decide) (h2 : op ≠ .NotIn := by decide) : behindInMarks op b = false := by
  have e1 : (op == CmpOp.In) = false := by cases op <;> first | rfl | exact absurd rfl h
  have e2 : (op == CmpOp.NotIn) = false := by cases op <;> first | rfl | exact absurd rfl h2
  cases b <;> simp [behindInMarks, e1, e2]
theorem pe_cmpR {op : CmpOp} {r : R2} (ho : OpR X (compareOp op) r) (ha : PE X a ta) (hb : PE X b tb) (hm : behindInMarks op b = false) : PE X (.Compare a [op] [b] pos) (tOp r ta tb) := by
  intro pins s σ H Q I h
  exact wpAny_Compare1 (binT ha hb I h fun v u s2 x y H2 I2 rx ry q => ho pins s2 σ H2 x y v u Q I2 rx ry q) hm
inductive isB (Q : Bool → Hp → Prop) (x : V) (H' : Hp) : Prop
  | mk (k : _) (c0 : x = .bl k) (c1 : Q k H') : isB Q x H'
noncomputable def tTest (t : TE) : TT := fun σ H Q => t σ H fun x H' => isB Q x H'
theorem pt_cmpR {op : CmpOp} {r : R2} (ho : OpR X (compareOp op) r) (ha : PE X a ta) (hb : PE X b tb) (hm : behindInMarks op b = false) : PT X (.Compare a [op] [b] pos) (tTest (tOp r ta tb)) := by
  intro pins s σ H Q I h
  refine wpAny_isTrue_Compare1 (thn (ha pins s σ H _ I h) fun v s1 ⟨x, H1, I1, r1, q1⟩ => thn (hb pins s1 σ H1 _ I1 q1) fun u s2 ⟨y, H2, I2, r2, q2⟩ =>
    thn (ho pins s2 σ H2 x y v u _ I2 r1 r2 q2) fun c s3 ⟨z, H3, I3, r3, k, e, q3⟩ => ?_) hm
  subst e
  cases r3
  exact wpAny_truthy_bool ⟨H3, I3, q3⟩
noncomputable def tChain (r r' : R2) (ta tb tc : TE) : TE := fun σ H Q => ta σ H fun x H1 => tb σ H1 fun y H2 => r x y H2 fun z H3 => ∃ k, z = .bl k ∧
  (if k = true then tc σ H3 fun w' H4 => r' y w' H4 Q else Q (.bl false) H3)
theorem pt_chain {op op' : CmpOp} {r r' : R2} (ho : OpR X (compareOp op) r) (ho' : OpR X (compareOp op') r') (ha : PE X a ta) (hb : PE X b tb) (hc : PE X c tc)
    (hm : lastMarks [op, op'] [b, c] = false := by with_unfolding_all rfl) : PT X (.Compare a [op, op'] [b, c] pos) (tTest (tChain r r' ta tb tc)) := by
  intro pins s σ H Q I h
  refine isTrue_chain (thn (ha pins s σ H _ I h) fun v s1 ⟨x, H1, I1, r1, q1⟩ => test_link (thn (hb pins s1 σ H1 _ I1 q1) fun u s2 ⟨y, H2, I2, r2, q2⟩ =>
    thn (ho pins s2 σ H2 x y v u _ I2 r1 r2 q2) fun d s3 ⟨z, H3, I3, r3, k, e, q3⟩ => ?_)) hm
  subst e
  cases r3
  refine wpAny_truthy_bool ?_
  cases k with
  | false =>
    obtain ⟨k', e', q'⟩ := q3
    cases e'
    exact ite_ff ⟨H3, I3, q'⟩
  | true =>
    refine ite_tt (test_last (thn (hc pins s3 σ H3 _ I3 q3) fun w' s4 hp0 => ?_))
    obtain ⟨z', H4, I4, r4, q4⟩ := hp0
    refine thn (ho' pins s4 σ H4 y z' u w' _ I4 r2 r4 q4) fun d' s5 hp1 => ?_
    obtain ⟨z2, H5, I5, r5, k2, e2, q5⟩ := hp1
    subst e2
    cases r5
    exact wpAny_truthy_bool ⟨H5, I5, q5⟩
theorem line63 : (sizeLine : Nat) < 2 ^ 63 := by rw [sizeLine_eq]; decide
inductive rAddS (x y : V) (H : Hp) (Q : VK) : Prop
  | mk (i : _) (j : _) (c0 : x = .str i) (c1 : y = .str j) (c2 : i.length + j.length ≤ sizeLine) (c3 : Q (.str (i ++ j)) H) : rAddS x y H Q
theorem op_add_str : OpR X (binaryOp .Add) rAddS := by
  intro pins s σ H x y v u Q I rx ry h
  obtain ⟨i, j, rfl, rfl, hz, q⟩ := h
  obtain ⟨t, rfl⟩ := rx
  obtain ⟨t', rfl⟩ := ry
  exact add_str (fun t' tk => ⟨.str (i ++ j), H, I.tok _, ⟨_, rfl⟩, q⟩) hz
theorem vals1 {x : V} {us : List Value} (r : Vals [x] us) : ∃ u, us = [u] ∧ RelV x u := by
  cases r with
  | cons r1 r2 => cases r2; exact ⟨_, rfl, r1⟩
theorem vals2 {x y : V} {us : List Value} (r : Vals [x, y] us) : ∃ u w', us = [u, w'] ∧ RelV x u ∧ RelV y w' := by
  cases r with
  | cons r1 r2 =>
    cases r2 with
    | cons r3 r4 => cases r4; exact ⟨_, _, rfl, r1, r3⟩
noncomputable def LenV (K : PySem.W.Frag) (x : V) (H : Hp) (n : Nat) : Prop :=
  match x with
  | .str y => y.length ≤ sizeLine ∧ n = y.length
  | .byt y => y.size ≤ sizeLine ∧ n = y.size
  | .ref p => (∃ xs, SqL K H p xs ∧ n = xs.length) ∨ ∃ xs, SqT K H p xs ∧ n = xs.length
  | _ => False
inductive rLen (K : PySem.W.Frag) (xs : List V) (H : Hp) (Q : VK) : Prop
  | mk (x : _) (n : _) (c0 : xs = [x]) (c1 : LenV K x H n) (c2 : Q (.int n) H) : rLen K xs H Q
theorem call_len : CallR X (.builtin "len") (rLen X.K) := by
  intro pins s σ H xs us Q I r h
  obtain ⟨x, n, rfl, e, q⟩ := h
  obtain ⟨u, rfl, rx⟩ := vals1 r
  have hl := line63
  have hs : sizeLine = 16777216 := sizeLine_eq
  cases x with
  | str y =>
    obtain ⟨t, rfl⟩ := rx
    obtain ⟨hy, e'⟩ : y.length ≤ sizeLine ∧ n = y.length := e
    subst e'
    exact len_str (by lia) ⟨.int _, H, I.tok _, ⟨_, rfl⟩, q⟩
  | byt y =>
    obtain ⟨t, rfl⟩ := rx
    obtain ⟨hy, e'⟩ : y.size ≤ sizeLine ∧ n = y.size := e
    subst e'
    exact PySem.W.len_bytes (by lia) ⟨.int _, H, I.tok _, ⟨_, rfl⟩, q⟩
  | ref p =>
    cases rx
    have e' : (∃ xs, SqL X.K H p xs ∧ n = xs.length) ∨ ∃ xs, SqT X.K H p xs ∧ n = xs.length := e
    rcases e' with ⟨xs, hx, e'⟩ | ⟨xs, hx, e'⟩
    · subst e'
      obtain ⟨its, r', pl, hz⟩ := I.list hx
      have hlen := r'.length
      exact Calls.call_len_list pl.isList (by simp only [List.size_toArray]; lia) ⟨.int xs.length, H, I.tok _, ⟨_, by simp only [List.size_toArray]; rw [hlen]⟩, q⟩
    · subst e'
      obtain ⟨its, r', pl, hz⟩ := I.tuple hx
      have hlen := r'.length
      exact len_tuple pl (by simp only [List.size_toArray]; lia) ⟨.int xs.length, H, I.tok _, ⟨_, by simp only [List.size_toArray]; rw [hlen]⟩, q⟩
  | _ => exact (show False from e).elim
end
end L2
namespace L2
open PySem PySem.Spec PyProof.Rows
structure ObjM (h : Heap) (x dx C : Addr) (mA : Str → Option Value) : Prop where
  obj : h.get? x = some (PySem.W.instObj C dx)
  ns : h.Ns1 dx mA
  ne : dx ≠ x
theorem lookIn_ns {h : Heap} {dx : Addr} {mA : Str → Option Value} (n : h.Ns1 dx mA) : ∃ od, h.get? dx = some od ∧ ∀ name, PySem.W.lookIn name od = some (mA name) := by
  obtain ⟨o, es, ep, ho, hd, hk, _, hm⟩ := n
  refine ⟨o, ho, fun name => ?_⟩
  have e := hm name
  unfold nsFind findBy at e
  rw [← Array.find?_toList] at e
  unfold PySem.W.lookIn
  rw [hd]
  dsimp only
  split
  · rename_i y q
    rw [q] at e
    exact congrArg some e
  · rename_i q
    rw [q] at e
    have a : es.toList.any (·.refKey) = false := by
      rw [List.any_eq_false]
      intro y hy
      obtain ⟨z, t, hkey⟩ := hk y (Array.mem_toList_iff.mp hy)
      simp [DictEntry.refKey, hkey]
    have a' : ¬ es.toList.any (·.refKey) = true := by rw [a]; exact Bool.false_ne_true
    rw [if_neg a']
    exact congrArg some e
theorem ObjM.look {h : Heap} {x dx C : Addr} {mA : Str → Option Value} (I : ObjM h x dx C mA) : ∃ od, PySem.W.InstAt h x (PySem.W.instObj C dx) C (some od) ∧ ∀ name, PySem.W.lookIn name od = some (mA name) :=
  let ⟨od, ho, hl⟩ := lookIn_ns I.ns
  ⟨od, ⟨I.obj, rfl, rfl, ho⟩, hl⟩
section
variable {prog : Program} {w : World} {A : Around} {E : Value → Shared → Prop} {s : Shared} {K : PySem.W.Frag} {x dx C f : Addr} {mA : Str → Option Value} {name : Str} {v : Value}
theorem get_map {expr : Bool} {Q : Value → Shared → Prop} (X : K.In s.heap) (I : ObjM s.heap x dx C mA) (hg : PySem.W.plainGet K C name = true) (hh : PySem.W.hasDictIn K C = true)
    (ha : PySem.W.findIn K (.ref C) name = some none) (hv : mA name = some v) (hv' : PySem.W.handedIn v = true) (h : Q v { s with toks := s.toks + 1 }) :
    wpAny (model prog w) A (getAttr (.ref x) name expr) Q E s := by
  obtain ⟨od, J, hl⟩ := I.look
  exact PySem.W.get_value X J (PySem.W.plainGet_of hg).1 (PySem.W.findObj_own hh ha rfl (by rw [hl, hv])) hv' h
theorem get_meth {pl : Sem Bool} {Q : Value × List Value → Shared → Prop} (X : K.In s.heap) (I : ObjM s.heap x dx C mA) (hg : PySem.W.plainGet K C name = true)
    (hf : PySem.W.findIn K (.ref C) name = some (some (.ref f))) (ht : PySem.W.isFn K (.ref f) = true) (hv : mA name = none) (h : Q (.ref f, [.ref x]) s) :
    wpAny (model prog w) A (getMethod (.ref x) name pl) Q E s := by
  obtain ⟨od, J, hl⟩ := I.look
  exact PySem.W.method_fn X J (PySem.W.plainGet_of hg).1 (PySem.W.plainGet_of hg).2 hf (beq_iff_eq.mp ht) (by show (PySem.W.lookIn name od).map (·.isSome) = some false; rw [hl, hv]; rfl) h
theorem set_map {ns : List Str} {Q : Unit → Shared → Prop} (X : K.In s.heap) (I : ObjM s.heap x dx C mA)
    (hs : PySem.W.findIn K (.ref C) "__setattr__" = some (some (.builtin "object.__setattr__"))) (hp : PySem.W.plainOver K C = true) (ht : PySem.W.takerIn K C name = some none) (hh : PySem.W.hasDictIn K C = true)
    (hw : PySem.Within mA ns) (hsz : ns.length ≤ sizeLine)
    (h : ∀ h', ObjM h' x dx C (fun y => if y = name then some v else mA y) → Heap.SameBut dx s.heap h' → Q () { s with heap := h', toks := s.toks + 2 }) :
    wpAny (model prog w) A (setAttr (.ref x) name v) Q E s := by
  obtain ⟨od, J, hl⟩ := I.look
  refine PySem.W.set_plain X J hs (PySem.W.osa_open (s := { s with toks := s.toks + 1 }) (r := none) X J hp ht fun b => ?_)
  obtain ⟨cd, hc, hd'⟩ := PySem.W.any_some hh
  have hx : s.heap.get? x = some ⟨.ref C, some dx, .plain, #[]⟩ := I.obj
  refine wpAny_bind (wpAny_pure (wpAny_bind (wpAny_bind (wpAny_loadPart hx (wpAny_bind (PySem.W.Looks.here (s := { s with toks := s.toks + 1 }) (PySem.W.looks_clsIn X hc) ?_))))))
  rw [hd']
  refine wpAny_pure (a := some dx) (wpAny_bind (wpAny_pure (wpAny_bind ?_)))
  refine wpAny_nsSet1 (s := { s with toks := s.toks + 1 }) I.ns fun h' hn2 hs2 => ?_
  obtain ⟨oD, esD, epD, hoD, hdD, hcD⟩ := hn2.count (PySem.Within.cons name v hw)
  refine wpAny_bind (wpAny_lookBehind hoD (by rw [hdD]; exact pastItsLine_dict (Nat.le_trans hcD (by rw [List.length_cons]; lia))) ?_)
  exact wpAny_pure (h _ ⟨(hs2.2 _ (Ne.symm I.ne)).trans I.obj, hn2, I.ne⟩ hs2)
theorem make_map {R : Result → Shared → Prop} {vs : List Value} {kw : List (Str × Value)} (X : K.In s.heap) (hm : PySem.W.makesIn K C = true)
    (hi : PySem.W.findIn K (.ref C) "__init__" = some (some (.ref f))) (hf : PySem.W.typeIn K (.ref f) = some (.type "function"))
    (h : codeAny (model prog w) (A.under (.builtin "type.__call__" ⟨.ref C :: vs, kw⟩)) (.call (.ref f) ⟨.ref (s.heap.objs.size + 1) :: vs, kw⟩) (PySem.W.InitBack (s.heap.objs.size + 1) R)
      { s with heap := (s.heap.push PySem.W.emptyDict).push (PySem.W.instObj C s.heap.objs.size) }) :
    codeAny (model prog w) A (.call (.ref C) ⟨vs, kw⟩) R s := by
  obtain ⟨hh, g, d, t, os⟩ := s
  exact PySem.W.make_core (PySem.W.makes_of X hm) (PySem.W.looks_findIn X hi) (fun self => PySem.W.bind_fn X self hf) (.inl rfl) h
theorem make_map0 {R : Result → Shared → Prop} (X : K.In s.heap) (hm : PySem.W.makesIn K C = true)
    (hi : PySem.W.findIn K (.ref C) "__init__" = some (some (.builtin "object.__init__")))
    (hb : ∀ self, PySem.W.Looks (model prog w) s.heap (bindSpecial (.builtin "object.__init__") self) (.builtin "object.__init__", [self]))
    (h : codeAny (model prog w) (A.under (.builtin "type.__call__" ⟨[.ref C], []⟩)) (.call (.builtin "object.__init__") ⟨[.ref (s.heap.objs.size + 1)], []⟩) (PySem.W.InitBack (s.heap.objs.size + 1) R)
      { s with heap := (s.heap.push PySem.W.emptyDict).push (PySem.W.instObj C s.heap.objs.size) }) :
    codeAny (model prog w) A (.call (.ref C) ⟨[], []⟩) R s := by
  obtain ⟨hh, g, d, t, os⟩ := s
  exact PySem.W.make_core (PySem.W.makes_of X hm) (PySem.W.looks_findIn X hi) hb (.inr ⟨rfl, rfl⟩) h
end
noncomputable def putF (f : Str) (v : V) : List (Str × V) → List (Str × V)
  | [] => [(f, v)]
  | (g, x) :: r => if g = f then (g, v) :: r else (g, x) :: putF f v r
theorem lookup_putF (f g : Str) (v : V) : ∀ fs : List (Str × V), (putF f v fs).lookup g = if g = f then some v else fs.lookup g
  | [] => by
    show List.lookup g [(f, v)] = _
    by_cases h : g = f
    · have hb : (g == f) = true := beq_iff_eq.mpr h
      simp only [List.lookup, hb, if_pos h]
    · have hb : (g == f) = false := beq_eq_false_iff_ne.mpr h
      simp only [List.lookup, hb, if_neg h]
  | (k, x) :: r => by
    have ih := lookup_putF f g v r
    rw [show putF f v ((k, x) :: r) = (if k = f then (k, v) :: r else (k, x) :: putF f v r) from rfl]
    by_cases hk : k = f
    · rw [if_pos hk]
      by_cases h : g = k
      · have hb : (g == k) = true := beq_iff_eq.mpr h
        simp only [List.lookup, hb, if_pos (h.trans hk)]
      · have hb : (g == k) = false := beq_eq_false_iff_ne.mpr h
        simp only [List.lookup, hb, if_neg (fun e : g = f => h (e.trans hk.symm))]
    · rw [if_neg hk]
      by_cases h : g = k
      · have hb : (g == k) = true := beq_iff_eq.mpr h
        simp only [List.lookup, hb, if_neg (fun e : g = f => hk (h.symm.trans e))]
      · have hb : (g == k) = false := beq_eq_false_iff_ne.mpr h
        simp only [List.lookup, hb]
        exact ih
theorem keys_putF (f : Str) (v : V) : ∀ fs : List (Str × V), f ∈ (putF f v fs).map (·.1) ∧ ∀ g, g ∈ fs.map (·.1) → g ∈ (putF f v fs).map (·.1)
  | [] => ⟨by simp [putF], fun g h => by simp at h⟩
  | (k, x) :: r => by
    obtain ⟨i1, i2⟩ := keys_putF f v r
    rw [show putF f v ((k, x) :: r) = (if k = f then (k, v) :: r else (k, x) :: putF f v r) from rfl]
    by_cases hk : k = f
    · rw [if_pos hk]
      subst hk
      exact ⟨by simp, fun g h => by simpa using h⟩
    · rw [if_neg hk]
      refine ⟨?_, fun g h => ?_⟩
      · rw [List.map_cons]
        exact List.mem_cons_of_mem _ i1
      · rw [List.map_cons] at h ⊢
        rcases (List.mem_cons.mp h) with e | e
        · exact List.mem_cons.mpr (.inl e)
        · exact List.mem_cons_of_mem _ (i2 g e)
theorem length_putF (f : Str) (v : V) : ∀ fs : List (Str × V), (putF f v fs).length ≤ fs.length + 1
  | [] => by simp [putF]
  | (k, x) :: r => by
    have ih := length_putF f v r
    rw [show putF f v ((k, x) :: r) = (if k = f then (k, v) :: r else (k, x) :: putF f v r) from rfl]
    by_cases hk : k = f
    · rw [if_pos hk, List.length_cons, List.length_cons]; lia
    · rw [if_neg hk, List.length_cons, List.length_cons]; lia
theorem RelO.some_of {v : V} {o : Option Value} (r : RelO (some v) o) : ∃ u, o = some u ∧ RelV v u := by
  cases o with
  | none => exact (show False from r).elim
  | some u => exact ⟨u, rfl, r⟩
theorem RelO.none_of {o : Option Value} (r : RelO none o) : o = none := by
  cases o with
  | none => rfl
  | some u => exact (show False from r).elim
theorem handed_of {v : V} {u : Value} (r : RelV v u) : PySem.W.handedIn u = true := by
  cases v with
  | non => cases (show u = Value.none from r); rfl
  | bl b => cases (show u = Value.bool b from r); rfl
  | int i => obtain ⟨t, e⟩ := (show ∃ t, u = Value.int i t from r); cases e; rfl
  | str x => obtain ⟨t, e⟩ := (show ∃ t, u = Value.str x t from r); cases e; rfl
  | byt b => obtain ⟨t, e⟩ := (show ∃ t, u = Value.bytes b t from r); cases e; rfl
  | flt b => obtain ⟨t, e⟩ := (show ∃ t, u = Value.float b t from r); cases e; rfl
  | ref a => cases (show u = Value.ref a from r); rfl
  | ty n => cases (show u = Value.type n from r); rfl
section
variable {P : Program} {w : World} {H H' : Hp} {h h' : Heap} {a C dx : Addr} {fs fs' : List (Str × V)}
theorem ins_get (hok : HOk P w H h) (e : H a = some (.ins C dx fs)) : ∃ mA, ObjM h a dx C mA ∧ (∀ f, RelO (fs.lookup f) (mA f)) ∧ PySem.Within mA (fs.map (·.1)) ∧ fs.length ≤ 1000 ∧ H dx = some (.own a) := by
  obtain ⟨d, z, ne, ob, mA, n, r, q⟩ := (show ObjOk P w H h a (.ins C dx fs) from hok a _ e)
  exact ⟨mA, ⟨ob, n, ne⟩, r, q, z, d⟩
end
structure Cls (K : PySem.W.Frag) (C : Addr) : Prop where
  pg : PySem.W.plainGet K C Str.empty = true
  hd : PySem.W.hasDictIn K C = true
  po : PySem.W.plainOver K C = true
  sa : PySem.W.findIn K (.ref C) "__setattr__" = some (some (.builtin "object.__setattr__"))
theorem Cls.get {K : PySem.W.Frag} {C : Addr} (c : Cls K C) (f : Str) : PySem.W.plainGet K C f = true := c.pg
noncomputable def NoAttr (K : PySem.W.Frag) (C : Addr) (f : Str) : Prop := PySem.W.findIn K (.ref C) f = some none
theorem NoAttr.taker {K : PySem.W.Frag} {C : Addr} {f : Str} (n : NoAttr K C f) : PySem.W.takerIn K C f = some none := by
  unfold PySem.W.takerIn
  rw [show PySem.W.findIn K (.ref C) f = some none from n]
  rfl
structure Meth (K : PySem.W.Frag) (C : Addr) (m : Str) (f : Addr) : Prop where
  at_ : PySem.W.findIn K (.ref C) m = some (some (.ref f))
  fn : PySem.W.isFn K (.ref f) = true
  kp : PySem.W.keepIn K (.ref f) = true
section
variable {X : Cx} {pins : List (Addr × Obj)} {σ : St} {H : Hp} {s : Shared} {a C dx : Addr} {fs : List (Str × V)} {f : Str} {v : V} {A : Around} {E : Value → Shared → Prop}
theorem getattr_ok {b : Bool} {Q : Value → Shared → Prop} (I : Inv X pins σ H s) (e : H a = some (.ins C dx fs)) (c : Cls X.K C) (n : NoAttr X.K C f) (l : fs.lookup f = some v)
    (h : ∀ u s', Inv X pins σ H s' → RelV v u → Q u s') : wpAny (model X.prog X.w) A (getAttr (.ref a) f b) Q E s := by
  obtain ⟨mA, O, r, _, _, _⟩ := ins_get I.hok e
  obtain ⟨u, hu, ru⟩ := RelO.some_of (v := v) (o := mA f) (by rw [← l]; exact r f)
  exact get_map I.kIn O (c.get f) c.hd n hu (handed_of ru) (h u _ (I.tok _) ru)
theorem getmeth_ok {m : Str} {g : Addr} {pl : Sem Bool} {Q : Value × List Value → Shared → Prop} (I : Inv X pins σ H s) (e : H a = some (.ins C dx fs)) (c : Cls X.K C) (k : Meth X.K C m g) (l : fs.lookup m = none)
    (h : Q (.ref g, [.ref a]) s) : wpAny (model X.prog X.w) A (getMethod (.ref a) m pl) Q E s := by
  obtain ⟨mA, O, r, _, _, _⟩ := ins_get I.hok e
  have hn : mA m = none := RelO.none_of (by rw [← l]; exact r m)
  exact get_meth I.kIn O (c.get m) k.at_ k.fn hn h
theorem setattr_ok {y : V} {u : Value} {Q : Unit → Shared → Prop} (I : Inv X pins σ H s) (e : H a = some (.ins C dx fs)) (c : Cls X.K C) (n : NoAttr X.K C f) (hl : fs.length < 1000) (ry : RelV y u)
    (h : ∀ s', Inv X pins σ (upd H a (.ins C dx (putF f y fs))) s' → Q () s') : wpAny (model X.prog X.w) A (setAttr (.ref a) f u) Q E s := by
  obtain ⟨mA, O, r, wi, _, ho⟩ := ins_get I.hok e
  have hz : (fs.map (·.1)).length ≤ sizeLine := by rw [List.length_map, sizeLine_eq]; lia
  refine set_map I.kIn O c.sa c.po n.taker c.hd wi hz fun h' O' sb => h _ ?_
  have hd : ∃ o, h'.get? dx = some o := let ⟨o, _, _, e', _⟩ := O'.ns; ⟨o, e'⟩
  refine I.write (x := a) (e := dx) (by rw [e]; exact True.intro) (.inr ho) (fun b q hb z => (sb.2 b hb).trans z) hd ?_
  refine ⟨by rw [upd_ne O.ne]; exact ho, ?_, O.ne, O'.obj, _, O'.ns, fun g => ?_, fun g hg => ?_⟩
  · have := length_putF f y fs; lia
  · show RelO ((putF f y fs).lookup g) (if g = f then some u else mA g)
    rw [lookup_putF]
    by_cases q : g = f
    · rw [if_pos q, if_pos q]; exact ry
    · rw [if_neg q, if_neg q]; exact r g
  · by_cases q : g = f
    · rw [q]; exact (keys_putF f y fs).1
    · refine (keys_putF f y fs).2 g (wi g fun z => hg ?_)
      show (if g = f then some u else mA g) = none
      rw [if_neg q]; exact z
theorem Inv.made (I : Inv X pins σ H s) : Inv X pins σ (upd (upd H s.heap.objs.size (.own (s.heap.objs.size + 1))) (s.heap.objs.size + 1) (.ins C s.heap.objs.size []))
    { s with heap := (s.heap.push PySem.W.emptyDict).push (PySem.W.instObj C s.heap.objs.size) } := by
  have e1 : (s.heap.push PySem.W.emptyDict).get? s.heap.objs.size = some PySem.W.emptyDict := Heap.get?_push_size s.heap rfl
  have e2 : ((s.heap.push PySem.W.emptyDict).push (PySem.W.instObj C s.heap.objs.size)).get? (s.heap.objs.size + 1) = some (PySem.W.instObj C s.heap.objs.size) := by
    have := Heap.get?_push_size (s.heap.push PySem.W.emptyDict) (o := PySem.W.instObj C s.heap.objs.size) rfl
    rwa [Heap.size_push] at this
  have e3 : (s.heap.push PySem.W.emptyDict).Ns s.heap.objs.size (fun _ => none) := ⟨PySem.W.emptyDict, #[], _, e1, rfl, (fun e he => absurd he (by simp)), fun _ => rfl⟩
  have I1 := I.laid (a := s.heap.objs.size) (o := .own (s.heap.objs.size + 1)) (h' := s.heap.push PySem.W.emptyDict) (t' := s.toks) (fun b u q => Heap.get?_push_of_some _ q) (Nat.le_refl _) ⟨_, e1⟩
  refine I1.laid (a := s.heap.objs.size + 1) (o := .ins C s.heap.objs.size []) (t' := s.toks) (fun b u q => Heap.get?_push_of_some _ q) (Nat.le_of_eq (Heap.size_push _ _)) ?_
  have ne : s.heap.objs.size ≠ s.heap.objs.size + 1 := Nat.ne_of_lt (Nat.lt_succ_self _)
  refine ⟨by rw [upd_ne ne, upd_same], Nat.zero_le _, ne, e2, fun _ => none, (Heap.Ns1.of_empty e3).at fun o q => Heap.get?_push_of_some _ q, fun _ => True.intro, fun y hy => absurd rfl hy⟩
theorem attr_of {prog : Program} {w : World} {env : Env} {e : Expr} {f : Str} {pos : Pos} {s : Shared} {Q : Value → Shared → Prop} (hb : attributeBase e f env (eval e env) = eval e env)
    (h : wpAny (model prog w) A (eval e env) (fun o s₁ => wpAny (model prog w) A (getAttr o f true) Q E s₁) E s) : wpAny (model prog w) A (eval (.Attribute e f pos) env) Q E s :=
  Attribute_any_ h (by rw [arm_eval_Attribute, hb])
end
inductive hasF (K : PySem.W.Frag) (f : Str) (Q : VK) (x : V) (H1 : Hp) : Prop
  | mk (a : _) (C : _) (dx : _) (fs : _) (v : _) (c0 : x = .ref a) (c1 : H1 a = some (.ins C dx fs)) (c2 : Cls K C) (c3 : NoAttr K C f) (c4 : fs.lookup f = some v) (c5 : Q v H1) : hasF K f Q x H1
noncomputable def tFld (K : PySem.W.Frag) (ta : TE) (f : Str) : TE := fun σ H Q => ta σ H fun x H1 => hasF K f Q x H1
noncomputable def sFld (K : PySem.W.Frag) (ta tv : TE) (f : Str) : TS := fun D σ H => tv σ H fun y H1 => ta σ H1 fun x H2 => ∃ a C dx fs, x = .ref a ∧ H2 a = some (.ins C dx fs) ∧ Cls K C ∧ NoAttr K C f ∧ fs.length < 1000 ∧
  D.nx σ (upd H2 a (.ins C dx (putF f y fs)))
section
variable {X : Cx} {o e value : Expr} {f : Str} {pos pos' tpos : Pos} {ta tv : TE}
theorem pe_fld (he : PE X e ta) (hb : attributeBase e f X.env (eval e X.env) = eval e X.env) : PE X (.Attribute e f pos) (tFld X.K ta f) := by
  intro pins s σ H Q I h
  refine attr_of hb (thn (he pins s σ H _ I h) fun u s1 hp0 => ?_)
  obtain ⟨x, H1, I1, rx, a, C, dx, fs, v, ex, ea, c, n, l, q⟩ := hp0
  subst ex
  obtain rfl : u = Value.ref a := rx
  exact getattr_ok I1 ea c n l fun u' s2 I2 ru => ⟨v, H1, I2, ru, q⟩
theorem ps_fld (ha : PE X o ta) (hv : PE X value tv) (hs : swapsWith value (some (.Attribute o f pos')) pos.line X.env = pure false) : PS X (.Assign [.Attribute o f pos'] value pos) (sFld X.K ta tv f) := by
  intro pins s σ H D I h
  refine plainObj_wpAny_Assign_Attribute (thn (hv pins s σ H _ I h) fun u s1 hp0 => ?_) hs
  obtain ⟨y, H1, I1, ry, q⟩ := hp0
  refine thn (ha pins s1 σ H1 _ I1 q) fun ov s2 hp1 => ?_
  obtain ⟨x, H2, I2, rx, a, C, dx, fs, ex, ea, c, n, l, q2⟩ := hp1
  subst ex
  obtain rfl : ov = Value.ref a := rx
  exact setattr_ok I2 ea c n l ry fun s3 I3 => ⟨σ, _, I3, q2⟩
end
end L2
namespace L2
open PySem PySem.Spec PyProof.Rows
structure Room (k : Nat) (A : Around) : Prop where
  hd : A.handled = none
  dp : A.depth + 3 * k + 5 < recursionLimit
  un : A.units + 16 * k + 200 < cLine
theorem Room.mono {j k : Nat} {A : Around} (r : Room k A) (h : j ≤ k) : Room j A := ⟨r.hd, by have := r.dp; lia, by have := r.un; lia⟩
theorem Room.deeper {k : Nat} {A : Around} (r : Room (k + 1) A) (env : Env) : Room k (A.deeper env) :=
  ⟨r.hd, by have := r.dp; show A.depth + 1 + 3 * k + 5 < _; lia, by have := r.un; show A.units + 3 + 16 * k + 200 < _; lia⟩
theorem make_depth {A : Around} {C : Addr} {us : List Value} {kw : List (Str × Value)} : (A.under (.builtin "type.__call__" ⟨.ref C :: us, kw⟩)).depth = A.depth + 1 := by
  first | rfl | simp [Around.under, Code.weight, Code.isCreation, Code.isGuard, Code.isCaller, Code.frames, Code.isFrame, guardIds]
theorem make_units {A : Around} {C : Addr} {us : List Value} {kw : List (Str × Value)} : (A.under (.builtin "type.__call__" ⟨.ref C :: us, kw⟩)).units = A.units + 1 := by
  first | rfl | simp [Around.under, Code.cUnits, Code.frames, Code.isFrame]
theorem Room.make {k : Nat} {A : Around} (r : Room (k + 1) A) (C : Addr) (us : List Value) (kw : List (Str × Value)) : Room k (A.under (.builtin "type.__call__" ⟨.ref C :: us, kw⟩)) :=
  ⟨r.hd, by have := r.dp; rw [make_depth]; lia, by have := r.un; rw [make_units]; lia⟩
theorem Room.depth {k : Nat} {A : Around} (r : Room k A) : A.depth < recursionLimit := by have := r.dp; lia
theorem Room.units {k : Nat} {A : Around} (r : Room k A) : A.units + 64 < cLine := by have := r.un; lia
noncomputable def tNil : TA := fun _ H Q => Q [] H
noncomputable def tCons (ta : TE) (tr : TA) : TA := fun σ H Q => ta σ H fun x H1 => tr σ H1 fun xs H2 => Q (x :: xs) H2
section
variable {X : Cx} {e : Expr} {es : List Expr} {te : TE} {t : TA} {pos : Pos}
theorem pa_nil : PA X [] tNil := fun _ _ _ _ H Q I h => Calls.spliced_nil ⟨[], H, I, .nil, h⟩
theorem pa_cons (ha : PE X e te) (hr : PA X es t) (hs : starEach (e :: es) X.env = (false, eval e X.env) :: starEach es X.env := by rfl) : PA X (e :: es) (tCons te t) := by
  intro pos pins s σ H Q I h
  rw [hs]
  show wpAny _ _ (spliced ((false, eval e X.env) :: backTo pos (starEach es X.env))) _ _ s
  refine Calls.spliced_cons (thn (ha pins s σ H _ I h) fun u s1 hp0 => ?_)
  obtain ⟨x, H1, I1, r1, q1⟩ := hp0
  exact thn (hr pos pins s1 σ H1 _ I1 q1) fun us s2 hp0 => by obtain ⟨xs, H2, I2, r2, q2⟩ := hp0; exact ⟨x :: xs, H2, I2, .cons r1 r2, q2⟩
noncomputable def tTup (t : TA) : TE := fun σ H Q => t σ H fun xs H1 => xs.length ≤ sizeLine ∧ ∀ p, H1 p = none → Q (.ref p) (upd H1 p (.tup xs))
noncomputable def tLst (t : TA) : TE := fun σ H Q => t σ H fun xs H1 => xs.length ≤ sizeLine ∧ ∀ p, H1 p = none → Q (.ref p) (upd H1 p (.lst xs))
theorem pe_tup {x1} (h : PA X es t) : PE X (.Tuple es x1 pos) (tTup t) := by
  intro pins s σ H Q I hq
  refine wpAny_Tuple_spliced (thn (h pos pins s σ H _ I hq) fun us s1 hp0 => ?_)
  obtain ⟨xs, H1, I1, r, z, q⟩ := hp0
  refine ⟨by rw [← r.length]; exact z, ?_⟩
  have hf : H1 s1.heap.objs.size = none := I1.hok.fresh (Nat.le_refl _)
  refine ⟨.ref s1.heap.objs.size, upd H1 s1.heap.objs.size (.tup xs), I1.laid (t' := s1.toks) (fun b u e => Heap.get?_push_of_some _ e) (Nat.le_refl _) ?_, rfl, q _ hf⟩
  exact ⟨z, us, r, ⟨_, Heap.get?_push_size _ rfl, rfl, _, rfl⟩⟩
theorem pe_lst (h : PA X es t) : PE X (.List es pos) (tLst t) := by
  intro pins s σ H Q I hq
  refine wpAny_List_spliced (thn (h pos pins s σ H _ I hq) fun us s1 hp0 => ?_)
  obtain ⟨xs, H1, I1, r, z, q⟩ := hp0
  refine ⟨by rw [← r.length]; exact z, ?_⟩
  have hf : H1 s1.heap.objs.size = none := I1.hok.fresh (Nat.le_refl _)
  refine ⟨.ref s1.heap.objs.size, upd H1 s1.heap.objs.size (.lst xs), I1.laid (t' := s1.toks) (fun b u e => Heap.get?_push_of_some _ e) (Nat.le_refl _) ?_, rfl, q _ hf⟩
  exact ⟨z, us, 0, r, Heap.get?_push_size _ rfl⟩
end
noncomputable abbrev Sp := List V → Hp → VK → XK → Prop
noncomputable abbrev CXT := List Env → Hp → Shared → XK → Value → Shared → Prop
structure Env0 (P : Program) (w : World) (K : PySem.W.Frag) (mg : Str → Option Value) (base : Heap) (A : Around) (outer : List Env) (s : Shared) (H : Hp) : Prop where
  frames : A.frames = some outer
  mod : Mod K mg base
  bs : ∀ b o, base.get? b = some o → s.heap.get? b = some o ∧ H b = none
  bsz : base.objs.size ≤ s.heap.objs.size
  funs : s.heap.FunFrames base outer
  frf : ∀ b ∈ frs outer, H b = none
  hok : HOk P w H s.heap
  bare : AllBare s.gens
noncomputable def CE (outer : List Env) (P : Program) (w : World) (H : Hp) (s : Shared) (Q : VK) (u : Value) (s' : Shared) : Prop :=
  ∃ v H', s'.os = s.os ∧ AllBare s'.gens ∧ Un (frs outer) [] H H' s.heap s'.heap ∧ HOk P w H' s'.heap ∧ RelV v u ∧ Q v H'
noncomputable def CR (CX : CXT) (outer : List Env) (P : Program) (w : World) (H : Hp) (s : Shared) (Q : VK) (E : XK) (r : Result) (s' : Shared) : Prop :=
  match r with
  | .ok (.ret u) => CE outer P w H s Q u s'
  | .ok _ => False
  | .error e => CX outer H s E e s'
structure FnOk (P : Program) (w : World) (K : PySem.W.Frag) (mg : Str → Option Value) (base : Heap) (CX : CXT) (k : Nat) (f : Addr) (fd : FuncData) (ps : List Str) (sp : Sp) : Prop where
  len : ∀ vs H Q E, sp vs H Q E → vs.length = ps.length
  run : ∀ (A : Around) (outer : List Env) (s : Shared) (H : Hp) (args : Args) (us : List Value) (vs : List V) (Q : VK) (E : XK), Room k A → Env0 P w K mg base A outer s H → BindsTo s fd args (ps.zip us) → Vals vs us → sp vs H Q E →
    codeAny (model P w) A (.call (.ref f) args) (CR CX outer P w H s Q E) s
theorem FnOk.imp {P : Program} {w : World} {K : PySem.W.Frag} {mg : Str → Option Value} {base : Heap} {CX : CXT} {k : Nat} {f : Addr} {fd : FuncData} {ps : List Str} {sp sp' : Sp} (F : FnOk P w K mg base CX k f fd ps sp)
    (h : ∀ vs H Q E, sp' vs H Q E → sp vs H Q E) : FnOk P w K mg base CX k f fd ps sp' :=
  ⟨fun vs H Q E q => F.len vs H Q E (h _ _ _ _ q), fun A outer s H args us vs Q E hr he hb hv hs => F.run A outer s H args us vs Q E hr he hb hv (h _ _ _ _ hs)⟩
theorem Env0.make {P : Program} {w : World} {K : PySem.W.Frag} {mg : Str → Option Value} {base : Heap} {A : Around} {outer : List Env} {s : Shared} {H : Hp} (e : Env0 P w K mg base A outer s H) (C : Addr) (us : List Value) (kw : List (Str × Value)) :
    Env0 P w K mg base (A.under (.builtin "type.__call__" ⟨.ref C :: us, kw⟩)) outer s H := ⟨by first | exact e.frames | (simpa [Around.under, Code.envs, Code.isFrame, pushEnvs] using e.frames), e.mod, e.bs, e.bsz, e.funs, e.frf, e.hok, e.bare⟩
section
variable {X : Cx} {pins : List (Addr × Obj)} {σ : St} {H : Hp} {s s' : Shared}
theorem Inv.env0 (I : Inv X pins σ H s) : Env0 X.prog X.w X.K X.mg X.base X.A X.stack s H :=
  ⟨I.ok.frames, I.ok.mod, I.bs, Nat.le_trans I.ok.bsz I.sz, I.stack, I.stkFree, I.hok, I.bare⟩
theorem Inv.after {Q : VK} {u : Value} (I : Inv X pins σ H s) (h : CE X.stack X.prog X.w H s Q u s') : EP X pins σ Q u s' := by
  obtain ⟨v, H', os, bare, un, hok, r, q⟩ := h
  obtain ⟨hh, g, d, t, os'⟩ := s'
  obtain rfl : os' = s.os := os
  exact ⟨v, H', I.call (h' := hh) (g' := g) (d' := d) (t' := t) (ch := []) un hok bare (fun b z => absurd z (by simp)), r, q⟩
end
noncomputable def tCall (sp : Sp) (dvs : List V) (E : XK) (t : TA) : TE := fun σ H Q => t σ H fun vs H1 => sp (vs ++ dvs) H1 Q E
inductive isI (C : Addr) (m : Str) (x : V) (H1 : Hp) (R : Prop) : Prop
  | mk (a : _) (dx : _) (fs : _) (c0 : x = .ref a) (c1 : H1 a = some (.ins C dx fs)) (c2 : fs.lookup m = none) (c3 : R) : isI C m x H1 R
noncomputable def tMeth (C : Addr) (m : Str) (sp : Sp) (dvs : List V) (E : XK) (ta : TE) (t : TA) : TE := fun σ H Q => ta σ H fun x H1 => isI C m x H1 (t σ H1 fun vs H2 => sp (x :: (vs ++ dvs)) H2 Q E)
noncomputable def tMake (C : Addr) (sp : Sp) (dvs : List V) (E : XK) (t : TA) : TE := fun σ H Q => t σ H fun vs H1 => ∀ x dx, H1 x = none → H1 dx = none → dx ≠ x →
  sp (.ref x :: (vs ++ dvs)) (upd (upd H1 dx (.own x)) x (.ins C dx [])) (fun v H2 => v = .non ∧ Q (.ref x) H2) E
noncomputable def Binds (K : PySem.W.Frag) (fd : FuncData) (ps : List Str) (ds : List Value) : Prop :=
  ∀ (s : Shared) (us : List Value), K.In s.heap → (us ++ ds).length = ps.length → BindsTo s fd ⟨us, []⟩ (ps.zip (us ++ ds))
theorem Binds.all {K : PySem.W.Frag} {fd : FuncData} {ps : List Str} (h : ∀ us : List Value, us.length = ps.length → bindArgs fd ⟨us, []⟩ = pure (ps.zip us)) : Binds K fd ps [] := fun s us _ hl => by
  rw [List.append_nil] at hl ⊢
  exact .of_eq (h us hl)
noncomputable def Passes (CX : CXT) (X : Cx) (E : XK) : Prop := ∀ (pins : List (Addr × Obj)) (σ : St) (H : Hp) (s : Shared) (e : Value) (s' : Shared), Inv X pins σ H s → CX X.stack H s E e s' → X.xe e s'
section
variable {X : Cx} {CX : CXT} {k : Nat} {f C : Addr} {fd : FuncData} {ps : List Str} {sp : Sp} {dvs : List V} {ds : List Value} {E : XK} {x m : Str} {p pos apos : Pos} {e o : Expr} {es : List Expr} {ta : TE} {t : TA}
theorem run_fn {pins : List (Addr × Obj)} {σ : St} {H : Hp} {s : Shared} {Q : VK} {us : List Value} {vs : List V} (F : FnOk X.prog X.w X.K X.mg X.base CX k f fd ps sp) (hr : Room k X.A) (hb : Binds X.K fd ps ds) (hd : Vals dvs ds) (hx : Passes CX X E)
    (I : Inv X pins σ H s) (r : Vals vs us) (h : sp (vs ++ dvs) H Q E) : wpAny (model X.prog X.w) X.A (call (.ref f) us) (EP X pins σ Q) X.xe s := by
  have r2 : Vals (vs ++ dvs) (us ++ ds) := r.append hd
  have hl : (us ++ ds).length = ps.length := by rw [← r2.length]; exact F.len _ _ _ _ h
  refine wpAny_call (codeAny_mono (F.run X.A X.stack s H ⟨us, []⟩ (us ++ ds) (vs ++ dvs) Q E hr I.env0 (hb s us I.kIn hl) r2 h) fun r s' hq => ?_)
  cases r with
  | error e => exact hx pins σ H s e s' I hq
  | ok fl =>
    cases fl with
    | ret u => exact I.after hq
    | next => exact False.elim hq
    | brk => exact False.elim hq
    | cont => exact False.elim hq
theorem pe_call (F : FnOk X.prog X.w X.K X.mg X.base CX k f fd ps sp) (hr : Room k X.A) (hg : Gl X x) (hm : X.mg x = some (.ref f)) (hk : PySem.W.keepIn X.K (.ref f) = true) (hb : Binds X.K fd ps ds) (hd : Vals dvs ds) (hx : Passes CX X E)
    (ha : PA X (e :: es) t) (hdb : (x == ("__debug__" : Str)) = false := by decide) (he : starEach (e :: es) X.env = (false, eval e X.env) :: starEach es X.env := by rfl) (hpl : (backTo pos (starEach es X.env)).any (·.1) = false := by rfl) :
    PE X (.Call (.Name x p) (e :: es) [] pos) (tCall sp dvs E t) := by
  intro pins s σ H Q I h
  refine wpAny_Call_Name_kw (ld_glob I hg hm ?_ hdb)
  refine PySem.W.callWith_K (h₀ := X.base) I.ok.mod.kin hk (thn (ha pos pins s σ H _ I h) fun us s1 hp0 => ?_) he hpl
  obtain ⟨vs, H1, I1, r, q⟩ := hp0
  refine ⟨I1.kIn, ?_⟩
  exact run_fn F hr hb hd hx I1 r q
theorem pe_meth0 {pl : Sem Bool} (he : PE X o ta) (c : Cls X.K C) (hm : Meth X.K C m f) (F : FnOk X.prog X.w X.K X.mg X.base CX k f fd ps sp) (hr : Room k X.A) (hb : Binds X.K fd ps ds) (hd : Vals dvs ds) (hx : Passes CX X E)
    (ht : eval (.Call (.Attribute o m apos) [] [] pos) X.env = (do
      let ov ← eval o X.env
      standAt apos.atName
      let (f, first) ← holding [ov] (getMethod ov m pl)
      callWith pos f first (backTo pos (starEach [] X.env)) (backToKw pos (keywordEach [] X.env))) := by rfl) :
    PE X (.Call (.Attribute o m apos) [] [] pos) (tMeth C m sp dvs E ta tNil) := by
  intro pins s σ H Q I h
  refine PySem.W.methodCall_KW (pl := pl) (thn (he pins s σ H _ I h) fun u s1 hp0 => ?_) ht
  obtain ⟨x, H1, I1, rx, a, dx, fs, ex, ea, l, q⟩ := hp0
  subst ex
  obtain rfl : u = Value.ref a := rx
  refine getmeth_ok I1 ea c hm l ?_
  exact PySem.W.callWith_K0 (first := [.ref a]) I1.kIn hm.kp (run_fn (us := [.ref a]) (vs := [.ref a]) F hr hb hd hx I1 (.cons rfl .nil) q)
structure Mk (K : PySem.W.Frag) (C f : Addr) : Prop where
  makes : PySem.W.makesIn K C = true
  init : PySem.W.findIn K (.ref C) "__init__" = some (some (.ref f))
  fn : PySem.W.isFn K (.ref f) = true
  kp : PySem.W.keepIn K (.ref C) = true
theorem run_make {pins : List (Addr × Obj)} {σ : St} {H : Hp} {s : Shared} {Q : VK} {us : List Value} {vs : List V} (M : Mk X.K C f) (F : FnOk X.prog X.w X.K X.mg X.base CX k f fd ps sp) (hr : Room (k + 1) X.A) (hb : Binds X.K fd ps ds) (hd : Vals dvs ds)
    (hx : Passes CX X E) (I : Inv X pins σ H s) (r : Vals vs us)
    (h : ∀ x dx, H x = none → H dx = none → dx ≠ x → sp (.ref x :: (vs ++ dvs)) (upd (upd H dx (.own x)) x (.ins C dx [])) (fun v H2 => v = .non ∧ Q (.ref x) H2) E) :
    wpAny (model X.prog X.w) X.A (call (.ref C) us) (EP X pins σ Q) X.xe s := by
  have hq := h (s.heap.objs.size + 1) s.heap.objs.size (I.hok.fresh (Nat.le_succ _)) (I.hok.fresh (Nat.le_refl _)) (Nat.ne_of_lt (Nat.lt_succ_self _))
  have I2 := Inv.made (C := C) I
  have r2 : Vals (V.ref (s.heap.objs.size + 1) :: (vs ++ dvs)) (Value.ref (s.heap.objs.size + 1) :: (us ++ ds)) := .cons rfl (r.append hd)
  have hl : (Value.ref (s.heap.objs.size + 1) :: us ++ ds).length = ps.length := by
    have e := r2.length
    rw [F.len _ _ _ _ hq] at e
    exact e.symm
  refine wpAny_call (make_map (f := f) I.kIn M.makes M.init (beq_iff_eq.mp M.fn) (codeAny_mono (F.run _ X.stack _ _ ⟨Value.ref (s.heap.objs.size + 1) :: us, []⟩ (Value.ref (s.heap.objs.size + 1) :: (us ++ ds)) _ _ E (hr.make C us [])
    (I2.env0.make C us []) (hb _ (Value.ref (s.heap.objs.size + 1) :: us) I2.kIn hl) r2 hq) fun r s' hq' => ?_))
  cases r with
  | error e => exact hx pins σ _ _ e s' I2 hq'
  | ok fl =>
    cases fl with
    | ret u =>
      obtain ⟨v, H', I3, rv, ev, q3⟩ := I2.after hq'
      subst ev
      exact ⟨rv, ⟨V.ref (s.heap.objs.size + 1), H', I3, rfl, q3⟩⟩
    | next => exact False.elim hq'
    | brk => exact False.elim hq'
    | cont => exact False.elim hq'
theorem pe_make (M : Mk X.K C f) (F : FnOk X.prog X.w X.K X.mg X.base CX k f fd ps sp) (hr : Room (k + 1) X.A) (hg : Gl X x) (hm : X.mg x = some (.ref C)) (hb : Binds X.K fd ps ds) (hd : Vals dvs ds) (hx : Passes CX X E)
    (ha : PA X (e :: es) t) (hdb : (x == ("__debug__" : Str)) = false := by decide) (he : starEach (e :: es) X.env = (false, eval e X.env) :: starEach es X.env := by rfl) (hpl : (backTo pos (starEach es X.env)).any (·.1) = false := by rfl) :
    PE X (.Call (.Name x p) (e :: es) [] pos) (tMake C sp dvs E t) := by
  intro pins s σ H Q I h
  refine wpAny_Call_Name_kw (ld_glob I hg hm ?_ hdb)
  refine PySem.W.callWith_K (h₀ := X.base) I.ok.mod.kin M.kp (thn (ha pos pins s σ H _ I h) fun us s1 hp0 => ?_) he hpl
  obtain ⟨vs, H1, I1, r, q⟩ := hp0
  refine ⟨I1.kIn, ?_⟩
  exact run_make M F hr hb hd hx I1 r q
end
structure FnScope (N P : List Str) (sc : Scope) : Prop where
  kind : sc.kind = .function
  co : sc.isCoroutine = false
  gen : sc.isGenerator = false
  nd : N.Nodup
  pre : N.take P.length = P
  par : ∀ x ∈ P, sc.names.lookup x = some .local ∨ sc.names.lookup x = some .cell
  nofree : ∀ y ∈ sc.names, y.2 ≠ .free
theorem bindL_out {kindOf : Str → Option NameKind} {x : Str} : ∀ {binds : List (Str × Value)} {m : Str → Option Value}, (∀ v, (x, v) ∉ binds) → bindL kindOf binds m x = m x
  | [], _, _ => rfl
  | (n, v) :: r, m, h => by
    unfold bindL
    rw [bindL_out fun w hw => h w (List.mem_cons_of_mem _ hw)]
    split
    · have : x ≠ n := by rintro rfl; exact h v List.mem_cons_self
      simp [this]
    · rfl
theorem bindC_out {kindOf : Str → Option NameKind} {x : Str} : ∀ {binds : List (Str × Value)} {m : Str → Option Value}, (∀ v, (x, v) ∉ binds) → bindC kindOf binds m x = m x
  | [], _, _ => rfl
  | (n, v) :: r, m, h => by
    unfold bindC
    rw [bindC_out fun w hw => h w (List.mem_cons_of_mem _ hw)]
    split
    · rfl
    · have : x ≠ n := by rintro rfl; exact h v List.mem_cons_self
      simp [this]
theorem bindL_get {kindOf : Str → Option NameKind} {x : Str} {v : Value} : ∀ {P : List Str} {vs : List Value} {i : Nat} {m : Str → Option Value}, P.Nodup → P[i]? = some x → vs[i]? = some v → kindOf x = some .local →
    bindL kindOf (P.zip vs) m x = some v
  | [], _, _, _, _, h, _, _ => by simp at h
  | _ :: _, [], _, _, _, _, h, _ => by simp at h
  | p :: P, w :: vs, 0, m, nd, h1, h2, hk => by
    simp at h1 h2; subst h1; subst h2
    show bindL kindOf ((p, w) :: P.zip vs) m p = _
    unfold bindL
    rw [bindL_out fun v hv => (List.nodup_cons.mp nd).1 (List.of_mem_zip hv).1, if_pos hk]
    simp
  | p :: P, w :: vs, i + 1, m, nd, h1, h2, hk => by
    show bindL kindOf ((p, w) :: P.zip vs) m x = _
    unfold bindL
    exact bindL_get (i := i) (List.nodup_cons.mp nd).2 (by simpa using h1) (by simpa using h2) hk
theorem bindC_get {kindOf : Str → Option NameKind} {x : Str} {v : Value} : ∀ {P : List Str} {vs : List Value} {i : Nat} {m : Str → Option Value}, P.Nodup → P[i]? = some x → vs[i]? = some v → kindOf x ≠ some .local →
    bindC kindOf (P.zip vs) m x = some v
  | [], _, _, _, _, h, _, _ => by simp at h
  | _ :: _, [], _, _, _, _, h, _ => by simp at h
  | p :: P, w :: vs, 0, m, nd, h1, h2, hk => by
    simp at h1 h2; subst h1; subst h2
    show bindC kindOf ((p, w) :: P.zip vs) m p = _
    unfold bindC
    rw [bindC_out fun v hv => (List.nodup_cons.mp nd).1 (List.of_mem_zip hv).1, if_neg hk]
    simp
  | p :: P, w :: vs, i + 1, m, nd, h1, h2, hk => by
    show bindC kindOf ((p, w) :: P.zip vs) m x = _
    unfold bindC
    exact bindC_get (i := i) (List.nodup_cons.mp nd).2 (by simpa using h1) (by simpa using h2) hk
noncomputable def start (N : List Str) (vs : List V) : St := vs.map some ++ List.replicate (N.length - vs.length) none
noncomputable def cxOf (CX : CXT) (P : Program) (w : World) (K : PySem.W.Frag) (mg : Str → Option Value) (base : Heap) (N : List Str) (qual : Str) (scope : Scope) (f : Addr) (cd : Value) (A : Around) (outer : List Env) (s : Shared) (H : Hp) (E : XK) : Cx where
  prog := P
  w := w
  K := K
  mg := mg
  base := base
  A := A.deeper (envOfC qual scope s.heap.objs.size f cd)
  N := N
  s₀ := s
  H₀ := H
  env := envOfC qual scope s.heap.objs.size f cd
  outer := outer
  stack := envOfC qual scope s.heap.objs.size f cd :: outer
  ex := []
  calm := true
  fn := fun _ => true
  pn := []
  xe := fun e s' => wpAny (model P w) (A.deeper (envOfC qual scope s.heap.objs.size f cd)) (leaving (envOfC qual scope s.heap.objs.size f cd) e) (fun _ s'' => CX outer H s E e s'') (fun e' s'' => CX outer H s E e' s'') s'
theorem cell_has {sc : Scope} {n : Nat} {x : Str} (h : sc.names.lookup x = some .cell) : ∃ c, (cellsFrom n sc.names []).lookup x = some c := by
  have q := PySem.W.cellsFrom_some sc.names n [] (.inl h)
  exact Option.isSome_iff_exists.mp q
theorem inv_start {CX : CXT} {P : Program} {w : World} {K : PySem.W.Frag} {mg : Str → Option Value} {base : Heap} {N ps : List Str} {qual : Str} {scope : Scope} {f : Addr} {cd : Value} {A : Around} {outer : List Env} {s s1 : Shared} {H : Hp} {E : XK} {us : List Value} {vs : List V}
    (S : FnScope N ps scope) (hd : A.handled = none) (e0 : Env0 P w K mg base A outer s H) (hl : vs.length = ps.length) (r : Vals vs us)
    (x : InCallC s s.heap.objs.size (bindL (envOfC qual scope s.heap.objs.size f cd).kindOf (ps.zip us) fun _ => none) (cellsFrom (s.heap.objs.size + 1) scope.names []) (bindC (envOfC qual scope s.heap.objs.size f cd).kindOf (ps.zip us) fun _ => none) s1) :
    Inv (cxOf CX P w K mg base N qual scope f cd A outer s H E) [] (start N vs) H s1 := by
  have hpl : ps.length ≤ N.length := by have := congrArg List.length S.pre; rw [List.length_take] at this; lia
  obtain ⟨h1, tk, rfl, hk⟩ := x.done
  have noA : ∀ b : Addr, b ∉ (cxOf CX P w K mg base N qual scope f cd A outer s H E).ex := fun b z => absurd (show b ∈ ([] : List Addr) from z) (by simp)
  refine ⟨⟨e0.mod, S.kind, rfl, rfl, Nat.le_refl _, fun y z c h1 h2 => ?_, fun y hy => ?_, fun y c _ h => ?_, fun _ => hd, Around.frames_deeper e0.frames, .inr ⟨rfl, rfl⟩, fun b z => absurd z (noA b), e0.bs, e0.bsz, fun b _ _ => noA b, fun b z => absurd z (noA b), e0.funs, e0.frf⟩,
    rfl, e0.bare, Un.kept hk, ⟨_, x.toInCall.ns, fun i y v h1 h2 h3 => ?_⟩, fun y c h => ⟨_, x.cell y c h⟩, e0.hok.fresh (Nat.le_refl _), fun y c h => ?_, fun p hp => absurd (show p ∈ ([] : List (Addr × Obj)) from hp) (by simp), e0.hok.kept hk, ?_⟩
  · exact name_of_addr x.apart (PySem.mem_of_lookup h1) (PySem.mem_of_lookup h2)
  · have hy : scope.names.lookup y = some .cell ∨ scope.names.lookup y = some .free := hy
    rcases hy with hy | hy
    · exact cell_has hy
    · exact absurd rfl (S.nofree _ (PySem.mem_of_lookup hy))
  · exact Nat.le_of_lt (x.above y c (PySem.mem_of_lookup h))
  · have hi : i < vs.length := by
      unfold start at h2
      by_cases hi : i < vs.length
      · exact hi
      · rw [List.getElem?_append_right (by simpa using hi)] at h2
        rw [List.getElem?_replicate] at h2
        split at h2 <;> cases h2
    have ha : vs[i]? = some v := by
      unfold start at h2
      rw [List.getElem?_append_left (by simpa using hi), List.getElem?_map] at h2
      cases e : vs[i]? with
      | none => rw [e] at h2; cases h2
      | some a => rw [e] at h2; cases h2; rfl
    obtain ⟨u, hu, rv⟩ := r.get ha
    have hp : ps[i]? = some y := by
      rw [← S.pre, List.getElem?_take_of_lt (by lia)]; exact h1
    have ndP : ps.Nodup := by rw [← S.pre]; exact S.nd.sublist (List.take_sublist _ _)
    refine ⟨u, rv, ?_⟩
    rcases S.par y (List.mem_of_getElem? hp) with k | k
    · exact .inl ⟨k, bindL_get ndP hp hu k⟩
    · obtain ⟨c, e⟩ := cell_has (n := s.heap.objs.size + 1) k
      refine .inr ⟨.inl k, c, e, ?_⟩
      have q := x.cell y c e
      rw [bindC_get ndP hp hu (by show scope.names.lookup y ≠ _; rw [k]; decide)] at q
      exact q
  · exact e0.hok.fresh (Nat.le_of_lt (x.above y c (PySem.mem_of_lookup h)))
  · unfold start
    show _ = N.length
    rw [List.length_append, List.length_map, List.length_replicate]
    lia
theorem fn_of {CX : CXT} {P : Program} {w : World} {K : PySem.W.Frag} {mg : Str → Option Value} {base : Heap} {k : Nat} {f : Addr} {name qual : Str} {params : Arguments} {body : List Stmt} {scope : Scope} {dV kV doc pm cdv ct oc : Value} {an od : Option Addr}
    {osl : Array (Option Value)} {N ps : List Str} {sp : Sp} (lk : K.lookup f = some ⟨oc, od, .func (PySem.W.fnOf name qual params body scope dV kV doc pm an cdv ct), osl⟩) (hcd : PySem.W.codeIn K cdv qual = true) (S : FnScope N ps scope)
    (len : ∀ vs H Q E, sp vs H Q E → vs.length = ps.length)
    (hbody : ∀ (A : Around) (outer : List Env) (s : Shared) (H : Hp) (vs : List V) (Q : VK) (E : XK), Room k (A.deeper (envOfC qual scope s.heap.objs.size f cdv)) → sp vs H Q E →
      ∃ t, PSs (cxOf CX P w K mg base N qual scope f cdv A outer s H E) body t ∧ t { nx := fun _ H' => Q .non H', rt := Q } (start N vs) H) :
    FnOk P w K mg base CX (k + 1) f (PySem.W.fnOf name qual params body scope dV kV doc pm an cdv ct) ps sp := by
  refine ⟨len, fun A outer s H args us vs Q E hr e0 hb r hsp => ?_⟩
  have hl := len _ _ _ _ hsp
  have KX : K.In s.heap := e0.mod.kin.keeps fun b o e => (e0.bs b o e).1
  have lim : s.heap.NoLimit := e0.mod.nolimit.keeps fun b o e => (e0.bs b o e).1
  have hkind : ∀ y ∈ ps.zip us, scope.names.lookup y.1 = some .local ∨ (scope.names.lookup y.1 = some .cell ∧ ((cellsFrom (s.heap.objs.size + 1) scope.names []).lookup y.1).isSome = true) := fun ⟨n, v⟩ hy => by
    rcases S.par n (List.of_mem_zip hy).1 with q | q
    · exact .inl q
    · exact .inr ⟨q, PySem.W.cellsFrom_some _ _ _ (.inl q)⟩
  refine codeAny_call_function hr.depth (KX _ _ lk) rfl S.co S.gen rfl (PySem.W.codeRec_of KX hcd) (hb _ _ _ _ ?_)
  refine wpAny_newFunctionEnv_cells S.kind hkind fun env he s1 x => ?_
  subst he
  refine ⟨lim.keeps x.toInCall.keep, codeAny_func ?_⟩
  obtain ⟨t, ht, hq⟩ := hbody A outer s H vs Q E (hr.deeper _) hsp
  have I : Inv (cxOf CX P w K mg base N qual scope f cdv A outer s H E) [] (start N vs) H s1 := inv_start S hr.hd e0 hl r x
  refine wpAny_mono (ht [] s1 (start N vs) H _ I hq) (fun fl s' hs => ?_) fun e s' hs => hs
  have fin : ∀ {σ' : St} {H' : Hp} {v : V} {u : Value}, Inv (cxOf CX P w K mg base N qual scope f cdv A outer s H E) [] σ' H' s' → RelV v u → Q v H' → CE outer P w H s Q u s' :=
    fun {σ' H' v u} J rv q => ⟨v, H', J.os, J.bare, J.base, J.hok, rv, q⟩
  cases fl with
  | ret u =>
    obtain ⟨v, σ', H', J, rv, q⟩ := hs
    exact fin J rv q
  | next =>
    obtain ⟨σ', H', J, q⟩ := hs
    exact fin (v := V.non) (u := Value.none) J rfl q
  | brk =>
    obtain ⟨_, _, _, q⟩ := hs
    exact False.elim q
  | cont =>
    obtain ⟨_, _, _, q⟩ := hs
    exact False.elim q
end L2
namespace L2
open PySem PySem.Spec PyProof.Rows
section
variable {X : Cx} {x : Str} {p pos : Pos} {e : Expr} {es : List Expr} {t : TA} {id T : String} {r : List V → Hp → VK → Prop}
noncomputable def tCB (r : List V → Hp → VK → Prop) (t : TA) : TE := fun σ H Q => t σ H fun vs H1 => r vs H1 Q
theorem pe_callB (hc : CallR X (.builtin id) r) (hg : Gl X x) (hm : X.mg x = none) (hv : bootBuiltins x = some (.builtin id)) (ha : PA X (e :: es) t) (hn : x ≠ "__name__" := by decide) (hdb : (x == ("__debug__" : Str)) = false := by decide)
    (he : starEach (e :: es) X.env = (false, eval e X.env) :: starEach es X.env := by rfl) (hpl : (backTo pos (starEach es X.env)).any (·.1) = false := by rfl) : PE X (.Call (.Name x p) (e :: es) [] pos) (tCB r t) := by
  intro pins s σ H Q I h
  refine wpAny_Call_Name_kw (ld_blt I hg hm hv ?_ hn hdb)
  exact PyProof.Rows.callWith_builtin1 (thn (ha pos pins s σ H _ I h) fun us s1 hp0 => by obtain ⟨vs, H1, I1, r1, q1⟩ := hp0; exact hc pins s1 σ H1 vs us Q I1 r1 q1) he hpl
theorem pe_callTy (hc : CallR X (.type T) r) (hg : Gl X x) (hm : X.mg x = none) (hv : bootBuiltins x = some (.type T)) (ha : PA X (e :: es) t) (hn : x ≠ "__name__" := by decide) (hdb : (x == ("__debug__" : Str)) = false := by decide)
    (he : starEach (e :: es) X.env = (false, eval e X.env) :: starEach es X.env := by rfl) (hpl : (backTo pos (starEach es X.env)).any (·.1) = false := by rfl) : PE X (.Call (.Name x p) (e :: es) [] pos) (tCB r t) := by
  intro pins s σ H Q I h
  refine wpAny_Call_Name_kw (ld_blt I hg hm hv ?_ hn hdb)
  exact PyProof.Rows.callWith_type1 (thn (ha pos pins s σ H _ I h) fun us s1 hp0 => by obtain ⟨vs, H1, I1, r1, q1⟩ := hp0; exact hc pins s1 σ H1 vs us Q I1 r1 q1) he hpl
end
end L2
namespace HT
open PySem PyProof.Rows
section
open PySem.SeqAt
open PySem.AutoSeq1 (wpAny_loadPart')
open PySem.MeetsSeq PySem.MeetsSeq2 PySem.MeetsSeq3
end
section
variable {prog : Program} {w : World} {A : Around} {E : Value → Shared → Prop} {s : Shared}
noncomputable def sIx (n d : Nat) : Option Int → Nat
  | none => d
  | some v => if v < 0 then (v + (n : Int)).toNat else min v.toNat n
theorem sIx_none (n d : Nat) : sIx n d none = d := rfl
theorem sIx_nat (n d k : Nat) : sIx n d (some (k : Int)) = min k n := by
  show (if (k : Int) < 0 then ((k : Int) + (n : Int)).toNat else min (k : Int).toNat n) = min k n
  rw [if_neg (by lia), Int.toNat_natCast]
theorem sIx_le (n d : Nat) (hd : d ≤ n) (o : Option Int) : sIx n d o ≤ n := by
  cases o with
  | none => exact hd
  | some v =>
    show (if v < 0 then (v + (n : Int)).toNat else min v.toNat n) ≤ n
    by_cases hv : v < 0
    · rw [if_pos hv]; lia
    · rw [if_neg hv]; exact Nat.min_le_right _ _
theorem clip_eq (v : Int) (n d : Nat) : (if v < 0 then max (v + (n : Int)) 0 else min v (n : Int)) = ((sIx n d (some v) : Nat) : Int) := by
  show (if v < 0 then max (v + (n : Int)) 0 else min v (n : Int)) = (((if v < 0 then (v + (n : Int)).toNat else min v.toNat n) : Nat) : Int)
  by_cases hv : v < 0
  · simp only [if_pos hv]; lia
  · simp only [if_neg hv]; lia
theorem adjust_gen (lo hi : Option Int) (n : Nat) : Builtin.Slice.sliceAdjust lo hi 1 (n : Int) = (((sIx n 0 lo : Nat) : Int), ((sIx n n hi : Nat) : Int)) := by
  have h1 : ¬ ((1 : Int) < 0) := by lia
  unfold Builtin.Slice.sliceAdjust
  simp only [h1, if_false]
  refine Prod.ext ?_ ?_
  · cases lo with
    | none => rfl
    | some v => exact clip_eq v n 0
  · cases hi with
    | none => rfl
    | some v => exact clip_eq v n n
theorem places_gen (i j : Nat) : Builtin.Slice.slicePlaces (i : Int) (j : Int) 1 = j - i := by
  unfold Builtin.Slice.slicePlaces
  have h1 : (1 : Int) > 0 := by lia
  simp only [h1, if_true, Int.ediv_one]
  split <;> lia
theorem slicePart_ {v : Value} {o : Option Int} {Q : Option Int → Shared → Prop} (p : IsPart v o) (h : Q o s) : wpAny (model prog w) A (Builtin.Slice.slicePartIndex v) Q E s := by
  cases p with
  | none => exact slicePart_none h
  | int i t => exact slicePart_int h
theorem sliceApplied_gen {sl : Addr} {vl vu : Value} {lo hi : Option Int} {n : Nat} {Q : Int × Int × Nat → Shared → Prop} (hs : s.heap.IsSliceOf sl vl vu .none) (pl : IsPart vl lo) (pu : IsPart vu hi)
    (h : Q (((sIx n 0 lo : Nat) : Int), 1, sIx n n hi - sIx n 0 lo) s) : wpAny (model prog w) A (Builtin.Slice.sliceApplied (.ref sl) (pure (n : Int))) Q E s := by
  obtain ⟨os, hos, hcs, hds⟩ := id hs
  unfold Builtin.Slice.sliceApplied Builtin.Slice.sliceFields
  refine wpAny_bind (wpAny_bind (wpAny_field hos hds (x := vl) rfl (wpAny_bind (wpAny_field hos hds (x := vu) rfl (wpAny_bind (wpAny_field hos hds (x := .none) rfl (wpAny_pure ?_)))))))
  refine wpAny_bind (slicePart_none ?_)
  show wpAny _ _ (if ((1 : Int) == 0) = true then _ else _) _ _ s
  rw [if_neg (by decide)]
  refine wpAny_bind (slicePart_ pl (wpAny_bind (slicePart_ pu (wpAny_bind (wpAny_pure ?_)))))
  show wpAny _ _ (match Builtin.Slice.sliceAdjust lo hi 1 (n : Int) with | (lo, hi) => pure (lo, (1 : Int), Builtin.Slice.slicePlaces lo hi 1)) _ _ s
  rw [adjust_gen lo hi n]
  show wpAny _ _ (pure (((sIx n 0 lo : Nat) : Int), (1 : Int), Builtin.Slice.slicePlaces ((sIx n 0 lo : Nat) : Int) ((sIx n n hi : Nat) : Int) 1)) _ _ s
  rw [places_gen]
  exact wpAny_pure h
theorem pick_gen (xs : Array Value) (i k : Nat) : ((List.range k).filterMap fun (m : Nat) => xs[((i : Int) + (m : Int) * 1).toNat]?).toArray = ((xs.toList.drop i).take k).toArray := by
  have e : (fun (m : Nat) => xs[((i : Int) + (m : Int) * 1).toNat]?) = fun m => xs[i + m]? := by
    funext m
    have : ((i : Int) + (m : Int) * 1).toNat = i + m := by lia
    rw [this]
  rw [e]
  have := pick_run xs i k
  rw [List.filterMap_map] at this
  have e2 : ((fun x => xs[x]?) ∘ fun x => i + x) = fun m => xs[i + m]? := rfl
  rw [e2] at this
  rw [this]
theorem getItem_tuple_cut {t sl : Addr} {items : Array Value} {vl vu : Value} {lo hi : Option Int} {Q : Value → Shared → Prop} (ht : IsTup s.heap t items) (hs : s.heap.IsSliceOf sl vl vu .none) (pl : IsPart vl lo) (pu : IsPart vu hi)
    (hw : ¬ (sIx items.size 0 lo = 0 ∧ sIx items.size items.size hi = items.size))
    (h : Q (.ref s.heap.objs.size) { s with heap := s.heap.push { cls := .type "tuple", data := .seq ((items.toList.drop (sIx items.size 0 lo)).take (sIx items.size items.size hi - sIx items.size 0 lo)).toArray } })
    (hsz : items.size ≤ sizeLine) : wpAny (model prog w) A (getItem (.ref t) (.ref sl)) Q E s := by
  have htake : sizeOk (.seq ((items.toList.drop (sIx items.size 0 lo)).take (sIx items.size items.size hi - sIx items.size 0 lo)).toArray) := by
    show ((items.toList.drop (sIx items.size 0 lo)).take (sIx items.size items.size hi - sIx items.size 0 lo)).toArray.size ≤ sizeLine
    rw [List.size_toArray, List.length_take, List.length_drop, Array.length_toList]
    lia
  have hj : sIx items.size items.size hi ≤ items.size := sIx_le _ _ (Nat.le_refl _) hi
  obtain ⟨os, hos, hcs, hds⟩ := id hs
  have hTs : s.TypeIs (.ref sl) "slice" := ⟨os, hos, hcs⟩
  unfold getItem
  try with_reducible refine wpAny_holding ?_
  first | refine wpAny_bind (wpAny_pure ?_) | skip
  refine wpAny_bind (wpAny_sequenceKey ht.typeIs (by decide) ?_)
  refine wpAny_bind (wpAny_callSpecial?_slot (name := Str.ofString "__getitem__") ht.typeIs PyProof.Rows.slot_tuple_getitem
    (wpAny_call_entry PyProof.Rows.slot_tuple_getitem ht.typeIs entry_tuple_getitem ?_ (args_tuple_getitem _ _)))
  show wpAny _ _ (Builtin.Tuple.tupleItemsOf (.ref t) >>= _) _ _ s
  refine wpAny_bind (tupleItemsOf_ ht ?_)
  refine wpAny_bind (wpAny_typeOf hTs ?_)
  rw [if_pos (by decide)]
  refine wpAny_bind (sliceApplied_gen hs pl pu ?_)
  have hno : ¬ ((((sIx items.size 0 lo : Nat) : Int) == 0 && (1 : Int) == 1 && (sIx items.size items.size hi - sIx items.size 0 lo) == items.size) = true) := by
    intro q
    rw [Bool.and_eq_true, Bool.and_eq_true] at q
    have q1 : ((sIx items.size 0 lo : Nat) : Int) = 0 := eq_of_beq q.1.1
    have q2 : sIx items.size items.size hi - sIx items.size 0 lo = items.size := eq_of_beq q.2
    exact hw ⟨by lia, by lia⟩
  show wpAny _ _ (if (((sIx items.size 0 lo : Nat) : Int) == 0 && (1 : Int) == 1 && (sIx items.size items.size hi - sIx items.size 0 lo) == items.size) = true then _ else _) _ _ s
  rw [if_neg hno, pick_gen]
  first
    | exact wpAny_bind (m := Builtin.Tuple.tupleExact _) (wpAny_newObj_type (wpAny_pure ⟨_, rfl, wpAny_pure h⟩) htake)
    | exact wpAny_bind (m := Builtin.Tuple.tupleExact _) (wpAny_newObj_type (wpAny_bind (wpAny_pure (wpAny_pure ⟨_, rfl, wpAny_pure h⟩))) htake)
    | exact wpAny_bind (wpAny_bind (m := Builtin.Tuple.tupleExact _) (wpAny_newObj_type (wpAny_pure (wpAny_pure ⟨_, rfl, wpAny_pure h⟩)) htake))
    | exact wpAny_bind (wpAny_bind (m := Builtin.Tuple.tupleExact _) (wpAny_newObj_type (wpAny_pure ⟨_, rfl, wpAny_pure h⟩) htake))
end
end HT
namespace L2
open PySem PySem.Spec PyProof.Rows
noncomputable abbrev TO := St → Hp → (Option Int → Hp → Prop) → Prop
noncomputable def PO (X : Cx) (e : Option Expr) (t : TO) : Prop :=
  ∀ (pins : List (Addr × Obj)) (s : Shared) (σ : St) (H : Hp) (Q : Option Int → Hp → Prop), Inv X pins σ H s → t σ H Q →
    wpAny (model X.prog X.w) X.A (evalPart e X.env) (fun u s' => ∃ o H', Inv X pins σ H' s' ∧ IsPart u o ∧ Q o H') X.xe s
noncomputable def tNoPart : TO := fun _ H Q => Q none H
noncomputable def tPart (t : TE) : TO := fun σ H Q => t σ H fun x H1 => ∃ i, x = .int i ∧ Q (some i) H1
section
variable {X : Cx} {e : Expr} {te : TE} {lo hi : Option Expr} {tl th : TO} {pos p2 : Pos}
theorem po_none : PO X none tNoPart := by
  intro pins s σ H Q I h
  rw [evalPart_none]
  exact wpAny_pure ⟨none, H, I, .none, h⟩
theorem po_some (h : PE X e te) : PO X (some e) (tPart te) := by
  intro pins s σ H Q I hw
  rw [evalPart_some]
  refine thn (h pins s σ H _ I hw) fun u s1 hp0 => ?_
  obtain ⟨x, H1, I1, r1, q1⟩ := hp0
  obtain ⟨i, rfl, q⟩ := q1
  obtain ⟨t, rfl⟩ := r1
  exact ⟨some i, H1, I1, .int i t, q⟩
noncomputable def SlR (X : Cx) (r : V → Option Int → Option Int → Hp → VK → Prop) : Prop :=
  ∀ (pins : List (Addr × Obj)) (s : Shared) (σ : St) (H : Hp) (x : V) (v vl vu : Value) (lo hi : Option Int) (sl : Addr) (Q : VK), Inv X pins σ H s → RelV x v → s.heap.IsSliceOf sl vl vu .none → IsPart vl lo → IsPart vu hi → r x lo hi H Q →
    ∃ T id, typeLookup (.type T) "__getitem__" = pure (some (.builtin id)) ∧ s.TypeIs v T ∧ wpAny (model X.prog X.w) X.A (getItem v (.ref sl)) (EP X pins σ Q) X.xe s
noncomputable def tSl (r : V → Option Int → Option Int → Hp → VK → Prop) (te : TE) (tl th : TO) : TE := fun σ H Q => te σ H fun x H1 => tl σ H1 fun l H2 => th σ H2 fun u H3 => r x l u H3 Q
theorem pe_slice {r : V → Option Int → Option Int → Hp → VK → Prop} (hr : SlR X r) (he : PE X e te) (hl : PO X lo tl) (hu : PO X hi th) : PE X (.Subscript e (.Slice lo hi none p2) pos) (tSl r te tl th) := by
  intro pins s σ H Q I h
  refine Subscript_ (thn (he pins s σ H _ I h) fun v s1 hp0 => ?_)
  obtain ⟨x, H1, I1, r1, q1⟩ := hp0
  refine wpAny_Slice (thn (hl pins s1 σ H1 _ I1 q1) fun vl s2 hp0 => ?_)
  obtain ⟨l, H2, I2, pl, q2⟩ := hp0
  refine thn (hu pins s2 σ H2 _ I2 q2) fun vu s3 hp1 => ?_
  obtain ⟨u, H3, I3, pu, q3⟩ := hp1
  rw [evalPart_none]
  refine wpAny_pure ?_
  have I4 : Inv X pins σ H3 { s3 with heap := s3.heap.push { cls := .type "slice", data := .fields #[vl, vu, .none] } } := I3.kept (t' := s3.toks) fun b ob q => Heap.get?_push_of_some _ q
  obtain ⟨T, id, hT, ht, hg⟩ := hr pins { s3 with heap := s3.heap.push { cls := .type "slice", data := .fields #[vl, vu, .none] } } σ H3 x v vl vu l u s3.heap.objs.size Q I4 r1 (Heap.IsSliceOf.new ..) pl pu q3
  show wpAny (model X.prog X.w) X.A (subscriptTail e (.Slice lo hi none p2) v (.ref s3.heap.objs.size)) (EP X pins σ Q) X.xe { s3 with heap := s3.heap.push { cls := .type "slice", data := .fields #[vl, vu, .none] } }
  exact tail_any (ops := [.ref s3.heap.objs.size, v]) ht hT hg (by with_unfolding_all rfl)
noncomputable def cutV (xs : List V) (lo hi : Option Int) : List V := (xs.drop (HT.sIx xs.length 0 lo)).take (HT.sIx xs.length xs.length hi - HT.sIx xs.length 0 lo)
theorem cutV_length (xs : List V) (lo hi : Option Int) : (cutV xs lo hi).length ≤ xs.length := by
  unfold cutV
  rw [List.length_take, List.length_drop]
  lia
noncomputable def rSlT (K : PySem.W.Frag) : V → Option Int → Option Int → Hp → VK → Prop := fun x lo hi H Q => ∃ a xs, x = .ref a ∧ SqT K H a xs ∧
  ¬ (HT.sIx xs.length 0 lo = 0 ∧ HT.sIx xs.length xs.length hi = xs.length) ∧ ∀ p, H p = none → Q (.ref p) (upd H p (.tup (cutV xs lo hi)))
theorem sl_tup : SlR X (rSlT X.K) := by
  intro pins s σ H x v vl vu lo hi sl Q I rx hs pl pu h
  obtain ⟨a, xs, rfl, hx, hw, q⟩ := h
  cases rx
  obtain ⟨its, r, ht, hz⟩ := I.tuple hx
  have hlen : its.toArray.size = xs.length := by rw [List.size_toArray]; exact r.length.symm
  refine ⟨"tuple", _, PyProof.Rows.slot_tuple_getitem.lookup, ht.typeIs, ?_⟩
  refine HT.getItem_tuple_cut ht hs pl pu (by rw [hlen]; exact hw) ?_ (by rw [hlen]; exact hz)
  rw [hlen]
  refine ⟨.ref s.heap.objs.size, _, I.laid (t' := s.toks) (o := .tup (cutV xs lo hi)) (fun b ob q => Heap.get?_push_of_some _ q) (Nat.le_refl _) ?_, rfl, q _ (I.hok.fresh (Nat.le_refl _))⟩
  exact ⟨Nat.le_trans (cutV_length xs lo hi) hz, _, (r.drop (HT.sIx xs.length 0 lo)).take (HT.sIx xs.length xs.length hi - HT.sIx xs.length 0 lo), IsTup.new _ _⟩
end
end L2
namespace L2
open PySem PySem.Spec PyProof.Rows
noncomputable def ixN (n : Nat) (i : Int) : Option Nat := if 0 ≤ i then (if i < n then some i.toNat else none) else if -(n : Int) ≤ i then some (i + n).toNat else none
noncomputable def atI {α : Type} (xs : List α) (i : Int) : Option α := (ixN xs.length i).bind fun j => xs[j]?
theorem ixN_seq {n : Nat} {i : Int} {j : Nat} (h : ixN n i = some j) : seqIndex? i n = some j ∧ j < n ∧ -(n : Int) ≤ i ∧ i < n := by
  unfold ixN at h
  by_cases h0 : 0 ≤ i
  · rw [if_pos h0] at h
    by_cases h1 : i < n
    · rw [if_pos h1] at h
      have e : i.toNat = j := Option.some.inj h
      exact ⟨by rw [seqIndex_of h0 h1, e], by lia, by lia, h1⟩
    · rw [if_neg h1] at h; cases h
  · rw [if_neg h0] at h
    by_cases h1 : -(n : Int) ≤ i
    · rw [if_pos h1] at h
      have e : (i + n).toNat = j := Option.some.inj h
      exact ⟨by rw [seqIndex_neg (by lia) h1, e], by lia, h1, by lia⟩
    · rw [if_neg h1] at h; cases h
theorem atI_get {α : Type} {xs : List α} {i : Int} {v : α} (h : atI xs i = some v) : ∃ j, seqIndex? i xs.length = some j ∧ xs[j]? = some v ∧ j < xs.length ∧ -(xs.length : Int) ≤ i ∧ i < xs.length := by
  unfold atI at h
  cases e : ixN xs.length i with
  | none => rw [e] at h; cases h
  | some j =>
    rw [e] at h
    obtain ⟨h1, h2, h3, h4⟩ := ixN_seq e
    exact ⟨j, h1, h, h2, h3, h4⟩
theorem atI_nat {α : Type} {xs : List α} {j : Nat} {v : α} (h : xs[j]? = some v) : atI xs (j : Int) = some v := by
  have hj : j < xs.length := (List.getElem?_eq_some_iff.mp h).1
  have e : ixN xs.length (j : Int) = some j := by
    unfold ixN
    rw [if_pos (by lia), if_pos (by lia)]; simp
  unfold atI; rw [e]; exact h
noncomputable def PlainIx (b : Expr) : Prop := ∀ o i, subscripted b false o i = operate [o, i] (getItem o i)
noncomputable def IxR (X : Cx) (r : R2) : Prop :=
  ∀ (value slice : Expr) (pins : List (Addr × Obj)) (s : Shared) (σ : St) (H : Hp) (x y : V) (v u : Value) (Q : VK), Inv X pins σ H s → RelV x v → RelV y u → r x y H Q →
    subscripted slice false v u = operate [v, u] (getItem v u) → wpAny (model X.prog X.w) X.A (subscriptTail value slice v u) (EP X pins σ Q) X.xe s
noncomputable def MtR (X : Cx) (id : String) (r : V → List V → Hp → VK → Prop) : Prop :=
  ∀ (pins : List (Addr × Obj)) (s : Shared) (σ : St) (H : Hp) (x : V) (xs : List V) (v : Value) (us : List Value) (Q : VK), Inv X pins σ H s → RelV x v → Vals xs us → r x xs H Q →
    wpAny (model X.prog X.w) X.A (call (.builtin id) (v :: us)) (EP X pins σ Q) X.xe s
section
variable {X : Cx} {a b : Expr} {ta tb : TE} {pos : Pos}
theorem pe_ix {r : R2} (hr : IxR X r) (ha : PE X a ta) (hb : PE X b tb) (hs : PlainIx b) : PE X (.Subscript a b pos) (tOp r ta tb) := by
  intro pins s σ H Q I h
  exact Subscript_ (binT ha hb I h fun v u s2 x y H2 I2 rx ry q => hr a b pins s2 σ H2 x y v u Q I2 rx ry q (hs _ _))
inductive rIxL (K : PySem.W.Frag) (x : V) (y : V) (H : Hp) (Q : VK) : Prop
  | mk (p : _) (xs : _) (i : _) (v : _) (c0 : x = .ref p) (c1 : y = .int i) (c2 : SqL K H p xs) (c3 : atI xs i = some v) (c4 : Q v H) : rIxL K x y H Q
inductive rIxT (K : PySem.W.Frag) (x : V) (y : V) (H : Hp) (Q : VK) : Prop
  | mk (p : _) (xs : _) (i : _) (v : _) (c0 : x = .ref p) (c1 : y = .int i) (c2 : SqT K H p xs) (c3 : atI xs i = some v) (c4 : Q v H) : rIxT K x y H Q
noncomputable def rIxS : R2 := fun x y H Q => ∃ z i c, x = .str z ∧ y = .int i ∧ z.length ≤ sizeLine ∧ atI z.cps.toList i = some c ∧ Q (.str ⟨#[c]⟩) H
theorem ix_list : IxR X (rIxL X.K) := by
  intro value slice pins s σ H x y v u Q I rx ry h hs
  obtain ⟨p, xs, i, z, rfl, rfl, hq, he, q⟩ := h
  cases rx
  obtain ⟨t, rfl⟩ := ry
  obtain ⟨its, r, pl, hz⟩ := I.list hq
  obtain ⟨j, h1, h2, h3, h4, h5⟩ := atI_get he
  obtain ⟨w, ew, rw'⟩ := r.get h2
  have hl := r.length
  have hn := line63
  have fin : EP X pins σ Q w s := ⟨z, H, I, rw', q⟩
  by_cases h0 : 0 ≤ i
  · have hj : i.toNat = j := by
      rw [seqIndex_of h0 h5] at h1
      exact Option.some.inj h1
    exact item_listR pl.isList h0 (by lia) (by rw [hj]; simpa using ew) fin hs
  · have hj : (i + (its.toArray.size : Int)).toNat = j := by
      rw [seqIndex_neg (by lia) h4] at h1
      rw [List.size_toArray, ← hl]
      exact Option.some.inj h1
    exact subscriptTail_builtinR (x := w) pl.isList.typeIs slot_list_getitem.lookup
      (wpAny_getItem_list_neg (Q := fun r s' => r = w ∧ EP X pins σ Q r s') pl.isList (by lia) (by rw [List.size_toArray] <;> lia) (by lia) (by rw [hj]; simpa using ew) ⟨rfl, fin⟩) hs
theorem ix_tup : IxR X (rIxT X.K) := by
  intro value slice pins s σ H x y v u Q I rx ry h hs
  obtain ⟨p, xs, i, z, rfl, rfl, hq, he, q⟩ := h
  cases rx
  obtain ⟨t, rfl⟩ := ry
  obtain ⟨its, r, pl, hz⟩ := I.tuple hq
  obtain ⟨j, h1, h2, h3, h4, h5⟩ := atI_get he
  obtain ⟨w, ew, rw'⟩ := r.get h2
  have hl := r.length
  have hn := line63
  have fin : EP X pins σ Q w s := ⟨z, H, I, rw', q⟩
  exact subscriptTail_builtinR (x := w) pl.typeIs slot_tuple_getitem.lookup
    (getItem_tuple (j := j) (Q := fun r s' => r = w ∧ EP X pins σ Q r s') pl (by lia) (by lia) (by rw [List.size_toArray, ← hl]; exact h1) (by simpa using ew) ⟨rfl, fin⟩) hs
theorem ix_str : IxR X rIxS := by
  intro value slice pins s σ H x y v u Q I rx ry h hs
  obtain ⟨z, i, c, rfl, rfl, hz, he, q⟩ := h
  obtain ⟨t, rfl⟩ := rx
  obtain ⟨t', rfl⟩ := ry
  obtain ⟨j, h1, h2, h3, h4, h5⟩ := atI_get he
  have hl : z.cps.toList.length = z.length := by simp [Str.length]
  rw [hl] at h1 h4 h5
  have hn := line63
  exact tail_any (typeIs_str s z t) slot_str_getitem.lookup (getItem_str (c := c) (by
    have e1 : decide (i < -(2 ^ 63 : Int)) = false := decide_eq_false (by lia)
    have e2 : decide (i ≥ 2 ^ 63) = false := decide_eq_false (by lia)
    rw [e1, e2, Bool.or_false]) (by rw [h1]; simpa using h2) ⟨.str ⟨#[c]⟩, H, I.tok _, ⟨_, rfl⟩, q⟩) hs
theorem slice_bounds (lo hi : Option Int) (n : Nat) : (sliceBounds lo hi none n).1 = ((HT.sIx n 0 lo : Nat) : Int) ∧ (sliceBounds lo hi none n).2.1 = ((HT.sIx n n hi : Nat) : Int) ∧ (sliceBounds lo hi none n).2.2 = 1 := by
  refine ⟨?_, ?_, rfl⟩
  · cases lo with
    | none => simp [sliceBounds, HT.sIx]
    | some i =>
      simp only [sliceBounds, HT.sIx, Option.getD_none, show (1 : Int) > 0 by decide, if_true]
      by_cases h : i < 0
      · simp only [h, if_true] <;> lia
      · simp only [h, if_false] <;> lia
  · cases hi with
    | none => simp [sliceBounds, HT.sIx]
    | some i =>
      simp only [sliceBounds, HT.sIx, Option.getD_none, show (1 : Int) > 0 by decide, if_true]
      by_cases h : i < 0
      · simp only [h, if_true] <;> lia
      · simp only [h, if_false] <;> lia
theorem slicePick_cut (its : List Value) (lo hi : Option Int) : slicePick its.toArray lo hi none = ((its.drop (HT.sIx its.length 0 lo)).take (HT.sIx its.length its.length hi - HT.sIx its.length 0 lo)).toArray := by
  obtain ⟨h1, h2, h3⟩ := slice_bounds lo hi its.toArray.size
  unfold slicePick
  rw [h1, h2, h3]
  simp only [sliceRange_one, pick_run, List.size_toArray] <;> rfl
noncomputable def rSlL (K : PySem.W.Frag) : V → Option Int → Option Int → Hp → VK → Prop := fun x lo hi H Q => ∃ a xs, x = .ref a ∧ SqL K H a xs ∧ ∀ p, H p = none → Q (.ref p) (upd H p (.lst (cutV xs lo hi)))
theorem sl_list : SlR X (rSlL X.K) := by
  intro pins s σ H x v vl vu lo hi sl Q I rx hs pl pu h
  obtain ⟨a, xs, rfl, hx, q⟩ := h
  cases rx
  obtain ⟨its, r, ht, hz⟩ := I.list hx
  have hlen := r.length
  refine ⟨"list", _, slot_list_getitem.lookup, ht.isList.typeIs, ?_⟩
  refine wpAny_getItem_list_slice ht.isList hs pl pu .none (by simp) ?_ (by rw [List.size_toArray] <;> lia)
  rw [slicePick_cut, ← hlen]
  refine ⟨.ref s.heap.objs.size, _, I.laid (t' := s.toks) (o := .lst (cutV xs lo hi)) (fun b ob q => Heap.get?_push_of_some _ q) (Nat.le_refl _) ?_, rfl, q _ (I.hok.fresh (Nat.le_refl _))⟩
  exact ⟨Nat.le_trans (cutV_length xs lo hi) hz, _, 0, (r.drop (HT.sIx xs.length 0 lo)).take (HT.sIx xs.length xs.length hi - HT.sIx xs.length 0 lo), Heap.get?_push_size _ rfl⟩
theorem call_list_of : CallR X (.type "list") (fun xs H Q => ∃ p ys, xs = [.ref p] ∧ (SqL X.K H p ys ∨ SqT X.K H p ys) ∧ ∀ l, H l = none → Q (.ref l) (upd H l (.lst ys))) := by
  intro pins s σ H xs us Q I r h
  obtain ⟨p, ys, rfl, hq, q⟩ := h
  obtain ⟨u, rfl, rx⟩ := vals1 r
  cases rx
  have fin : ∀ (its : List Value), Vals ys its → ys.length ≤ sizeLine → ∀ (h' : Heap) (c' : Nat), (∀ b o', s.heap.get? b = some o' → h'.get? b = some o') →
      h'.get? s.heap.objs.size = some { cls := .type "list", dict := none, data := .seq its.toArray c', slots := #[] } → EP X pins σ Q (.ref s.heap.objs.size) { s with heap := h' } := fun its r' hz h' c' kp e =>
    ⟨.ref s.heap.objs.size, _, I.laid (t' := s.toks) kp (Nat.le_refl _) (show ObjOk X.prog X.w _ h' _ (.lst ys) from ⟨hz, its, c', r', e⟩), rfl, q _ (I.hok.fresh (Nat.le_refl _))⟩
  rcases hq with hq | hq
  · obtain ⟨its, r', pl, hz⟩ := I.list hq
    have hlen := r'.length
    obtain ⟨o, ho, hc, n, hd⟩ := pl.isList
    exact call_list_seq p (.inl rfl) ho hc hd (fun h' c' kp e => fin its r' hz h' c' kp e) (by simp only [List.size_toArray] <;> lia)
  · obtain ⟨its, r', pl, hz⟩ := I.tuple hq
    have hlen := r'.length
    obtain ⟨o, ho, hc, n, hd⟩ := pl
    exact call_list_seq p (.inr rfl) ho hc hd (fun h' c' kp e => fin its r' hz h' c' kp e) (by simp only [List.size_toArray] <;> lia)
theorem call_tuple_of : CallR X (.type "tuple") (fun xs H Q => ∃ p ys, xs = [.ref p] ∧ ((SqL X.K H p ys ∧ ∀ l, H l = none → Q (.ref l) (upd H l (.tup ys))) ∨ (SqT X.K H p ys ∧ Q (.ref p) H))) := by
  intro pins s σ H xs us Q I r h
  obtain ⟨p, ys, rfl, h⟩ := h
  obtain ⟨u, rfl, rx⟩ := vals1 r
  cases rx
  rcases h with ⟨hq, q⟩ | ⟨hq, q⟩
  · obtain ⟨its, r', pl, hz⟩ := I.list hq
    have hlen := r'.length
    refine call_tuple_list pl.isList (fun h' kp => ?_) (by simp only [List.size_toArray] <;> lia)
    have I1 : Inv X pins σ H { s with heap := h' } := I.kept (t' := s.toks) kp
    have I2 : Inv X pins σ (upd H h'.objs.size (.tup ys)) { s with heap := h'.push { cls := .type "tuple", data := .seq its.toArray } } :=
      I1.laid (t' := s.toks) (fun b o e => Heap.get?_push_of_some _ e) (Nat.le_refl _) (show ObjOk X.prog X.w _ _ _ (.tup ys) from ⟨hz, its, r', IsTup.new _ _⟩)
    exact ⟨.ref h'.objs.size, _, I2, rfl, q _ (I1.hok.fresh (Nat.le_refl _))⟩
  · obtain ⟨its, r', pl, hz⟩ := I.tuple hq
    exact call_tuple_same pl ⟨.ref p, H, I, rfl, q⟩
noncomputable def tyV (K : PySem.W.Frag) (T : String) (x : V) (H : Hp) : Prop := match x with
  | .str _ => T = "str"
  | .int _ => T = "int"
  | .ref p => (T = "list" ∧ ∃ xs, SqL K H p xs) ∨ (T = "tuple" ∧ ∃ o, K.lookup p = some o ∧ o.cls = .type "tuple" ∧ o.dict = none) ∨
      (T = "dict" ∧ ((∃ kvs, H p = some (.dK kvs)) ∨ ∃ kvs, H p = some (.dT kvs))) ∨ (T = "set" ∧ ∃ S n, H p = some (.set S n))
  | _ => False
theorem tyV_is {pins : List (Addr × Obj)} {σ : St} {H : Hp} {s : Shared} {T : String} {x : V} {v : Value} (I : Inv X pins σ H s) (r : RelV x v) (ty : tyV X.K T x H) :
    s.TypeIs v T ∧ ∀ a, v = .ref a → ∃ ob, s.heap.get? a = some ob ∧ ob.dict = none := by
  cases x with
  | str z =>
    obtain ⟨t, rfl⟩ := r
    cases (show T = "str" from ty)
    exact ⟨typeIs_str s z t, fun _ e => nomatch e⟩
  | int i =>
    obtain ⟨t, rfl⟩ := r
    cases (show T = "int" from ty)
    exact ⟨typeIs_int s i t, fun _ e => nomatch e⟩
  | ref p =>
    cases r
    rcases ty with ⟨rfl, xs, hq⟩ | ⟨rfl, o, hk, hc, hd⟩ | ⟨rfl, hk⟩ | ⟨rfl, S, n, hk⟩
    · obtain ⟨its, _, pl, _⟩ := I.list hq
      refine ⟨pl.isList.typeIs, fun a e => ?_⟩
      cases e
      obtain ⟨o, n, e, c, hd, _⟩ := pl
      exact ⟨o, e, hd⟩
    · refine ⟨⟨o, I.kIn p o hk, hc⟩, fun a e => ?_⟩
      cases e
      exact ⟨o, I.kIn _ o hk, hd⟩
    · have z : ∃ o, s.heap.get? p = some o ∧ o.ExactDict := by
        rcases hk with ⟨kvs, hk⟩ | ⟨kvs, hk⟩
        · obtain ⟨_, _, _, _, o, _, _, e, ex, _⟩ := I.hok p _ hk
          exact ⟨o, e, ex⟩
        · obtain ⟨_, _, _, _, o, _, _, e, ex, _⟩ := I.hok p _ hk
          exact ⟨o, e, ex⟩
      obtain ⟨o, e, ex⟩ := z
      refine ⟨⟨o, e, ex.1⟩, fun a e2 => ?_⟩
      cases e2
      exact ⟨o, e, ex.2.1⟩
    · obtain ⟨o, _, _, _, e, ex, _⟩ := I.hok p _ hk
      refine ⟨⟨o, e, ex.1⟩, fun a e2 => ?_⟩
      cases e2
      exact ⟨o, e, ex.2.1⟩
  | _ => exact False.elim ty
noncomputable def tBM0 (K : PySem.W.Frag) (T : String) (r : V → List V → Hp → VK → Prop) (to : TE) : TE := fun σ H Q => to σ H fun x H1 => tyV K T x H1 ∧ r x [] H1 Q
noncomputable def tBM (K : PySem.W.Frag) (T : String) (r : V → List V → Hp → VK → Prop) (to : TE) (t : TA) : TE := fun σ H Q => to σ H fun x H1 => tyV K T x H1 ∧ t σ H1 fun xs H2 => r x xs H2 Q
variable {o e : Expr} {es : List Expr} {to : TE} {t : TA} {name : Str} {apos cpos : Pos} {T id : String} {r : V → List V → Hp → VK → Prop}
theorem pe_bm0 (pa : PlainAttrs T) (slot : Slot T name id) (hty : typeOf (.builtin id) = pure (.type "method_descriptor")) (hm : MtR X id r) (ho : PE X o to)
    (hbase : attributeBase o name X.env (eval o X.env) = eval o X.env := by rfl) (hline : (apos.endLine == cpos.line) = true := by rfl) : PE X (.Call (.Attribute o name apos) [] [] cpos) (tBM0 X.K T r to) := by
  intro pins s σ H Q I h
  refine wpAny_Call_method0_late hbase hline (thn (ho pins s σ H _ I h) fun v s1 hp0 => ?_)
  obtain ⟨x, H1, I1, r1, ty, q1⟩ := hp0
  obtain ⟨h1, h2⟩ := tyV_is I1 r1 ty
  exact ⟨T, id, pa, slot, hty, h1, h2, Calls.callWith_builtin rfl (PySem.evalArgs_none (hm pins s1 σ H1 x [] v [] Q I1 r1 .nil q1))⟩
theorem pe_bm (pa : PlainAttrs T) (slot : Slot T name id) (hty : typeOf (.builtin id) = pure (.type "method_descriptor")) (hm : MtR X id r) (ho : PE X o to) (ha : PA X (e :: es) t)
    (hbase : attributeBase o name X.env (eval o X.env) = eval o X.env := by rfl)
    (hfew : ((backTo cpos (starEach (e :: es) X.env)).all (fun x => !x.1) && (backToKw cpos (keywordEach [] X.env)).all (fun x => x.1.isSome)
      && decide ((e :: es).length + ([] : List Keyword).length + (if ([] : List Keyword).isEmpty then 0 else 1) < 30)) = true := by rfl)
    (hline : (apos.endLine == cpos.line) = true := by rfl) (hs : starEach (e :: es) X.env = (false, eval e X.env) :: starEach es X.env := by rfl) (hplain : (backTo cpos (starEach es X.env)).any (·.1) = false := by rfl) :
    PE X (.Call (.Attribute o name apos) (e :: es) [] cpos) (tBM X.K T r to t) := by
  intro pins s σ H Q I h
  refine wpAny_Call_method_late hbase hfew hline rfl (thn (ho pins s σ H _ I h) fun v s1 hp0 => ?_)
  obtain ⟨x, H1, I1, r1, ty, q1⟩ := hp0
  obtain ⟨h1, h2⟩ := tyV_is I1 r1 ty
  refine ⟨T, id, pa, slot, hty, h1, h2, ?_⟩
  have hA := ha cpos pins s1 σ H1 _ I1 q1
  rw [hs] at hA ⊢
  refine Calls.callWith_builtin (by show (false || (backTo cpos (starEach es X.env)).any (·.1)) = false; rw [hplain] <;> rfl) (Calls.evalArgs_plain ?_)
  exact thn hA fun us s2 hp0 => by obtain ⟨vs, H2, I2, r2, q2⟩ := hp0; exact hm pins s2 σ H2 x vs v us Q I2 r1 r2 q2
end
end L2
namespace L2
open PySem PySem.Spec PyProof.Rows
noncomputable def MtM (X : Cx) (id : String) (r : V → List V → Hp → VK → Prop) : Prop :=
  ∀ (pins : List (Addr × Obj)) (s : Shared) (σ : St) (H : Hp) (x : V) (xs : List V) (v : Value) (us : List Value) (Q : VK), Inv X pins σ H s → RelV x v → Vals xs us → r x xs H Q →
    wpAny (model X.prog X.w) X.A (call (.builtin id) (v :: us)) (EP X pins σ Q) X.xe s
theorem Vals.one : ∀ {x : V} {us : List Value}, Vals [x] us → ∃ u, us = [u] ∧ RelV x u
  | _, _, .cons r .nil => ⟨_, rfl, r⟩
theorem Vals.zero : ∀ {us : List Value}, Vals [] us → us = []
  | _, .nil => rfl
theorem Vals.dropLast {xs : List V} {us : List Value} (h : Vals xs us) : Vals xs.dropLast us.dropLast := by
  induction h with
  | nil => exact .nil
  | cons r t ih =>
    cases t with
    | nil => exact .nil
    | cons q t' => exact .cons r ih
theorem erase_last {α : Type} (l : List α) : l.eraseIdx (l.length - 1) = l.dropLast := by
  induction l with
  | nil => rfl
  | cons a r ih =>
    cases r with
    | nil => rfl
    | cons b r =>
      have e : (a :: b :: r).length - 1 = ((b :: r).length - 1) + 1 := by
        have h1 : (a :: b :: r).length = r.length + 2 := rfl
        have h2 : (b :: r).length = r.length + 1 := rfl
        lia
      rw [e, List.eraseIdx_cons_succ, ih]
      all_goals rfl
section
variable {X : Cx} {pins : List (Addr × Obj)} {σ : St} {H : Hp} {s : Shared} {l b : Addr} {xs ys zs : List V}
theorem Inv.lset {its its' : List Value} {n : Nat} {f : Array Value → Array Value} {t' : Nat} (I : Inv X pins σ H s) (hH : H l = some (.lst xs))
    (e : s.heap.get? l = some { cls := .type "list", data := .seq its.toArray n }) (hf : f its.toArray = its'.toArray) (hv : Vals ys its') (hz : ys.length ≤ sizeLine) :
    Inv X pins σ (upd H l (.lst ys)) { s with heap := s.heap.update l (Obj.mapSeq f), toks := t' } := by
  have q := PySem.IsL.update e f
  rw [hf] at q
  refine I.write (x := l) (e := l) (by rw [hH]; exact trivial) (.inl rfl) (fun b' u hb hu => (Heap.get?_update_other s.heap (Obj.mapSeq f) (Ne.symm hb)).trans hu) ⟨_, q⟩ ?_
  exact ⟨hz, its', _, hv, q⟩
theorem Inv.lnew {its : List Value} {t' : Nat} (I : Inv X pins σ H s) (hv : Vals ys its) (hz : ys.length ≤ sizeLine) :
    Inv X pins σ (upd H s.heap.objs.size (.lst ys)) { s with heap := s.heap.push { cls := .type "list", data := .seq its.toArray }, toks := t' } :=
  I.laid (fun _ _ q => Heap.get?_push_of_some _ q) (Nat.le_refl _) ⟨hz, its, 0, hv, Heap.get?_push_size _ rfl⟩
theorem Inv.fresh (I : Inv X pins σ H s) : H s.heap.objs.size = none := I.hok.fresh (Nat.le_refl _)
theorem Inv.lstM (I : Inv X pins σ H s) (hH : H l = some (.lst xs)) : xs.length ≤ sizeLine ∧ ∃ (its : List Value) (n : Nat), Vals xs its ∧ xs.length = its.length ∧ s.heap.get? l = some { cls := .type "list", data := .seq its.toArray n } := by
  obtain ⟨z, its, n, r, e⟩ := I.hok l _ hH
  exact ⟨z, its, n, r, r.length, e⟩
end
section
variable {X : Cx}
noncomputable def rAppend : V → List V → Hp → VK → Prop := fun x vs H Q => ∃ l xs y, x = .ref l ∧ vs = [y] ∧ H l = some (.lst xs) ∧ xs.length < sizeLine ∧ Q .non (upd H l (.lst (xs ++ [y])))
theorem mt_append : MtM X "list.append" rAppend := by
  intro pins s σ H x vs v us Q I rx rv h
  obtain ⟨l, xs, y, rfl, rfl, hH, hz, q⟩ := h
  cases rx
  obtain ⟨u, rfl, ru⟩ := rv.one
  obtain ⟨z, its, n, r, hl, e⟩ := I.lstM hH
  refine call_meets F.slot_list_append ⟨_, e, rfl⟩ F.entry_list_append (F.args_list_append_2 _ _) (PySem.list_append l its.toArray n u (by rw [List.size_toArray]; lia)) ⟨e, ?_⟩
  refine ⟨.non, _, I.lset (its' := its ++ [u]) hH e (by simp) (r.append (.cons ru .nil)) ?_, rfl, q⟩
  rw [List.length_append, List.length_singleton]
  lia
noncomputable def rPop : V → List V → Hp → VK → Prop := fun x vs H Q => ∃ l xs y, x = .ref l ∧ vs = [] ∧ H l = some (.lst xs) ∧ xs[xs.length - 1]? = some y ∧ Q y (upd H l (.lst xs.dropLast))
theorem mt_pop : MtM X "list.pop" rPop := by
  intro pins s σ H x vs v us Q I rx rv h
  obtain ⟨l, xs, y, rfl, rfl, hH, hy, q⟩ := h
  cases rx
  have hus := rv.zero
  subst hus
  obtain ⟨z, its, n, r, hl, e⟩ := I.lstM hH
  obtain ⟨u, hu, ru⟩ := r.get hy
  have hy' : its.toArray[its.toArray.size - 1]? = some u := by
    show its.toArray[its.length - 1]? = some u
    rw [← Array.getElem?_toList, ← hl]
    exact hu
  refine call_meets F.slot_list_pop ⟨_, e, rfl⟩ F.entry_list_pop (F.args_list_pop_1 _) (MeetsSeq.list_pop_last l its.toArray n u hy' (by rw [List.size_toArray]; lia)) ⟨e, ?_⟩
  refine ⟨y, _, I.lset (its' := its.dropLast) hH e ?_ r.dropLast ?_, ru, q⟩
  · show its.toArray.eraseIdxIfInBounds (its.toArray.size - 1) = its.dropLast.toArray
    rw [List.size_toArray, List.eraseIdxIfInBounds_toArray, erase_last]
  · rw [List.length_dropLast]
    lia
noncomputable def rCat : R2 := fun x y H Q => ∃ l b xs zs, x = .ref l ∧ y = .ref b ∧ H l = some (.lst xs) ∧ H b = some (.lst zs) ∧ xs.length + zs.length ≤ sizeLine ∧ ∀ p, H p = none → Q (.ref p) (upd H p (.lst (xs ++ zs)))
theorem op_cat : OpR X (binaryOp .Add) rCat := by
  intro pins s σ H x y v u Q I rx ry h
  obtain ⟨l, b, xs, zs, rfl, rfl, hH, hB, hz, q⟩ := h
  cases rx
  cases ry
  obtain ⟨z, its, n, r, hl, e⟩ := I.lstM hH
  obtain ⟨z2, its2, n2, r2, hl2, e2⟩ := I.lstM hB
  refine PySem.P.add_list e e2 ?_ (by rw [List.size_toArray, List.size_toArray]; lia)
  have ea : its.toArray ++ its2.toArray = (its ++ its2).toArray := by simp
  rw [ea]
  exact ⟨.ref _, _, I.lnew (t' := s.toks) (r.append r2) (by rw [List.length_append]; lia), rfl, q _ I.fresh⟩
end
end L2
namespace L2
open PySem PySem.Spec PyProof.Rows
theorem kV_is {P : Program} {w : World} {k : Key} {u : Value} (r : RelV (kV k) u) : (mixKind P w).is k u = true := by
  cases k with
  | inl i => obtain ⟨t, e⟩ := (show ∃ t, u = Value.int i t from r); subst e; exact mixKind_int P w i t
  | inr x => obtain ⟨t, e⟩ := (show ∃ t, u = Value.str x t from r); subst e; exact mixKind_str P w x t
end L2
namespace Att
open PySem PySem.W PySem.Calls PyProof.Rows
theorem ints_of_wellAll {P : Params} {h : Heap} : ∀ (ns : List Int) (vs : List Value), WellAll P h vs (ns.map WData.int) → IntsAre vs ns := by
  intro ns
  induction ns with
  | nil =>
    intro vs w
    rw [List.map_nil] at w
    cases w
    exact .nil
  | cons n ns ih =>
    intro vs w
    rw [List.map_cons] at w
    cases w with
    | cons a b =>
      cases a
      exact .cons _ _ (ih _ b)
theorem script_of {l : OpenLaw} {n : Nat} (hn : l.most = some n) {P : Params} {h : Heap} {args : List WData} {vals : List Value}
    (hpre : l.row.toRowW.claim.pre args = true) (hwl : WellAll P h vals args) :
    ∃ a vs ns, vals = [Value.ref a] ∧ args = [WData.list (ns.map WData.int)] ∧ h.get? a = some { cls := .type "list", data := .seq vs.toArray } ∧ IntsAre vs ns ∧ ns.length ≤ n := by
  have hsh : WShape.hasAll [] args [.list .int] = true := (pre_splitW hpre).1
  have hc : l.pre.holds [] { args := args } = true := (pre_splitW hpre).2
  obtain ⟨d, r, rfl, h1, h2⟩ := hasAllW_cons hsh
  obtain rfl := hasAllW_nil h2
  obtain ⟨xs, rfl, h3⟩ := hasW_list h1
  obtain ⟨ns, rfl⟩ := items_int h3
  have hlen : ns.length ≤ n := by
    unfold OpenLaw.pre at hc
    have h4 : (WTm.not (.lt (.lit (.int (n : Int))) (.len (.arg 0)))).holds [] { args := [.list (ns.map .int)] } = true := by
      have h4 := (holds_andW hc).1
      rw [hn] at h4
      exact h4
    have h5 := condW_of h4 (w_not (w_lt w_lit (w_len_list (w_arg rfl))))
    rw [List.length_map] at h5
    refine Nat.le_of_not_lt fun q => ?_
    have q' : (n : Int) < ((ns.length : Nat) : Int) := by lia
    first
      | (rw [decide_eq_true q'] at h5; exact absurd h5 (by decide))
      | (simp at h5; lia)
  cases hwl with
  | cons w1 w2 =>
    cases w2
    cases w1 with
    | list ho hall => exact ⟨_, _, ns, rfl, rfl, ho, ints_of_wellAll ns _ hall, hlen⟩
theorem post_true (l : OpenLaw) (args : List WData) : l.row.toRowW.claim.post args (.bool true) args = true :=
  postW_of (r := l.row.toRowW) (X := (true == true))
    (show WShape.has [] (.bool true) .bool = true by first | rfl | decide | simp [WShape.has, WShape.arms, WShape.armsAll])
    (show (WTm.eq .res (.lit (.bool true))).value [] { args := args, res := some (.bool true), after := args } = some (.bool (true == true)) from w_eq_bool (w_res rfl) w_lit) rfl
theorem attach_call {l : OpenLaw} {n : Nat} {q : Program} {loose : List Str} {XP : (Str → Option Value) → Heap → Prop} {YP : World → Heap → Prop} {d : DefRec}
    (hn : l.most = some n) (hdf : d.params.defaults = [])
    (call : ∀ (w : World) (s₀ s₁ : Shared) (mg mb : Str → Option Value) (fa : Addr) (o : Obj) (pm cd doc : Value) (a : Addr) (vs : List Value) (ns : List Int),
      Ground q loose [] XP w s₀ mg mb s₁.heap → YP w s₁.heap →
      s₁.heap.get? fa = some o → o.data = .func (docDef d.name d.params d.body d.scope pm cd doc) → s₁.heap.CodeRec cd d.name → mg d.name = some (.ref fa) →
      s₁.heap.get? a = some { cls := .type "list", data := .seq vs.toArray } → IntsAre vs ns → ns.length ≤ n → s₁.gens = #[] →
      codeAny (model l.prog w) callerA (.call (.ref fa) ⟨[.ref a], []⟩) (fun r s' => r = .ok (.ret (.bool true)) ∧ OldK s₁.heap s'.heap ∧ s'.os = s₁.os ∧ AllBare s'.gens) s₁) :
    WalkO q loose XP YP l.row.toRowW d [] (fun f vs => PySem.call f vs) := by
  intro w s₀ s₁ mg mb G Y fa o pm cd doc dV kV ho hd hcd hD hmg hg args vals as hpre hlay hrd hwl hlo
  obtain rfl : dV = .none := Dflts.none hD hdf
  obtain rfl : kV = .none := Dflts.noKw hD
  obtain ⟨a, vs, ns, rfl, rfl, hobj, hints, hlen⟩ := script_of hn hpre hwl
  refine enter_call (codeAny_mono (call w s₀ s₁ mg mb fa o pm cd doc a vs ns G Y ho (fd_plain hd) hcd hmg hobj hints hlen hg) fun r s' hq => ?_)
  obtain ⟨rfl, h2, h3, h4⟩ := hq
  exact ⟨.inl ⟨.bool true, .bool true, [], rfl, fun _ => rfl, .bool true, post_true l _, fun _ => ⟨List.Pairwise.nil, fun _ hm => (nomatch hm)⟩⟩, h2, h3, h4⟩
end Att
namespace L2
open PySem PySem.Spec PyProof.Rows
theorem vals_ints : ∀ {vs : List Value} {ns : List Int}, IntsAre vs ns → Vals (ns.map V.int) vs
  | _, _, .nil => .nil
  | _, _, .cons n t h => .cons ⟨t, rfl⟩ (vals_ints h)
noncomputable def Only (H : Hp) : Prop := ∀ b, H b = none ∨ ∃ o xs, H b = some (.frz o (.lst xs))
theorem law_call {P : Program} {w : World} {K : PySem.W.Frag} {mg mb : Str → Option Value} {CX : CXT} {k : Nat} {fa a : Addr} {fd : FuncData} {x : Str} {sp : Sp} {s₁ : Shared} {vs : List Value} {ns : List Int}
    (KX : K.In s₁.heap) (hns : s₁.heap.Ns mainGlobals mg) (hb : s₁.heap.Ns builtinsNs mb) (hbb : ∀ x : Str, x ≠ "__name__" → mb x = bootBuiltins x) (hlim : s₁.heap.NoLimit) (hg : s₁.gens = #[])
    (ha : s₁.heap.get? a = some { cls := .type "list", data := .seq vs.toArray }) (hi : IntsAre vs ns) (hl : ns.length ≤ sizeLine) (hr : Room k callerA)
    (F : ∀ base : Heap, K.In base → base.Ns mainGlobals mg → FnOk P w K mg base CX k fa fd [x] sp) (hbind : ∀ (s : Shared) (u : Value), BindsTo s fd ⟨[u], []⟩ [(x, u)])
    (hsp : ∀ H : Hp, Only H → SqL K H a (ns.map V.int) → sp [.ref a] H (fun v _ => v = .bl true) fun _ _ _ => False)
    (hCX : ∀ H e s', CX [] H s₁ (fun _ _ _ => False) e s' → False) :
    codeAny (model P w) callerA (.call (.ref fa) ⟨[.ref a], []⟩) (fun r s' => r = .ok (.ret (.bool true)) ∧ OldK s₁.heap s'.heap ∧ s'.os = s₁.os ∧ AllBare s'.gens) s₁ := by
  have rv := vals_ints hi
  have lenV := hi.length
  -- from an abstract heap in which nothing but the script may be tracked
  have core : ∀ H : Hp, Only H → SqL K H a (ns.map V.int) → HOk P w H s₁.heap → (∀ b, H b ≠ none → b = a) → (H a ≠ none → K.lookup a = none) →
      codeAny (model P w) callerA (.call (.ref fa) ⟨[.ref a], []⟩) (fun r s' => r = .ok (.ret (.bool true)) ∧ OldK s₁.heap s'.heap ∧ s'.os = s₁.os ∧ AllBare s'.gens) s₁ := by
    intro H hO hS hok hA hK
    have base_of : ∀ {b : Addr} {o : Obj}, s₁.heap.get? b = some o → H b = none → (hidT s₁.heap H).get? b = some o := fun e n => hidT_get e n
    have noA : ∀ {b : Addr} {o : Obj} {es : Array DictEntry} {ep : Nat}, s₁.heap.get? b = some o → o.data = .dict es ep → H b = none := fun {b o es ep} e d => by
      cases q : H b with
      | none => rfl
      | some u =>
        have e' : b = a := hA b (by rw [q]; simp)
        subst e'
        rw [ha] at e; cases e
        have d' : Data.seq vs.toArray _ = Data.dict es ep := d
        cases d'
    have nsK : ∀ {b : Addr} {m : Str → Option Value}, s₁.heap.Ns b m → (hidT s₁.heap H).Ns b m := fun {b m} ⟨o, es, ep, e, d, r⟩ => ⟨o, es, ep, base_of e (noA e d), d, r⟩
    have hKb : K.In (hidT s₁.heap H) := fun b o e => base_of (KX b o e) (by
      cases q : H b with
      | none => rfl
      | some u =>
        have e' : b = a := hA b (by rw [q]; simp)
        subst e'
        rw [hK (by rw [q]; simp)] at e; cases e)
    have hM : Mod K mg (hidT s₁.heap H) := ⟨hKb, nsK hns, ⟨mb, nsK hb, hbb⟩, let ⟨mc, h1, h2⟩ := hlim; ⟨mc, nsK h1, h2⟩⟩
    have e0 : Env0 P w K mg (hidT s₁.heap H) callerA [] s₁ H := ⟨rfl, hM, fun b o e => of_hidT e, Nat.le_of_eq (hidT_size _ _), trivial, fun b hb => absurd (show b ∈ ([] : List Addr) from hb) (by simp), hok, .of_eq hg⟩
    refine codeAny_mono ((F _ hKb (nsK hns)).run callerA [] s₁ H ⟨[.ref a], []⟩ [.ref a] [.ref a] _ _ hr e0 (hbind s₁ (.ref a)) (.cons rfl .nil) (hsp H hO hS)) fun r s' h => ?_
    cases r with
    | error e => exact (hCX H e s' h).elim
    | ok fl =>
      cases fl with
      | next => exact False.elim h
      | brk => exact False.elim h
      | cont => exact False.elim h
      | ret u =>
        obtain ⟨v, H', os, bare, un, hok', r', q⟩ := h
        have q' : v = .bl true := q
        subst q'
        obtain rfl : u = Value.bool true := r'
        refine ⟨rfl, OldK.of_keep fun b o e => ?_, os, bare⟩
        cases q : H b with
        | none => exact un.keep b o e q (by intro z; exact absurd (show b ∈ ([] : List Addr) from z) (by simp)) (by simp)
        | some u =>
          rcases hO b with z | ⟨ob, xs, z⟩
          · rw [q] at z; cases z
          · have z2 := un.frzs b ob _ z
            obtain ⟨e1, _⟩ := hok b _ z
            obtain ⟨e2, _⟩ := hok' b _ z2
            rw [e] at e1; cases e1
            exact e2
  cases hk : K.lookup a with
  | some o =>
    -- the script is one of the module's own objects
    have e := KX a o hk
    rw [ha] at e
    cases e
    refine core (fun _ => none) (fun _ => .inl rfl) (.inr ⟨_, vs.toArray, _, hk, rfl, rfl, rfl, by rw [List.size_toArray, lenV]; exact hl, by simpa using rv⟩) (fun b u z => by have z' : (none : Option HO) = some u := z; cases z') (fun b z => absurd rfl z) fun z => absurd rfl z
  | none =>
    refine core (fun b => if b = a then some (.frz { cls := .type "list", data := .seq vs.toArray } (.lst (ns.map V.int))) else none) (fun b => ?_) (.inl (.inr ⟨{ cls := .type "list", data := .seq vs.toArray }, if_pos rfl⟩)) (fun b u z => ?_) (fun b z => ?_) fun _ => hk
    · by_cases hb : b = a
      · exact .inr ⟨_, _, if_pos hb⟩
      · exact .inl (if_neg hb)
    · by_cases hb : b = a
      · have z' := (if_pos hb).symm.trans z
        cases z'
        subst hb
        exact ⟨ha, by rw [List.length_map]; exact hl, vs, _, rv, ha⟩
      · have z' := (if_neg hb).symm.trans z
        cases z'
    · by_cases hb : b = a
      · exact hb
      · exact absurd (if_neg hb) z
end L2
namespace L2
open PySem PySem.Spec PyProof.Rows
theorem walk_of {l : PySem.W.OpenLaw} {n k : Nat} {q : Program} {loose : List Str} {XP : (Str → Option Value) → Heap → Prop} {YP : World → Heap → Prop} {d : DefRec} {K : Params → PySem.W.Frag} {CX : World → CXT} {sp : World → Sp} {x : Str}
    (hn : l.most = some n) (hn2 : n ≤ sizeLine) (hdf : d.params.defaults = []) (hr : Room k callerA)
    (hY : ∀ (w : World) (h : Heap), YP w h → (K w.params).In h)
    (F : ∀ (w : World) (mg : Str → Option Value) (fa : Addr) (h : Heap), (K w.params).In h → h.Ns mainGlobals mg → mg d.name = some (.ref fa) →
      ∃ fd : FuncData, (∀ (s : Shared) (u : Value), BindsTo s fd ⟨[u], []⟩ [(x, u)]) ∧
        ∀ base : Heap, (K w.params).In base → base.Ns mainGlobals mg → FnOk l.prog w (K w.params) mg base (CX w) k fa fd [x] (sp w))
    (hsp : ∀ (w : World) (H : Hp) (a : Addr) (ns : List Int), ns.length ≤ n → Only H → SqL (K w.params) H a (ns.map V.int) → sp w [.ref a] H (fun v _ => v = .bl true) fun _ _ _ => False)
    (hCX : ∀ (w : World) (H : Hp) (s : Shared) (e : Value) (s' : Shared), CX w [] H s (fun _ _ _ => False) e s' → False) :
    PySem.W.WalkO q loose XP YP l.row.toRowW d [] (fun f vs => PySem.call f vs) := by
  refine Att.attach_call hn hdf fun w s₀ s₁ mg mb fa o pm cd doc a vs ns G Y ho hd hcd hmg hobj hints hlen hg => ?_
  have KX := hY w _ Y
  obtain ⟨fd, hb, hF⟩ := F w mg fa _ KX G.T.g hmg
  exact law_call KX G.T.g G.T.b G.T.builtins G.T.nolimit hg hobj hints (Nat.le_trans hlen hn2) hr hF hb (fun H hO hS => hsp w H a ns hlen hO hS) fun H e s' => hCX w H s₁ e s'
end L2
namespace L2
open PySem PySem.Spec PyProof.Rows
noncomputable def inClass (s : Stmt) (j : Nat) : Stmt := match s with
  | .ClassDef _ _ _ body _ _ _ _ _ _ _ => body.getD j (.Pass ⟨0, 0, 0, 0⟩)
  | _ => .Pass ⟨0, 0, 0, 0⟩
noncomputable def defArgs (s : Stmt) : Arguments := match s with
  | .FunctionDef _ a _ _ _ _ _ _ _ _ => a
  | _ => { posonlyargs := [], args := [], vararg := none, kwonlyargs := [], kw_defaults := [], kwarg := none, defaults := [] }
noncomputable def defBody (s : Stmt) : List Stmt := match s with
  | .FunctionDef _ _ b _ _ _ _ _ _ _ => b
  | _ => []
noncomputable def defScope (s : Stmt) : Scope := match s with
  | .FunctionDef _ _ _ _ _ _ sc _ _ _ => sc
  | _ => { kind := .function, names := [], isGenerator := false, isCoroutine := false }
noncomputable abbrev CX0 : CXT := fun _ _ _ _ _ _ => False
noncomputable abbrev E0 : XK := fun _ _ _ => False
theorem pass0 {X : Cx} : Passes CX0 X E0 := fun _ _ _ _ _ _ _ h => h.elim
structure Fun (K : PySem.W.Frag) (x qual : Str) (st : Stmt) (f : Addr) (fd : FuncData) : Prop where
  ex : ∃ (oc : Value) (od : Option Addr) (kV doc pm : Value) (an : Option Addr) (cdv ct : Value) (osl : Array (Option Value)),
    fd = PySem.W.fnOf x qual (defArgs st) (defBody st) (defScope st) .none kV doc pm an cdv ct ∧ K.lookup f = some ⟨oc, od, .func fd, osl⟩ ∧ PySem.W.codeIn K cdv qual = true
  kp : PySem.W.keepIn K (.ref f) = true
section
variable {P : Program} {w : World} {K : PySem.W.Frag} {mg : Str → Option Value} {base : Heap}
theorem Fun.ok {x qual : Str} {st : Stmt} {f : Addr} {fd : FuncData} {N ps : List Str} {k : Nat} {sp : Sp} (F : Fun K x qual st f fd) (S : FnScope N ps (defScope st)) (len : ∀ vs H Q E, sp vs H Q E → vs.length = ps.length)
    (hbody : ∀ (cdv : Value) (A : Around) (outer : List Env) (s : Shared) (H : Hp) (vs : List V) (Q : VK) (E : XK), Room k (A.deeper (envOfC qual (defScope st) s.heap.objs.size f cdv)) → sp vs H Q E →
      ∃ t, PSs (cxOf CX0 P w K mg base N qual (defScope st) f cdv A outer s H E).nox (defBody st) t ∧ t { nx := fun _ H' => Q .non H', rt := Q } (start N vs) H) : FnOk P w K mg base CX0 (k + 1) f fd ps sp := by
  obtain ⟨oc, od, kV, doc, pm, an, cdv, ct, osl, rfl, lk, hcd⟩ := F.ex
  refine fn_of lk hcd S len fun A outer s H vs Q E hr hsp => ?_
  obtain ⟨t, h, q⟩ := hbody cdv A outer s H vs Q E hr hsp
  exact ⟨t, h.nox, q⟩
theorem Fun.binds {x qual : Str} {st : Stmt} {f : Addr} {fd : FuncData} {ps : List Str} (F : Fun K x qual st f fd)
    (h : ∀ (kV doc pm : Value) (an : Option Addr) (cdv ct : Value) (us : List Value), us.length = ps.length → bindArgs (PySem.W.fnOf x qual (defArgs st) (defBody st) (defScope st) .none kV doc pm an cdv ct) ⟨us, []⟩ = pure (ps.zip us)) : Binds K fd ps [] := by
  obtain ⟨oc, od, kV, doc, pm, an, cdv, ct, osl, rfl, lk, hcd⟩ := F.ex
  exact .all (h kV doc pm an cdv ct)
theorem fun_mk {x qual : Str} {st : Stmt} {f : Addr} {oc : Value} {od an : Option Addr} {osl : Array (Option Value)} {kV doc pm cdv ct : Value} (l : K.lookup f = some ⟨oc, od, .func (PySem.W.fnOf x qual (defArgs st) (defBody st) (defScope st) .none kV doc pm an cdv ct), osl⟩)
    (c : PySem.W.codeIn K cdv qual = true) (k : PySem.W.keepIn K (.ref f) = true) : Fun K x qual st f (PySem.W.fnOf x qual (defArgs st) (defBody st) (defScope st) .none kV doc pm an cdv ct) := ⟨⟨oc, od, kV, doc, pm, an, cdv, ct, osl, rfl, l, c⟩, k⟩
end
section
variable {X : Cx}
theorem pv (i : Nat) {x : Str} {pos : Pos} (hN : X.N[i]? = some x := by rfl) (hv : Vis X.env.scope x := by first | exact Or.inl rfl | exact Or.inr (Or.inl rfl) | exact Or.inr (Or.inr rfl)) (hd : (x == ("__debug__" : Str)) = false := by decide)
    (hcd : (x == ("__classdict__" : Str)) = false := by decide) : PE X (.Name x pos) (tVar i) := pe_var hN hv hd hcd
end
theorem iteF {A B : Prop} (h : B) : if false = true then A else B := by
  rw [if_neg Bool.false_ne_true]
  exact h
theorem iteT {A B : Prop} (h : A) : if true = true then A else B := by
  rw [if_pos rfl]
  exact h
theorem ite2 {c A B : Prop} [Decidable c] (h1 : c → A) (h2 : ¬ c → B) : if c then A else B := by
  by_cases h : c
  · rw [if_pos h]
    exact h1 h
  · rw [if_neg h]
    exact h2 h
noncomputable def Same (H H' : Hp) : Prop := ∀ b o, H b = some o → H' b = some o
theorem Same.refl (H : Hp) : Same H H := fun _ _ h => h
theorem Same.trans {H H1 H2 : Hp} (a : Same H H1) (b : Same H1 H2) : Same H H2 := fun c o h => b c o (a c o h)
theorem Same.free {H H' : Hp} (e : Same H H') {l : Addr} (h : H' l = Option.none) : H l = Option.none := by
  cases q : H l with
  | none => rfl
  | some o =>
    rw [e l o q] at h
    cases h
theorem Same.seq {K : PySem.W.Frag} {H H' : Hp} {a : Addr} {xs : List V} (e : Same H H') (h : SqL K H a xs) : SqL K H' a xs := by
  rcases h with (h | ⟨o, h⟩) | h
  · exact .inl (.inl (e _ _ h))
  · exact .inl (.inr ⟨o, e _ _ h⟩)
  · exact .inr h
section
variable {κ : Type} [DecidableEq κ]
theorem nd_snoc : ∀ {l : List κ} {k : κ}, l.Nodup → ¬ k ∈ l → (l ++ [k]).Nodup
  | [], k, _, _ => by simp
  | a :: r, k, h, hk => by
    obtain ⟨h1, h2⟩ := List.nodup_cons.mp h
    show (a :: (r ++ [k])).Nodup
    refine List.nodup_cons.mpr ⟨fun m => ?_, nd_snoc h2 fun m => hk (List.mem_cons.mpr (Or.inr m))⟩
    rcases (List.mem_append.mp m) with q | q
    · exact h1 q
    · exact hk (List.mem_cons.mpr (Or.inl (List.mem_singleton.mp q).symm))
end
end L2
namespace L2
open PySem PySem.Spec PyProof.Rows
noncomputable def clos (cells : List (Str × Addr)) : List (Str × NameKind) → List (Str × Addr) → List (Str × Addr)
  | [], cs => cs
  | (n, k) :: r, cs => clos cells r (if k == NameKind.free then (n, (cells.lookup n).getD 0) :: cs else cs)
theorem clos_go {env : Env} : ∀ (ns : List (Str × NameKind)) (cs : List (Str × Addr)), (∀ y ∈ ns, y.2 = NameKind.free → (env.cells.lookup y.1).isSome = true) →
    (forIn ns cs fun (p : Str × NameKind) (r : List (Str × Addr)) =>
      if (p.2 == NameKind.free) = true then (do let a ← cellOf env p.1; pure (ForInStep.yield ((p.1, a) :: r)) : Sem _) else pure (ForInStep.yield r)) = (pure (clos env.cells ns cs) : Sem _)
  | [], cs, _ => by simp [clos]
  | (n, k) :: r, cs, h => by
    have ih := fun cs' => clos_go r cs' fun y hy => h y (List.mem_cons_of_mem _ hy)
    rw [List.forIn_cons]
    by_cases hk : k = NameKind.free
    · subst hk
      have hs := h (n, NameKind.free) List.mem_cons_self rfl
      cases e : env.cells.lookup n with
      | none => rw [e] at hs; cases hs
      | some c =>
        have e1 : cellOf env n = pure c := by unfold cellOf; rw [e]
        have e2 : clos env.cells ((n, NameKind.free) :: r) cs = clos env.cells r ((n, c) :: cs) := by simp [clos, e]
        rw [e2, ← ih ((n, c) :: cs)]
        (simp only [beq_self_eq_true, if_true])
        rw [e1]
        rfl
    · have hb : (k == NameKind.free) = false := by simpa using hk
      have e2 : clos env.cells ((n, k) :: r) cs = clos env.cells r cs := by simp [clos, hb]
      rw [e2, ← ih cs]
      (simp only [hb, Bool.false_eq_true, if_false])
      rfl
theorem closureFor_is {scope : Scope} {env : Env} (h : ∀ y ∈ scope.names, y.2 = NameKind.free → (env.cells.lookup y.1).isSome = true) : closureFor scope env = pure (clos env.cells scope.names []) := by
  have e := clos_go (env := env) scope.names [] h
  unfold closureFor
  simp only [bind_pure]
  exact e
theorem clos_sub {cells : List (Str × Addr)} {x : Str} {c : Addr} : ∀ {ns : List (Str × NameKind)} {cs : List (Str × Addr)}, (∀ y ∈ ns, y.2 = NameKind.free → (cells.lookup y.1).isSome = true) → (cs.lookup x = some c → cells.lookup x = some c) →
    (clos cells ns cs).lookup x = some c → cells.lookup x = some c
  | [], _, _, h, e => h e
  | (n, k) :: r, cs, hn, h, e => by
    refine clos_sub (ns := r) (fun y hy => hn y (List.mem_cons_of_mem _ hy)) ?_ e
    by_cases hk : k = NameKind.free
    · subst hk
      (simp only [beq_self_eq_true, if_true])
      intro q
      rw [List.lookup_cons] at q
      by_cases hx : x = n
      · subst hx
        have hs := hn (x, NameKind.free) List.mem_cons_self rfl
        simp only [beq_self_eq_true] at q
        cases e1 : cells.lookup x with
        | none => rw [e1] at hs; cases hs
        | some d => rw [e1] at q; exact q
      · have hb : (x == n) = false := by simpa using hx
        rw [hb] at q
        exact h q
    · have hb : (k == NameKind.free) = false := by simpa using hk
      (simp only [hb, Bool.false_eq_true, if_false])
      exact h
theorem clos_keep {cells : List (Str × Addr)} {x : Str} : ∀ {ns : List (Str × NameKind)} {cs : List (Str × Addr)}, (cs.lookup x).isSome = true → ((clos cells ns cs).lookup x).isSome = true
  | [], _, h => h
  | (n, k) :: r, cs, h => by
    refine clos_keep (ns := r) ?_
    split
    · rw [List.lookup_cons]
      split
      · rfl
      · exact h
    · exact h
theorem clos_has {cells : List (Str × Addr)} {x : Str} : ∀ {ns : List (Str × NameKind)} {cs : List (Str × Addr)}, (x, NameKind.free) ∈ ns → ((clos cells ns cs).lookup x).isSome = true
  | [], _, h => nomatch h
  | (n, k) :: r, cs, h => by
    rcases (List.mem_cons.mp h) with e | e
    · cases e
      refine clos_keep (ns := r) ?_
      simp
    · exact clos_has (ns := r) e
theorem relab_free {env : Env} {x : Str} {k : NameKind} : ∀ {ns : List (Str × NameKind)}, (∀ y ∈ ns, y.2 ≠ NameKind.cell) → k = NameKind.cell ∨ k = NameKind.free →
    (ns.map fun (p : Str × NameKind) => if (p.2 == NameKind.free && env.scope.kind == .function && env.kindOf p.1 == some .cell) then (p.1, NameKind.cell) else (p.1, p.2)).lookup x = some k → (x, NameKind.free) ∈ ns
  | [], _, _, e => by simp at e
  | (n, j) :: r, hn, hk, e => by
    rw [List.map_cons] at e
    by_cases hx : x = n
    · subst hx
      have hj : j = NameKind.free := by
        by_cases hc : (j == NameKind.free && env.scope.kind == .function && env.kindOf x == some .cell) = true
        · simp only [Bool.and_eq_true, beq_iff_eq] at hc
          exact hc.1.1
        · simp only [hc] at e
          simp at e
          subst e
          rcases hk with q | q
          · exact absurd q (hn (x, j) List.mem_cons_self)
          · exact q
      subst hj
      exact List.mem_cons_self
    · refine List.mem_cons_of_mem _ (relab_free (env := env) (fun y hy => hn y (List.mem_cons_of_mem _ hy)) hk ?_)
      by_cases hc : (j == NameKind.free && env.scope.kind == .function && env.kindOf n == some .cell) = true
      · simp only [hc, if_true] at e
        rw [List.lookup_cons] at e
        have hb : (x == n) = false := by simpa using hx
        rw [hb] at e
        exact e
      · simp only [hc] at e
        simp at e
        rw [List.lookup_cons] at e
        have hb : (x == n) = false := by simpa using hx
        rw [hb] at e
        simpa using e
noncomputable def lcCx (X : Cx) (N : List Str) (scope : Scope) (C : Addr) (s : Shared) (H : Hp) (fp : List Addr) : Cx where
  prog := X.prog
  w := X.w
  K := X.K
  mg := X.mg
  base := X.base
  A := X.A
  N := N
  s₀ := s
  H₀ := H
  env := compEnvC scope (clos X.env.cells scope.names []) C X.env
  outer := X.stack
  stack := X.stack
  ex := fp
  fn := fun _ => false
  calm := X.calm
  pn := []
  xe := fun _ _ => False
noncomputable def caps (n : Nat) (js : List Nat) (σ : St) : St := List.replicate n none ++ js.map fun j => (σ[j]?).getD none
structure LcOk (X : Cx) (N : List Str) (sc scope : Scope) (own : List Str) (fr : List Str) (js : List Nat) : Prop where
  around : X.env.scope = sc
  names : N = own ++ fr
  kind : scope.kind = .function
  okind : sc.kind = .function
  nocell : ∀ y ∈ scope.names, y.2 ≠ NameKind.cell
  free : ∀ y ∈ scope.names, y.2 = NameKind.free → sc.names.lookup y.1 = some NameKind.cell
  loc : ∀ y ∈ scope.names, y.2 = NameKind.local → scope.names.lookup y.1 = some NameKind.local
  at' : js.map (fun j => X.N[j]?) = fr.map some
  cap : ∀ x ∈ fr, sc.names.lookup x = some NameKind.cell ∧ scope.names.lookup x = some NameKind.free
theorem relab_cell {env : Env} {x : Str} (hk : env.scope.kind = .function) (hx : env.kindOf x = some NameKind.cell) : ∀ {ns : List (Str × NameKind)}, ns.lookup x = some NameKind.free →
    (ns.map fun (p : Str × NameKind) => if (p.2 == NameKind.free && env.scope.kind == .function && env.kindOf p.1 == some .cell) then (p.1, NameKind.cell) else (p.1, p.2)).lookup x = some NameKind.cell
  | [], e => by simp at e
  | (n, j) :: r, e => by
    rw [List.map_cons]
    rw [List.lookup_cons] at e
    by_cases hn : x = n
    · subst hn
      simp only [beq_self_eq_true] at e
      cases e
      have hc : (NameKind.free == NameKind.free && env.scope.kind == .function && env.kindOf x == some .cell) = true := by rw [hk, hx]; rfl
      simp only [hc, if_true]
      rw [List.lookup_cons]
      simp
    · have hb : (x == n) = false := by simpa using hn
      rw [hb] at e
      have ih := relab_cell hk hx (ns := r) e
      by_cases hc : (j == NameKind.free && env.scope.kind == .function && env.kindOf n == some .cell) = true
      · simp only [hc, if_true]
        rw [List.lookup_cons, hb]
        exact ih
      · rw [if_neg hc, List.lookup_cons, hb]
        exact ih
theorem LcOk.cellAt {X : Cx} {N : List Str} {sc scope : Scope} {own fr : List Str} {js : List Nat} (L : LcOk X N sc scope own fr js) (ok : X.Ok) : ∀ y ∈ scope.names, y.2 = NameKind.free → (X.env.cells.lookup y.1).isSome = true := fun y hy hf => by
  obtain ⟨c, e⟩ := ok.has y.1 (.inl (show X.env.scope.names.lookup y.1 = _ by rw [L.around]; exact L.free y hy hf))
  rw [e]
  rfl
theorem LcOk.sub {X : Cx} {N : List Str} {sc scope : Scope} {own fr : List Str} {js : List Nat} (L : LcOk X N sc scope own fr js) (ok : X.Ok) {x : Str} {c : Addr} (e : (clos X.env.cells scope.names []).lookup x = some c) : X.env.cells.lookup x = some c :=
  clos_sub (L.cellAt ok) (fun z => by simp at z) e
theorem LcOk.len {X : Cx} {N : List Str} {sc scope : Scope} {own fr : List Str} {js : List Nat} (L : LcOk X N sc scope own fr js) : js.length = fr.length := by
  have := congrArg List.length L.at'
  simpa using this
theorem lc_ctx {X : Cx} {N : List Str} {sc scope : Scope} {own fr : List Str} {js : List Nat} {pins : List (Addr × Obj)} {σ : St} {H : Hp} {s : Shared} {fp : List Addr} (L : LcOk X N sc scope own fr js) (I : Inv X pins σ H s) (hf : ∀ b ∈ fp, FpOk X pins H b)
    (ho : ∀ b ∈ fp, b < s.heap.objs.size) {C : Addr} (hC : s.heap.objs.size ≤ C) : (lcCx X N scope C s H fp).Ok where
  mod := I.mod
  kind := L.kind
  glob := I.ok.glob
  blt := I.ok.blt
  above := hC
  inj := fun x y c e1 e2 => I.ok.inj x y c (L.sub I.ok e1) (L.sub I.ok e2)
  has := fun x hx => by
    have hm : (x, NameKind.free) ∈ scope.names := by
      rcases hx with q | q
      · exact relab_free L.nocell (.inl rfl) q
      · exact relab_free L.nocell (.inr rfl) q
    have := clos_has (cells := X.env.cells) (cs := []) hm
    cases e : (clos X.env.cells scope.names []).lookup x with
    | none => rw [e] at this; cases this
    | some c => exact ⟨c, e⟩
  cab := fun _ _ z _ => nomatch z
  hd := I.ok.hd
  frames := I.ok.frames
  stk := .inl rfl
  exf := fun b hb => ⟨Nat.ne_of_lt (Nat.lt_of_lt_of_le (ho b hb) hC), fun x c e => (hf b hb).2.2.2.2.1 x c (L.sub I.ok e)⟩
  bs := I.bs
  bsz := Nat.le_trans I.ok.bsz I.sz
  noex := fun b o e hb => by
    rcases (hf b hb).2.2.2.1 with q | q
    · exact I.ok.noex b o e q
    · exact absurd (Nat.lt_of_lt_of_le (Heap.lt_size (I.ok.bs b o e).1) q) (Nat.lt_irrefl _)
  exfs := fun b hb hs => by
    rcases List.mem_cons.mp (I.stkSub b hs) with q | q
    · exact (hf b hb).2.1 q
    · exact (hf b hb).2.2.1 q
  funs := I.stack
  frf := I.stkFree
theorem getD_none {o : Option (Option V)} {v : V} (h : o.getD none = some v) : o = some (some v) := by
  cases o with
  | none => cases h
  | some u => cases u with
    | none => cases h
    | some w => cases h; rfl
theorem caps_get {n : Nat} {js : List Nat} {σ : St} {i : Nat} {v : V} (e : (caps n js σ)[i]? = some (some v)) : ∃ k j, i = n + k ∧ js[k]? = some j ∧ σ[j]? = some (some v) := by
  unfold caps at e
  by_cases hi : i < n
  · rw [List.getElem?_append_left (by simpa using hi)] at e
    rw [List.getElem?_replicate] at e
    split at e <;> cases e
  · rw [List.getElem?_append_right (by simpa using hi)] at e
    simp only [List.length_replicate, List.getElem?_map] at e
    cases q : js[i - n]? with
    | none => rw [q] at e; cases e
    | some j =>
      rw [q] at e
      exact ⟨i - n, j, by lia, q, getD_none (Option.some.inj e)⟩
theorem lc_start {X : Cx} {N : List Str} {sc scope : Scope} {own fr : List Str} {js : List Nat} {pins : List (Addr × Obj)} {σ : St} {H : Hp} {s : Shared} {fp : List Addr} (L : LcOk X N sc scope own fr js) (I : Inv X pins σ H s) (hf : ∀ b ∈ fp, FpOk X pins H b)
    (ho : ∀ b ∈ fp, b < s.heap.objs.size) {h' : Heap} {m : Str → Option Value} {tk : Nat} (hn : h'.Ns (s.heap.objs.size + 1) m) (hk : ∀ b o, s.heap.get? b = some o → h'.get? b = some o)
    (hl : h'.get? s.heap.objs.size = some { cls := .type "list", data := .seq ([] : List Value).toArray }) :
    Inv (lcCx X N scope (s.heap.objs.size + 1) s H fp) [] (caps own.length js σ) (upd H s.heap.objs.size (.lst [])) { s with heap := h', toks := tk } := by
  have fresh : ∀ a, s.heap.objs.size ≤ a → H a = none := fun a ha => I.hok.fresh ha
  have cellAt : ∀ x c, (clos X.env.cells scope.names []).lookup x = some c → ∃ v, s.heap.IsCell c v := fun x c e => I.cell x c (L.sub I.ok e)
  refine ⟨lc_ctx L I hf ho (Nat.le_succ _), rfl, I.bare, Un.laid hk (Nat.le_refl _) (fresh _ (Nat.le_refl _)), ⟨m, hn, fun i x v e1 e2 e3 => ?_⟩, fun x c e => ?_, ?_, fun x c e => ?_, fun p hp => ?_, I.hok.laid hk (Nat.le_refl _) ?_, ?_⟩
  · obtain ⟨k, j, rfl, hj, hv⟩ := caps_get e2
    have hN : (own ++ fr)[own.length + k]? = some x := by
      have e1' : N[own.length + k]? = some x := e1
      rw [L.names] at e1'
      exact e1'
    rw [List.getElem?_append_right (by lia), Nat.add_sub_cancel_left] at hN
    have hx : x ∈ fr := List.mem_of_getElem? hN
    have hjx : X.N[j]? = some x := by
      have := congrArg (fun l => l[k]?) L.at'
      simp only [List.getElem?_map, hj, hN, Option.map_some] at this
      exact Option.some.inj this
    obtain ⟨kc', kr'⟩ := L.cap x hx
    have kc : X.env.kindOf x = some NameKind.cell := by show X.env.scope.names.lookup x = _; rw [L.around]; exact kc'
    have kr : (relabel scope X.env).names.lookup x = some NameKind.cell := relab_cell (by rw [L.around]; exact L.okind) kc kr'
    obtain ⟨m0, _, hl0⟩ := I.loc
    obtain ⟨u, r, l⟩ := hl0 j x v hjx hv (.inr (.inl kc))
    refine ⟨u, r, .inr ⟨.inl kr, ?_⟩⟩
    rcases l with ⟨kk, _⟩ | ⟨_, c, hc, z⟩
    · rw [kc] at kk; cases kk
    · have hs : ((clos X.env.cells scope.names []).lookup x).isSome = true := clos_has (relab_free L.nocell (.inl rfl) kr)
      cases e : (clos X.env.cells scope.names []).lookup x with
      | none => rw [e] at hs; cases hs
      | some d =>
        have ed := L.sub I.ok e
        rw [hc] at ed
        cases ed
        obtain ⟨o, ho', hd⟩ := z
        exact ⟨c, e, o, hk c o ho', hd⟩
  · obtain ⟨v, o, ho', hd⟩ := cellAt x c e
    exact ⟨v, o, hk c o ho', hd⟩
  · show upd H s.heap.objs.size _ (s.heap.objs.size + 1) = none
    rw [upd_ne (Nat.succ_ne_self _)]
    exact fresh _ (Nat.le_succ _)
  · obtain ⟨v, o, ho', hd⟩ := cellAt x c e
    rw [upd_ne (Nat.ne_of_lt (Heap.lt_size ho'))]
    exact I.freeC x c (L.sub I.ok e)
  · exact nomatch hp
  · exact ⟨Nat.zero_le _, [], 0, .nil, hl⟩
  · show (caps own.length js σ).length = N.length
    rw [L.names]
    simp [caps, L.len]
noncomputable def PIf (X : Cx) (ifs : List Expr) (t : TT) : Prop :=
  ∀ (pins : List (Addr × Obj)) (s : Shared) (σ : St) (H : Hp) (Q : Bool → Hp → Prop), Inv X pins σ H s → t σ H Q →
    wpAny (model X.prog X.w) X.A (forIn ifs true fun c r => if r = true then do let ok ← isTrue c X.env (eval c X.env); pure (ForInStep.yield ok) else pure (ForInStep.yield r)) (TP X pins σ Q) X.xe s
noncomputable def tYes : TT := fun _ H Q => Q true H
theorem pif_nil {X : Cx} : PIf X [] tYes := fun _ _ _ H _ I h => wpAny_tests_nil ⟨H, I, h⟩
theorem lc_loop {prog : Program} {w : World} {A : Around} {R : Result → Shared → Prop} {s : Shared} {elt tg iter : Expr} {ifs : List Expr} {scope : Scope} {pos : Pos} {it acc : Value} {env : Env} (J : Nat → Shared → Prop)
    (turn : ∀ n s, J n s → wpAny (model prog w) A (pyNext it) (fun r s1 => match r with
      | none => R (.ok .next) s1
      | some v => wpAny (model prog w) A (letOwnedTupleGo tg it v) (fun _ s2 => wpAny (model prog w) A (assign tg env v) (fun _ s3 =>
          wpAny (model prog w) A (forIn ifs true fun c r => if r = true then do let ok ← isTrue c env (eval c env); pure (ForInStep.yield ok) else pure (ForInStep.yield r)) (fun ok s4 =>
            if ok = true then wpAny (model prog w) A (eval elt env) (fun x s5 => wpAny (model prog w) A (call (.builtin "list.append") [acc, x]) (fun _ s6 => ∃ m, m < n ∧ J m s6) (fun _ _ => False) s5) (fun _ _ => False) s4
            else ∃ m, m < n ∧ J m s4) (fun _ _ => False) s3) (fun _ _ => False) s2) (fun _ _ => False) s1) (fun _ _ => False) s)
    (n : Nat) (h : J n s) : codeAny (model prog w) A (.compLoop (.ListComp elt [⟨tg, iter, ifs, 0⟩] scope pos) 0 it acc env) R s := by
  refine codeAny_loop rfl J (fun n s hJ => ?_) n h
  show wpAny _ A ((compTurn (.ListComp elt [⟨tg, iter, ifs, 0⟩] scope pos) 0 it acc env).onRaise (fun x => do noteFrame x env; theTreesLotGoes x)) _ _ s
  refine wpAny_noted ?_
  rw [compTurn_list]
  refine wpAny_bind (wpAny_standAt (wpAny_bind (wpAny_mono (turn n s hJ) (fun r s1 h1 => ?_) fun _ _ f => f.elim)))
  cases r with
  | none => exact wpAny_pure h1
  | some v =>
    refine wpAny_bind (wpAny_mono h1 (fun _ s2 h2 => wpAny_bind (wpAny_mono h2 (fun _ s3 h3 => wpAny_bind (wpAny_mono h3 (fun ok s4 h4 => ?_) fun _ _ f => f.elim)) fun _ _ f => f.elim)) fun _ _ f => f.elim)
    cases ok with
    | false => exact wpAny_pure ⟨rfl, h4⟩
    | true =>
      exact wpAny_bind (wpAny_bind (wpAny_mono h4 (fun x s5 h5 => wpAny_bind (wpAny_mono h5 (fun _ s6 h6 => wpAny_pure (wpAny_pure ⟨rfl, h6⟩)) fun _ _ f => f.elim)) fun _ _ f => f.elim))
noncomputable def tLcB (J : It) (D : Addr) (σ0 : St) (g : TG) (tc : TT) (te : TE) (fin : Hp → Prop) (W : Nat → Nat → List V → Hp → Prop) : Prop :=
  ∀ i m ys H, W i m ys H → (J.stop i H ∧ fin H) ∨ (J.go i H ∧ ∃ N : List V → Hp → Prop, (∀ ys' H', N ys' H' → ∃ m', m' < m ∧ W (i + 1) m' ys' H') ∧
    ∀ x H1, J.yld i H x H1 → g x σ0 H1 fun σ2 H2 => (σ2.length = σ0.length ∧ ∀ (i : Nat) v, σ0[i]? = some (some v) → σ2[i]? = some (some v)) ∧
      tc σ2 H2 fun b H3 => if b = true then te σ2 H3 fun y H4 => ∃ zs, H4 D = some (.lst zs) ∧ zs.length < sizeLine ∧ N (zs ++ [y]) (upd H4 D (.lst (zs ++ [y]))) else N ys H3)
theorem lc_block {X : Cx} {N : List Str} {sc scope : Scope} {own fr : List Str} {js : List Nat} {pins : List (Addr × Obj)} {σ : St} {H : Hp} {s : Shared} {fp : List Addr} {tg iter elt : Expr} {ifs : List Expr} {pos : Pos} {J : It} {it : Addr} {tn : Nat → Heap → Prop}
    {g : TG} {tc : TT} {te : TE} {RR : Value → Addr → Result → Shared → Prop} {E : Value → Shared → Prop} {fin : Addr → Hp → Prop}
    (L : LcOk X N sc scope own fr js) (hc : X.calm = true) (I : Inv X pins σ H s) (T : Turn X.prog X.w X.K tg J fp it tn) (st : tn 0 s.heap) (hf : ∀ b ∈ fp, FpOk X pins H b)
    (hg : ∀ C s H fp, PG (lcCx X N scope C s H fp) tg g) (hi : ∀ C s H fp, PIf (lcCx X N scope C s H fp) ifs tc) (he : ∀ C s H fp, PE (lcCx X N scope C s H fp) elt te)
    (h : ∀ D, H D = none → ∃ W : Nat → Nat → List V → Hp → Prop, (∃ m, W 0 m [] (upd H D (.lst []))) ∧ tLcB J D (caps own.length js σ) g tc te (fin D) W)
    (hRR : ∀ D C s' H', (∃ m, s'.heap.Ns C m) → Inv X pins σ H' s' → FpOk X pins H' C → fin D H' → RR (.ref D) C (.ok .next) s') :
    wpAny (model X.prog X.w) X.A (newList []) (fun acc s3 => wpAny (model X.prog X.w) X.A (newFunctionEnv scope X.env.globals (clos X.env.cells scope.names []) [] X.env.qual none .none (some X.env)) (fun cenv s4 =>
      codeAny (model X.prog X.w) X.A (.compStart (.ListComp elt [⟨tg, iter, ifs, 0⟩] scope pos) 0 (.ref it) acc { cenv with scope := relabel scope X.env }) (RR acc cenv.locals) s4) E s3) E s := by
  have hlt : ∀ b ∈ fp, b < s.heap.objs.size := fun b hb => by
    obtain ⟨o, e, _⟩ := T.obj 0 _ st b hb
    exact Heap.lt_size e
  refine wpAny_newObj_type (wpAny_newFunctionEnv L.nocell (fun _ z => nomatch z) (fun h1 n1 b1 => ?_) L.kind)
  dsimp only at n1 b1 ⊢
  have hsz : (s.heap.push { cls := .type "list", dict := none, data := .seq ([] : List Value).toArray }).objs.size = s.heap.objs.size + 1 := Heap.size_push ..
  rw [hsz] at n1 b1
  rw [hsz]
  have kept : ∀ b o, s.heap.get? b = some o → h1.get? b = some o := fun b o e => b1.extBut b o (Nat.ne_of_lt (Nat.lt_succ_of_lt (Heap.lt_size e))) (Heap.get?_push_of_some _ (Heap.get?_push_of_some _ e))
  have isl : h1.get? s.heap.objs.size = some { cls := .type "list", data := .seq ([] : List Value).toArray } := b1.extBut _ _ (Nat.ne_of_lt (Nat.lt_succ_self _)) (Heap.get?_push_of_some _ (Heap.get?_push_size _ rfl))
  have IY := lc_start (tk := s.toks + ([] : List (Str × Value)).length) L I hf hlt n1 kept isl
  have fresh : H s.heap.objs.size = none := I.hok.fresh (Nat.le_refl _)
  obtain ⟨W, ⟨m0, w0⟩, turn⟩ := h s.heap.objs.size fresh
  -- the iterator's records through the loop
  have stat : ∀ {H' : Hp}, (∀ b ∈ fp, H' b = none) → ∀ b ∈ fp, FpOk (lcCx X N scope (s.heap.objs.size + 1) s H fp) [] H' b := fun hn b hb =>
    ⟨hn b hb, Nat.ne_of_lt (Nat.lt_succ_of_lt (hlt b hb)), fun z => by
      rcases List.mem_cons.mp (I.stkSub b z) with q | q
      · exact (hf b hb).2.1 q
      · exact (hf b hb).2.2.1 q, .inl hb, fun x c e => (hf b hb).2.2.2.2.1 x c (L.sub I.ok e), fun _ z => nomatch z⟩
  have st1 : tn 0 h1 := T.keep 0 _ _ st fun b _ o e => kept b o e
  have loop : ∀ s2 : Shared, s2 = { s with heap := h1, toks := s.toks + ([] : List (Str × Value)).length } →
      codeAny (model X.prog X.w) X.A (.compLoop (.ListComp elt [⟨tg, iter, ifs, 0⟩] scope pos) 0 (.ref it) (.ref s.heap.objs.size) (lcCx X N scope (s.heap.objs.size + 1) s H fp).env) (RR (.ref s.heap.objs.size) (s.heap.objs.size + 1)) s2 := by
    rintro s2 rfl
    refine lc_loop (fun n s' => ∃ i ys H', Inv (lcCx X N scope (s.heap.objs.size + 1) s H fp) [] (caps own.length js σ) H' s' ∧ tn i s'.heap ∧ (∀ b ∈ fp, H' b = none) ∧ W i n ys H') ?_ m0
      ⟨0, [], _, IY, st1, fun b hb => by rw [upd_ne (Nat.ne_of_lt (hlt b hb))]; exact (hf b hb).1, w0⟩
    rintro n s3 ⟨i, ys, H3, I3, st3, fr3, w3⟩
    rcases turn i n ys H3 w3 with ⟨stop, qn⟩ | ⟨go, Nx, hN, step⟩
    · refine thn (T.done (lcCx X N scope (s.heap.objs.size + 1) s H fp) rfl rfl rfl hc i [] s3 _ H3 _ I3 (stat fr3) st3 stop) fun r s4 hp0 => ?_
      obtain ⟨hr, I4⟩ := hp0
      subst hr
      have IX : Inv X pins σ H3 s4 := I.call' (ch := fp) I4.os I4.base I4.hok I4.bare fun b hb => ⟨(hf b hb).2.2.2.1, (hf b hb).2.1, (hf b hb).2.2.2.2.1, (hf b hb).2.2.2.2.2⟩
      obtain ⟨m, hm, _⟩ := I4.loc
      exact hRR _ _ s4 H3 ⟨m, hm⟩ IX (I.fpOk (Nat.le_succ _) I4.free) qn
    · refine thn (T.item (lcCx X N scope (s.heap.objs.size + 1) s H fp) rfl rfl rfl hc i [] s3 _ H3 _ I3 (stat fr3) st3 go) fun r s4 hp0 => ?_
      obtain ⟨u, hr, h4⟩ := hp0
      subst hr
      refine thn h4 fun _ s5 hp0 => ?_
      obtain ⟨x, H5, I5, r5, y5, st5, fr5⟩ := hp0
      have I5' := I5.pinned (stat fr5) (T.obj _ _ st5)
      refine thn (hg _ _ _ _ _ s5 _ H5 x u _ I5' r5 (step x H5 y5)) fun _ s6 hp0 => ?_
      obtain ⟨σ6, H6, I6, ⟨hl6, hs6⟩, q6⟩ := hp0
      have next : ∀ {s7 : Shared} {H7 : Hp} {zs : List V}, Inv (lcCx X N scope (s.heap.objs.size + 1) s H fp) ([] ++ pinsAt fp s5.heap) σ6 H7 s7 → Nx zs H7 →
          ∃ m, m < n ∧ ∃ i ys H', Inv (lcCx X N scope (s.heap.objs.size + 1) s H fp) [] (caps own.length js σ) H' s7 ∧ tn i s7.heap ∧ (∀ b ∈ fp, H' b = none) ∧ W i m ys H' := fun {s7 H7 zs} I7 n7 => by
        obtain ⟨m', hm, w7⟩ := hN zs H7 n7
        refine ⟨m', hm, i + 1, zs, H7, I7.unpinned.weak hl6.symm hs6, T.keep _ _ _ st5 fun b hb o e => (I7.pin (b, o) (List.mem_append_right _ (List.mem_append_right _ (mem_pinsAt hb e)))).1, fun b hb => ?_, w7⟩
        obtain ⟨o, e, d⟩ := T.obj _ _ st5 b hb
        exact (I7.pin (b, o) (List.mem_append_right _ (List.mem_append_right _ (mem_pinsAt hb e)))).2.1
      refine thn (hi _ _ _ _ _ s6 σ6 H6 _ I6 q6) fun ok s7 hp0 => ?_
      obtain ⟨H7, I7, q7⟩ := hp0
      cases ok with
      | false =>
        rw [if_neg Bool.false_ne_true] at q7
        exact next I7 q7
      | true =>
        rw [if_pos rfl] at q7
        rw [if_pos rfl]
        refine thn (he _ _ _ _ _ s7 σ6 H7 _ I7 q7) fun y s8 hp0 => ?_
        obtain ⟨v8, H8, I8, r8, zs, hz, hzl, q8⟩ := hp0
        refine thn (mt_append _ s8 σ6 H8 (.ref s.heap.objs.size) [v8] _ [y] (fun _ H9 => Nx (zs ++ [v8]) H9) I8 rfl (.cons r8 .nil) ⟨_, zs, v8, rfl, rfl, hz, hzl, q8⟩) fun _ s9 hp0 => ?_
        obtain ⟨_, H9, I9, _, q9⟩ := hp0
        exact next I9 q9
  exact codeAny_compStart_list (loop _ rfl) (T.self X.A 0 _ _ _ st1 (loop _ rfl))
noncomputable def tLc (wi : TI) (n : Nat) (js : List Nat) (g : TG) (tc : TT) (te : TE) : TE := fun σ H Q => wi σ H fun J H1 => ∀ D, H1 D = none →
  ∃ W : Nat → Nat → List V → Hp → Prop, (∃ m, W 0 m [] (upd H1 D (.lst []))) ∧ tLcB J D (caps n js σ) g tc te (fun H2 => Q (.ref D) H2) W
theorem pe_lc {X : Cx} {N : List Str} {sc scope : Scope} {own fr : List Str} {js : List Nat} {tg iter elt : Expr} {ifs : List Expr} {pos : Pos} {wi : TI} {g : TG} {tc : TT} {te : TE}
    (L : LcOk X N sc scope own fr js) (hc : X.calm = true) (hI : PI X tg iter wi)
    (hg : ∀ C s H fp, PG (lcCx X N scope C s H fp) tg g) (hi : ∀ C s H fp, PIf (lcCx X N scope C s H fp) ifs tc) (he : ∀ C s H fp, PE (lcCx X N scope C s H fp) elt te)
    (hs : ∀ x, foldedSetIterable iter X.env x = pure x := by intro _; rfl) : PE X (.ListComp elt [⟨tg, iter, ifs, 0⟩] scope pos) (tLc wi own.length js g tc te) := by
  intro pins s σ H Q I h
  rw [eval_ListComp]
  refine wpAny_comprehension_free (use := none) rfl hs (closureFor_is (L.cellAt I.ok)) L.kind L.loc ?_
  refine thn (hI pins s σ H _ I h) fun v s1 h1 => thn h1 fun itv s2 h2 => ?_
  obtain ⟨it, fp, tn, J, H2, e, I2, T, st, f2, q⟩ := h2
  subst e
  refine lc_block (RR := fun acc C => compPost (model X.prog X.w) X.A X.xe none (EP X pins σ Q) acc C) (fin := fun D H' => Q (.ref D) H') L hc I2 T st f2 hg hi he q ?_
  intro D C s' H' hm IX fC q'
  obtain ⟨m, hm⟩ := hm
  obtain ⟨f0, f1, _, f3, f4, f5⟩ := fC
  exact ⟨m, hm, fun h' sb => ⟨.ref D, H', IX.turned (t' := s'.toks) (fun b o hb e => (sb.2 b hb).trans e) f0 f1 f3 f4 f5, rfl, q'⟩⟩
noncomputable def tLcS (i : Nat) (wi : TI) (n : Nat) (js : List Nat) (g : TG) (tc : TT) (te : TE) : TS := fun E σ H => wi σ H fun J H1 => ∀ D, H1 D = none →
  ∃ W : Nat → Nat → List V → Hp → Prop, (∃ m, W 0 m [] (upd H1 D (.lst []))) ∧ tLcB J D (caps n js σ) g tc te (fun H2 => E.nx (σ.set i (some (.ref D))) H2) W
theorem ps_lc {X : Cx} {N : List Str} {sc scope : Scope} {own fr : List Str} {js : List Nat} {tg iter elt : Expr} {ifs : List Expr} {pos spos py : Pos} {wi : TI} {g : TG} {tc : TT} {te : TE} {i : Nat} {y : Str}
    (hN : X.N.Nodup) (hy : X.N[i]? = some y) (hl : X.env.scope.names.lookup y = some .local)
    (L : LcOk X N sc scope own fr js) (hc : X.calm = true) (hI : PI X tg iter wi)
    (hg : ∀ C s H fp, PG (lcCx X N scope C s H fp) tg g) (hi : ∀ C s H fp, PIf (lcCx X N scope C s H fp) ifs tc) (he : ∀ C s H fp, PE (lcCx X N scope C s H fp) elt te)
    (hw : swapsWith (.ListComp elt [⟨tg, iter, ifs, 0⟩] scope pos) (some (.Name y py)) spos.line X.env = pure true := by rfl)
    (hs : ∀ x, foldedSetIterable iter X.env x = pure x := by intro _; rfl) : PS X (.Assign [.Name y py] (.ListComp elt [⟨tg, iter, ifs, 0⟩] scope pos) spos) (tLcS i wi own.length js g tc te) := by
  intro pins s σ H E I h
  rw [exec_Assign_Name_used _ _ _ _ hw]
  (refine wpAny_bind (wpAny_standAt (wpAny_bind ?_)))
  show wpAny _ X.A (do let _ ← comprehension (.ListComp elt [⟨tg, iter, ifs, 0⟩] scope pos) scope X.env _ (newList []) false (eval iter X.env) (some (assign (.Name y py) X.env))) _ _ s
  refine wpAny_bind (wpAny_mono (wpAny_comprehension_free (use := some (assign (.Name y py) X.env)) (Q := fun _ s' => SP X pins E .next s') rfl hs (closureFor_is (L.cellAt I.ok)) L.kind L.loc ?_) (fun _ s' q => wpAny_pure (wpAny_pure q)) fun _ _ e => e)
  refine thn (hI pins s σ H _ I h) fun v s1 h1 => thn h1 fun itv s2 h2 => ?_
  obtain ⟨it, fp, tn, J, H2, e, I2, T, st, f2, q⟩ := h2
  subst e
  refine lc_block (RR := fun acc C => compPost (model X.prog X.w) X.A X.xe (some (assign (.Name y py) X.env)) (fun _ s' => SP X pins E .next s') acc C) (fin := fun D H' => E.nx (σ.set i (some (.ref D))) H') L hc I2 T st f2 hg hi he q ?_
  intro D C s' H' hm IX fC q'
  obtain ⟨m, hm⟩ := hm
  obtain ⟨f0, f1, _, f3, f4, f5⟩ := fC
  show wpAny _ X.A (assign (.Name y py) X.env (.ref D)) _ _ s'
  refine wpAny_assign_Name (store_ok2 IX hN hy (.inl hl) (v := .ref D) rfl (fun s3 I3 ha => ?_) (.inr hl))
  obtain ⟨a, sb, ha⟩ := ha
  have hCa : C ≠ a := by
    rcases ha with z | z
    · rw [z]; exact f1
    · exact fun q => f4 y a z q.symm
  refine ⟨m, hm.sameBut sb hCa, fun h' sb' => ⟨_, H', I3.turned (t' := s3.toks) (fun b o hb e => (sb'.2 b hb).trans e) f0 f1 f3 f4 f5, q'⟩⟩
end L2
namespace L2
open PySem PySem.Spec PyProof.Rows
section
variable {X : Cx}
noncomputable def rInsert : V → List V → Hp → VK → Prop := fun x vs H Q => ∃ l xs i y, x = .ref l ∧ vs = [.int i, y] ∧ 0 ≤ i ∧ i ≤ (xs.length : Int) ∧ H l = some (.lst xs) ∧ xs.length < sizeLine ∧ Q .non (upd H l (.lst (xs.take i.toNat ++ y :: xs.drop i.toNat)))
theorem insert_fn (its : List Value) (i : Int) (u : Value) (h0 : 0 ≤ i) (h1 : i ≤ (its.length : Int)) :
    (fun xs : Array Value => have k := if i < 0 then (i + ((xs.size : Nat) : Int)).toNat else min i.toNat xs.size; (xs.extract 0 k).push u ++ xs.extract k) its.toArray = (its.take i.toNat ++ u :: its.drop i.toNat).toArray := by
  have e : (if i < 0 then (i + ((its.toArray.size : Nat) : Int)).toNat else min i.toNat its.toArray.size) = i.toNat := by
    rw [if_neg (by lia), List.size_toArray]
    lia
  show (its.toArray.extract 0 (if i < 0 then (i + ((its.toArray.size : Nat) : Int)).toNat else min i.toNat its.toArray.size)).push u ++ its.toArray.extract (if i < 0 then (i + ((its.toArray.size : Nat) : Int)).toNat else min i.toNat its.toArray.size) = _
  rw [e]
  apply Array.toList_inj.mp
  simp
  (exact List.take_of_length_le (by simp))
theorem mt_insert : MtM X "list.insert" rInsert := by
  intro pins s σ H x vs v us Q I rx rv h
  obtain ⟨l, xs, i, y, rfl, rfl, h0, h1, hH, hz, q⟩ := h
  cases rx
  obtain ⟨u1, u, rfl, ⟨t, rfl⟩, ru⟩ := vals2 rv
  obtain ⟨z, its, n, r, hl, e⟩ := I.lstM hH
  have h63 := line63
  refine call_meets F.slot_list_insert ⟨_, e, rfl⟩ F.entry_list_insert (F.args_list_insert_3 _ _ _) (PySem.AutoListH.list_insert_list_int_val_1 l its.toArray n i t u (by rw [fitsIndex_both (by lia) (by lia)]; decide) (by rw [List.size_toArray]; lia)) ⟨e, ?_⟩
  refine ⟨.non, _, I.lset (its' := its.take i.toNat ++ u :: its.drop i.toNat) hH e (insert_fn its i u h0 (by lia)) ((r.take i.toNat).append (.cons ru (r.drop i.toNat))) ?_, rfl, q⟩
  (rw [List.length_append, List.length_cons, List.length_take, List.length_drop])
  lia
theorem op_mulS : OpR X (binaryOp .Mult) (fun x y H Q => ∃ z i, x = .str z ∧ y = .int i ∧ 1 ≤ i ∧ i ≤ 1000 ∧ z.length ≤ 1000 ∧ Q (.str (Txt.mul z i)) H) := by
  intro pins s σ H x y v u Q I rx ry h
  obtain ⟨z, i, rfl, rfl, h1, h2, h3, q⟩ := h
  obtain ⟨t, rfl⟩ := rx
  obtain ⟨t', rfl⟩ := ry
  have hs : sizeLine = 16777216 := sizeLine_eq
  have hp : z.length * i.toNat ≤ 1000 * 1000 := Nat.mul_le_mul h3 (by lia)
  refine SB.mul ⟨?_, fun _ _ => ?_, fun _ _ => ?_⟩ fun t' k => ⟨.str (Txt.mul z i), H, I.tok _, ⟨_, rfl⟩, q⟩
  · have e1 : decide (i < -(2 ^ 63 : Int)) = false := decide_eq_false (by lia)
    have e2 : decide (i ≥ 2 ^ 63) = false := decide_eq_false (by lia)
    rw [e1, e2, Bool.or_false]
  · have e3 : (z.length : Int) * i = ((z.length * i.toNat : Nat) : Int) := by rw [Int.natCast_mul, Int.toNat_of_nonneg (by lia)]
    have e4 : (z.length : Int) ≤ (2 ^ 63 - 1) / i := Int.le_ediv_of_mul_le (by lia) (by rw [e3]; lia)
    lia
  · show decide (z.length * i.toNat > sizeLine) = false
    exact decide_eq_false (by lia)
end
mutual
inductive RdV (H : Hp) : V → PyData → Prop
  | non : RdV H .non .none
  | int (i : Int) : RdV H (.int i) (.int i)
  | str (x : Str) : RdV H (.str x) (.str x)
  | tup {a : Addr} {xs : List V} {ds : List PyData} : H a = some (.tup xs) → RdVs H xs ds → RdV H (.ref a) (.tuple ds)
inductive RdVs (H : Hp) : List V → List PyData → Prop
  | nil : RdVs H [] []
  | cons {x : V} {d : PyData} {xs : List V} {ds : List PyData} : RdV H x d → RdVs H xs ds → RdVs H (x :: xs) (d :: ds)
end
mutual
theorem RdV.reads {P : Program} {w : World} {H : Hp} {h : Heap} (ok : HOk P w H h) : ∀ {x : V} {d : PyData} {u : Value}, RdV H x d → RelV x u → ∃ as, Reads h u d as
  | _, _, _, .non, r => by cases r; exact ⟨_, .none⟩
  | _, _, _, .int i, r => by obtain ⟨t, rfl⟩ := r; exact ⟨_, .int i t⟩
  | _, _, _, .str x, r => by obtain ⟨t, rfl⟩ := r; exact ⟨_, .str x t⟩
  | _, _, _, .tup (a := a) e rs, r => by
    cases r
    obtain ⟨z, its, rv, o, ho, hc, n, hd⟩ := ok a _ e
    obtain ⟨as, ra⟩ := RdVs.reads ok rs rv
    exact ⟨as, .tuple ho hc hd (by simpa using ra)⟩
theorem RdVs.reads {P : Program} {w : World} {H : Hp} {h : Heap} (ok : HOk P w H h) : ∀ {xs : List V} {ds : List PyData} {us : List Value}, RdVs H xs ds → Vals xs us → ∃ as, ReadsAll h us ds as
  | _, _, _, .nil, r => by cases r; exact ⟨_, .nil⟩
  | _, _, _, .cons a b, r => by
    cases r with
    | cons r1 r2 =>
      obtain ⟨as, h1⟩ := RdV.reads ok a r1
      obtain ⟨bs, h2⟩ := RdVs.reads ok b r2
      exact ⟨_, .cons h1 h2⟩
end
theorem RdVs.strs {H : Hp} : ∀ (xs : List Str), RdVs H (xs.map V.str) (xs.map PyData.str)
  | [] => .nil
  | x :: r => .cons (.str x) (RdVs.strs r)
section
variable {X : Cx}
noncomputable def rEqD (neg : Bool) : R2 := fun x y H Q => ∃ d e, RdV H x d ∧ RdV H y e ∧ PySem.SeqAt.shaped d = true ∧ PySem.SeqAt.shaped e = true ∧ Q (.bl (neg ^^ PyData.eqv d e)) H
theorem op_neD (hu : X.A.units + 64 < cLine) : OpR X (compareOp .NotEq) (rEqD true) := by
  intro pins s σ H x y v u Q I rx ry h
  obtain ⟨d, e, r1, r2, h1, h2, q⟩ := h
  obtain ⟨as, a⟩ := r1.reads I.hok rx
  obtain ⟨bs, b⟩ := r2.reads I.hok ry
  rw [Bool.true_xor] at q
  exact PySem.SeqAt.compareNe_shaped a b h1 h2 hu ⟨.bl _, H, I, rfl, q⟩
end
end L2
namespace ZT
open PySem PyProof.Rows
end ZT
namespace L2
open PySem PySem.Spec PyProof.Rows
end L2
namespace L2
open PySem PySem.Spec PyProof.Rows
theorem Same.new {H : Hp} {l : Addr} {o : HO} (h : H l = none) : Same H (upd H l o) := fun b u e => by
  rw [upd_ne (ne_of_none e h)]
  exact e
theorem Same.put {H H' : Hp} {l : Addr} {o : HO} (s : Same H H') (h : H l = none) : Same H (upd H' l o) := fun b u e => by
  rw [upd_ne (ne_of_none e h)]
  exact s b u e
structure Df (K : PySem.W.Frag) (mg : Str → Option Value) (x : Str) (st : Stmt) (ps : List Str) (f : Addr) (fd : FuncData) : Prop where
  F : Fun K x x st f fd
  m : mg x = some (.ref f)
  b : Binds K fd ps []
theorem lcJ {J : It} {n : Nat} {D : Addr} {ρ : St} {tc : TT} {te : TE} {fin : Hp → Prop} {H0 : Hp} (Pv : Nat → List V → Hp → Prop) (h0 : Pv 0 [] (upd H0 D (.lst [])))
    (go : ∀ i ys H, i < n → Pv i ys H → J.go i H) (stop : ∀ ys H, Pv n ys H → J.stop n H)
    (hs : ∀ i ys H x H1, i < n → Pv i ys H → J.yld i H x H1 → tc (some x :: ρ) H1 fun b H3 => if b = true then te (some x :: ρ) H3 fun y H4 => ∃ zs, H4 D = some (.lst zs) ∧ zs.length < sizeLine ∧ Pv (i + 1) (zs ++ [y]) (upd H4 D (.lst (zs ++ [y]))) else Pv (i + 1) ys H3)
    (hd : ∀ ys H, Pv n ys H → fin H) : ∃ W : Nat → Nat → List V → Hp → Prop, (∃ m, W 0 m [] (upd H0 D (.lst []))) ∧ tLcB J D (none :: ρ) (gName 0) tc te fin W := by
  refine ⟨fun i m ys H => m = n - i ∧ i ≤ n ∧ Pv i ys H, ⟨n, rfl, Nat.zero_le _, h0⟩, ?_⟩
  rintro i m ys H ⟨rfl, hi, p⟩
  by_cases hlt : i < n
  · refine .inr ⟨go i ys H hlt p, Pv (i + 1), fun ys' H' p' => ⟨n - (i + 1), by lia, rfl, hlt, p'⟩, fun x H1 y => ⟨⟨rfl, fun j v e => ?_⟩, hs i ys H x H1 hlt p y⟩⟩
    cases j with
    | zero => cases e
    | succ j => exact e
  · have e : i = n := by lia
    subst e
    exact .inl ⟨stop ys H p, hd ys H p⟩
theorem lc_yes {σ : St} {H : Hp} {A B : Hp → Prop} (h : A H) : tYes σ H fun b H3 => if b = true then A H3 else B H3 := by
  show if true = true then A H else B H
  rw [if_pos rfl]
  exact h
section
variable {X : Cx}
theorem ix_tupK (K : PySem.W.Frag) (h : X.K = K) : IxR X (rIxT K) := by
  subst h
  exact ix_tup
theorem call_tupK (K : PySem.W.Frag) (h : X.K = K) : CallR X (.type "tuple") (fun xs H Q => ∃ p ys, xs = [.ref p] ∧ ((SqL K H p ys ∧ ∀ l, H l = none → Q (.ref l) (upd H l (.tup ys))) ∨ (SqT K H p ys ∧ Q (.ref p) H))) := by
  subst h
  exact call_tuple_of
end
theorem bt_tuple : bootBuiltins "tuple" = some (.type "tuple") := by decide +kernel
theorem bt_isi : bootBuiltins "isinstance" = some (.builtin "isinstance") := by decide +kernel
end L2
namespace Tx
open PySem L2 PyProof.Rows
open PySem.PyData (strOk)
theorem ok_of {x : Str} (h : ∀ c ∈ x.cps.toList, c < 0x110000) : strOk x = true := by
  unfold strOk
  rw [Array.all_eq_true']
  intro c hc
  exact decide_eq_true (h c (by simpa using hc))
end Tx
namespace Rk
open PySem
noncomputable def cs (x : Str) : List Nat := x.cps.toList
theorem cs_app (x y : Str) : cs (x ++ y) = cs x ++ cs y := by
  show (x.cps ++ y.cps).toList = _
  rw [Array.toList_append]
  rfl
theorem cs_inj {x y : Str} (h : cs x = cs y) : x = y := by
  cases x with | mk a =>
  cases y with | mk b =>
  have : a = b := Array.toList_inj.mp h
  rw [this]
theorem cs_len (x : Str) : (cs x).length = x.length := by
  show x.cps.toList.length = x.cps.size
  exact Array.length_toList
end Rk
namespace Rk
open PySem
end Rk
namespace Rk
open PySem PyProof.Rows L2 Tx
end Rk
namespace Rk
open PySem PySem.Spec PyProof.Rows L2 Tx
end Rk
namespace SK
open PySem PyProof.Rows
noncomputable def dd {κ : Type} [DecidableEq κ] (val : Nat → κ) : Nat → List κ
  | 0 => []
  | i + 1 => if val i ∈ dd val i then dd val i else dd val i ++ [val i]
section
variable {κ : Type} [DecidableEq κ] {val : Nat → κ}
theorem dd_le : ∀ i : Nat, (dd val i).length ≤ i
  | 0 => Nat.le_refl _
  | i + 1 => by
    have ih := dd_le i
    show (if val i ∈ dd val i then dd val i else dd val i ++ [val i]).length ≤ i + 1
    split
    · lia
    · rw [List.length_append]
      show (dd val i).length + 1 ≤ i + 1
      lia
theorem dd_mem : ∀ {i : Nat} {x : κ}, x ∈ dd val i → ∃ j, j < i ∧ x = val j
  | 0, _, h => nomatch h
  | i + 1, x, h => by
    have h' : x ∈ (if val i ∈ dd val i then dd val i else dd val i ++ [val i]) := h
    split at h'
    · obtain ⟨j, hj, e⟩ := dd_mem h'
      exact ⟨j, by lia, e⟩
    · rcases List.mem_append.mp h' with z | z
      · obtain ⟨j, hj, e⟩ := dd_mem z
        exact ⟨j, by lia, e⟩
      · exact ⟨i, by lia, List.mem_singleton.mp z⟩
theorem dd_full {n : Nat} (inj : ∀ i j, i < n → j < n → val i = val j → i = j) : ∀ i : Nat, i ≤ n → (dd val i).length = i
  | 0, _ => rfl
  | i + 1, h => by
    have ih := dd_full inj i (by lia)
    show (if val i ∈ dd val i then dd val i else dd val i ++ [val i]).length = i + 1
    rw [if_neg, List.length_append, ih]
    · rfl
    · intro z
      obtain ⟨j, hj, e⟩ := dd_mem z
      have := inj i j (by lia) (by lia) e
      lia
theorem dd_step (i : Nat) (x : κ) : decide (x ∈ dd val (i + 1)) = (decide (x ∈ dd val i) || decide (x = val i)) := by
  show decide (x ∈ (if val i ∈ dd val i then dd val i else dd val i ++ [val i])) = _
  by_cases h : val i ∈ dd val i
  · rw [if_pos h]
    by_cases e : x = val i
    · subst e; simp [h]
    · simp [e]
  · rw [if_neg h]
    simp [List.mem_append]
theorem dd_size (i : Nat) : (dd val (i + 1)).length = if decide (val i ∈ dd val i) = true then (dd val i).length else (dd val i).length + 1 := by
  show (if val i ∈ dd val i then dd val i else dd val i ++ [val i]).length = _
  by_cases h : val i ∈ dd val i
  · rw [if_pos h, if_pos (decide_eq_true h)]
  · rw [if_neg h, if_neg (by simpa using h), List.length_append]
    rfl
end
section
variable {prog : Program} {w : World} {κ : Type} [DecidableEq κ] {knd : KeyKind prog w κ} {A : Around} {R : Result → Shared → Prop} {I : Addr} {fp wr : List Addr} {G : Array GenState → Array GenState → Prop} {n : Nat} {P : Nat → Value → Prop} {St : Nat → Shared → Prop}
theorem kept {S : Addr} {h h' : Heap} {f : κ → Bool} {m : Nat} (q : h.SetOf knd S f m) (e : ∀ o, h.get? S = some o → h'.get? S = some o) : h'.SetOf knd S f m := by
  obtain ⟨o, es, ep, t, ho, r⟩ := q
  exact ⟨o, es, ep, t, e o ho, r⟩
theorem congr' {S : Addr} {h : Heap} {f g : κ → Bool} {m k : Nat} (q : h.SetOf knd S f m) (e : ∀ x, f x = g x) (em : m = k) : h.SetOf knd S g k := by
  have : f = g := funext e
  subst this em
  exact q
theorem fill (W : WalksS prog w A.in1 I fp wr G n P St) (S : Addr) (nS : S ∉ fp) (val : Nat → κ) (hv : ∀ i v, P i v → knd.is (val i) v = true ∧ v.scannable = true) (hb : n + 1 < scanBound) :
    ∀ (k i : Nat) (s : Shared), n - i = k → i ≤ n → St i s → s.heap.SetOf knd S (fun x => decide (x ∈ dd val i)) (dd val i).length →
      (∀ s', Moved (S :: wr) G s s' → s'.heap.SetOf knd S (fun x => decide (x ∈ dd val n)) (dd val n).length → R (.ok (.ret .none)) s') →
      (codeAny (model prog w) A (.builtin "set.update.loop" ⟨[.ref S, .ref I], []⟩) R s) := by
  have nw : S ∉ wr := fun h => nS (W.sub _ h)
  have sub : ∀ b ∈ wr, b ∈ S :: wr := fun b z => List.mem_cons_of_mem _ z
  intro k
  induction k with
  | zero =>
    intro i s hk hi st hS fin
    obtain rfl : i = n := by lia
    refine codeAny_builtin PyProof.Rows.F.entry_set_update_loop ?_
    rw [Around.under_plainId PyProof.Rows.F.plain_set_update_loop _]
    refine wpAny_bind (m := pyNext (.ref I)) (W.done s _ _ st fun s1 hm => ?_)
    exact wpAny_pure (fin s1 (hm.mono sub) (kept hS fun o e => hm.heap S o nw e))
  | succ k ih =>
    intro i s hk hi st hS fin
    have lt : i < n := by lia
    refine codeAny_builtin PyProof.Rows.F.entry_set_update_loop ?_
    rw [Around.under_plainId PyProof.Rows.F.plain_set_update_loop _]
    refine wpAny_bind (m := pyNext (.ref I)) (W.item i s _ _ lt st fun v s1 hP st1 hm => ?_)
    obtain ⟨key, sc⟩ := hv i v hP
    refine wpAny_bind (m := holding [v] (setAdd S v)) (wpAny_holding ?_)
    unfold setAdd
    refine wpAny_holding (wpAny_bind (knd.pyHash (k := val i) key ?_))
    have room : (dd val i).length + 1 < scanBound := by have := dd_le (val := val) i; lia
    refine wpAny_setAddHashed_of (knd := knd) (s := { s1 with toks := s1.toks + 1 }) key sc (kept hS fun o e => hm.heap S o nw e) room fun h2 sb hS2 => ?_
    have hS3 : h2.SetOf knd S (fun x => decide (x ∈ dd val (i + 1))) (dd val (i + 1)).length := congr' hS2 (fun x => (dd_step i x).symm) (dd_size i).symm
    have oth : ∀ b o, b ≠ S → s1.heap.get? b = some o → h2.get? b = some o := fun b o z e => (sb.2 b z).trans e
    refine wpAny_pure ⟨plainId_quiet PyProof.Rows.F.plain_set_update_loop _, ih (i + 1) _ (by lia) lt (W.frame _ s1 h2 (s1.toks + 1) st1 (Nat.le_succ _) fun b hb o e => oth b o (fun z => nS (z ▸ hb)) e) hS3 fun s2 hm2 q => ?_⟩
    refine fin s2 (Moved.trans W.gtrans ((hm.mono sub).then_heap (Nat.le_succ _) fun b o hb e => oth b o (fun z => hb (z ▸ List.mem_cons_self)) e) hm2) q
end
section
variable {prog : Program} {w : World} {κ : Type} [DecidableEq κ] {knd : KeyKind prog w κ} {A : Around} {E : Value → Shared → Prop} {s : Shared}
noncomputable abbrev fset (led : Bool) : Obj := { cls := .type "set", dict := none, data := .set #[] 0 (.fresh 0 0 led) }
set_option maxHeartbeats 3300000 in
theorem make {l : Addr} {items : Array Value} {val : Nat → κ} {Q : Value → Shared → Prop} (hh : A.handled = none) (hl : s.heap.IsList l items) (hv : ∀ i v, items[i]? = some v → knd.is (val i) v = true ∧ v.scannable = true) (hb : items.size + 1 < scanBound)
    (q : ∀ (h' : Heap) (tk : Nat), h'.SetOf knd s.heap.objs.size (fun x => decide (x ∈ dd val items.size)) (dd val items.size).length → (∀ b o, s.heap.get? b = some o → h'.get? b = some o) → Q (.ref s.heap.objs.size) { s with heap := h', toks := tk }) :
    (wpAny (model prog w) A (call (.type "set") [.ref l]) Q E s) := by
  obtain ⟨c, tl, hmro⟩ := PySem.F.called_set.mro
  have hmade := PySem.F.called_set.made
  have hsub := PySem.F.called_set.sub
  refine wpAny_call (codeAny_of_tree (show wpAny _ _ (callAny (.type "set") _) _ _ _ from ?_))
  refine wpAny_pure ⟨Code.quiet_builtin _ (by decide +kernel), codeAny_builtin PySem.F.entry_type_call ?_⟩
  (rw [Around.under_plain (weight_type_call_type "set" [.ref l] []) rfl])
  have h1 := PySem.F.called_set.notType
  have h2 := PySem.F.called_set.canCreate
  have hct := PySem.F.typeCall_set_1 (.ref l)
  (repeat (any_goals (first | assumption | wp_step)))
  refine codeAny_mono (code_set_new_1 (.ref l) (E := E) (Q₁ := fun ob s1 => ∃ led : Bool, ob = .ref s.heap.objs.size ∧ s1 = { s with heap := s.heap.push { cls := .type "set", dict := none, data := .set #[] 0 (.fresh 0 0 led) } }) fun led => ⟨led, rfl, rfl⟩) fun r s1 hr => ?_
  cases r with
  | error e => exact hr
  | ok fl =>
    cases fl with
    | ret ob =>
      obtain ⟨led, rfl, rfl⟩ := hr
      have hS : (s.heap.push (fset led)).get? s.heap.objs.size = some (fset led) := Heap.get?_push_size _ rfl
      have hT : Shared.TypeIs { s with heap := s.heap.push (fset led) } (.ref s.heap.objs.size) "set" := ⟨_, hS, rfl⟩
      have hli := PySem.F.called_set.init.lookup
      have hbi := PySem.F.called_set.init.bind (.ref s.heap.objs.size)
      (repeat (any_goals (first | assumption | wp_step)))
      refine codeAny_mono (codeAny_call_builtin (R := wants (fun r s2 => r = .none ∧ ∃ h' tk, s2 = { s with heap := h', toks := tk } ∧ h'.SetOf knd s.heap.objs.size (fun x => decide (x ∈ dd val items.size)) (dd val items.size).length ∧
          (∀ b o, s.heap.get? b = some o → h'.get? b = some o)) E) PySem.F.called_set.init.plain PySem.F.entry_set_init (check_set_init_1 hT ?_)) fun r2 s2 hr2 => ?_
      · obtain ⟨⟨ocls, odict, odata, oslots⟩, hol, hcl, nl, hdl⟩ := hl
        simp only at hcl hdl
        subst hcl hdl
        have hol' : (s.heap.push (fset led)).get? l = some { cls := .type "list", dict := odict, data := .seq items nl, slots := oslots } := Heap.get?_push_of_some _ hol
        have x1 := PySem.F.sub_list_set
        have x2 := PySem.F.sub_list_frozenset
        have x3 : (Value.type "list" == Value.type "dict") = false := by decide
        have hl1 : (s.heap.push (fset led)).IsList l items := ⟨_, hol', rfl, nl, rfl⟩
        (unfold Builtin.«set.__init__» noKeywords Builtin.Frozenset.updateFrom)
        generalize hPI : pyIter = PI
        wp_walk
        subst hPI
        (refine wpAny_pyIter_list hl1 ?_)
        (refine wpAny_bind (wpAny_runValue ?_))
        have lt : l < s.heap.objs.size := Heap.lt_size hol
        have sz : (s.heap.push (fset led)).objs.size = s.heap.objs.size + 1 := Heap.size_push ..
        (have hh3 : A.in1.in1.in1.handled = none := by simp [hh])
        have ne1 : l ≠ (s.heap.push (fset led)).objs.size := by rw [sz]; exact Nat.ne_of_lt (Nat.lt_succ_of_lt lt)
        have nS : s.heap.objs.size ∉ [(s.heap.push (fset led)).objs.size, l] := by
          rw [sz]
          simp only [List.mem_cons, List.not_mem_nil, or_false, not_or]
          exact ⟨Nat.ne_of_lt (Nat.lt_succ_self _), Nat.ne_of_gt lt⟩
        refine fill (knd := knd) ((Walks.list hh3 _ l ne1 items).toS) s.heap.objs.size nS val hv hb (items.size - 0) 0 _ (by lia) (Nat.zero_le _) ⟨⟨_, Heap.get?_push_size _ rfl, rfl, rfl⟩, hl1.push _⟩ ?_ fun s3 hm q3 => ?_
        · have g := Heap.get?_push_of_some ({ cls := .type "list_iterator", data := .fields #[.ref l, .int 0 0] } : Obj) hS
          exact congr' ((PyProof.Rows.setObjOf_fresh (knd := knd) led).setOf g (by unfold scanBound; lia)) (fun x => by simp [dd]) rfl
        · obtain ⟨h3, g3, d3, tk3, os3⟩ := s3
          obtain ⟨m1, m2, m3, m4, m5⟩ := hm
          have eg : g3 = s.gens := m2
          have ed : d3 = s.drawn := m3
          have es : os3 = s.os := m4
          subst eg ed es
          refine wpAny_pure (wpAny_pure ⟨rfl, h3, tk3, rfl, q3, fun b o e => m1 b o ?_ (Heap.get?_push_of_some _ (Heap.get?_push_of_some _ e))⟩)
          have lb : b < s.heap.objs.size := Heap.lt_size e
          rw [sz]
          simp only [List.mem_cons, List.not_mem_nil, or_false, not_or]
          exact ⟨Nat.ne_of_lt lb, Nat.ne_of_lt (Nat.lt_succ_of_lt lb)⟩
      · cases r2 with
        | error e => exact hr2
        | ok fl2 =>
          cases fl2 with
          | ret r =>
            obtain ⟨rfl, h', tk, rfl, a1, a2⟩ := hr2
            (repeat (any_goals (first | assumption | wp_step)))
            exact q _ _ a1 a2
          | _ => exact hr2.elim
    | _ => exact hr.elim
end
end SK
namespace L2
open PySem PySem.Spec PyProof.Rows
section
variable {X : Cx}
noncomputable def setO (P : Program) (w : World) (a : Addr) (n : Nat) : HO := .ext fun h => ∃ S, h.SetOf (mixKind P w) a S n
noncomputable def kAt (ks : List Key) (i : Nat) : Key := ks.getD i (.inl 0)
theorem call_setK (hc : X.calm = true) : CallR X (.type "set") (fun xs H Q => ∃ p ks, xs = [.ref p] ∧ SqL X.K H p (ks.map kV) ∧ ks.length ≤ 1000 ∧ ∀ a, H a = none → Q (.ref a) (upd H a (setO X.prog X.w a (SK.dd (kAt ks) ks.length).length))) := by
  intro pins s σ H xs us Q I r h
  obtain ⟨p, ks, rfl, hp, hk, q⟩ := h
  obtain ⟨u, rfl, ru⟩ := vals1 r
  cases ru
  obtain ⟨its, rv, pl, hz⟩ := I.list hp
  have hlen := rv.length
  rw [List.length_map] at hlen
  refine SK.make (knd := mixKind X.prog X.w) (val := kAt ks) (I.ok.hd hc) pl.isList (fun i v hv => ?_) (by rw [List.size_toArray]; unfold scanBound; lia) fun h' tk hS kp => ?_
  · have hi : its[i]? = some v := by simpa using hv
    have hib : i < ks.length := by
      have := (List.getElem?_eq_some_iff.mp hi).1
      lia
    obtain ⟨u', hu', ru⟩ := rv.get (i := i) (x := kV ks[i]) (by simp [hib])
    rw [hi] at hu'
    cases hu'
    have e : kAt ks i = ks[i] := by simp [kAt, List.getD, hib]
    rw [e]
    refine ⟨kV_is ru, ?_⟩
    cases hkk : ks[i] with
    | inl j => rw [hkk] at ru; obtain ⟨t, rfl⟩ := ru; rfl
    | inr y => rw [hkk] at ru; obtain ⟨t, rfl⟩ := ru; rfl
  · have es : its.toArray.size = ks.length := by simp [hlen]
    rw [es] at hS
    refine ⟨.ref _, _, I.laid (a := s.heap.objs.size) (o := setO X.prog X.w s.heap.objs.size (SK.dd (kAt ks) ks.length).length) kp (Nat.le_refl _) ⟨⟨_, hS⟩, ?_, fun h1 h2 f1 e => ?_⟩, rfl, q _ (I.hok.fresh (Nat.le_refl _))⟩
    · obtain ⟨o, _, _, _, e, _⟩ := hS
      exact ⟨o, e⟩
    · obtain ⟨S, z⟩ := f1
      exact ⟨S, SK.kept z e⟩
theorem call_lenS : CallR X (.builtin "len") (fun xs H Q => ∃ a n, xs = [.ref a] ∧ H a = some (setO X.prog X.w a n) ∧ Q (.int n) H) := by
  intro pins s σ H xs us Q I r h
  obtain ⟨a, n, rfl, ha, q⟩ := h
  obtain ⟨u, rfl, ru⟩ := vals1 r
  cases ru
  obtain ⟨⟨S, o, es, ep, t, ho, ex, hd, _, _, hb, hf, hn⟩, _, _⟩ := I.hok a _ ha
  refine call_len_set ho ex hd hf (by unfold scanBound at hb; lia) ⟨.int n, H, I.tok _, ⟨_, by rw [hn]⟩, q⟩
end
noncomputable def Its (x : Str) : It := ⟨fun i _ => i < x.cps.size, fun i H v H' => H' = H ∧ ∃ c, x.cps[i]? = some c ∧ v = .str ⟨#[c]⟩, fun i _ => x.cps.size ≤ i⟩
theorem turn_str {P : Program} {w : World} {K : PySem.W.Frag} {tg : Expr} (it : Addr) (x : Str) (t : Tok) : Turn P w K tg (Its x) [it] it (fun i h => h.IsStrIter it "str_ascii_iterator" x t i) where
  mem := by simp
  obj := fun i h st b hb => by
    have e : b = it := by simpa using hb
    subst e
    obtain ⟨o, e, c, d⟩ := st
    exact ⟨o, e, fun v z => by rw [d] at z; cases z⟩
  keep := fun i h h' st k => by
    obtain ⟨o, e, r⟩ := st
    exact ⟨o, k it (by simp) o e, r⟩
  item := by
    intro X hP hw hK hc i pins s σ H E I hf st hg
    subst hP hw hK
    obtain ⟨f0, f1, f2, f3, f4, f5⟩ := hf it (by simp)
    have hi : i < x.cps.size := hg
    refine wpAny_pyNext_ascii_item st (c := x.cps[i]) (by simp [hi]) fun h' st' sb => ?_
    have I1 : Inv X pins σ H { s with heap := h', toks := s.toks + 1 } := I.turned (fun b o hb e => (sb.2 b hb).trans e) f0 f1 f3 f4 f5
    obtain ⟨o, e, c, d⟩ := id st'
    exact ⟨_, rfl, go_of (s := { s with heap := h', toks := s.toks + 1 }) e c d (by decide) ⟨.str ⟨#[x.cps[i]]⟩, H, I1, ⟨_, rfl⟩, ⟨rfl, _, by simp [hi], rfl⟩, st', fun b hb => (hf b hb).1⟩⟩
  done := by
    intro X hP hw hK hc i pins s σ H E I hf st hg
    subst hP hw hK
    obtain ⟨f0, f1, f2, f3, f4, f5⟩ := hf it (by simp)
    have hi : x.cps.size ≤ i := hg
    exact wpAny_pyNext_ascii_end (I.ok.hd hc) st (by simp [hi]) fun h' eb => ⟨rfl, I.turned (t' := s.toks) (fun b o hb e => eb b o hb e) f0 f1 f3 f4 f5⟩
  self := fun _ _ _ _ _ st h => wpAny_pyIter_striter_ascii st h
noncomputable def iStr (tl : TE) : TI := fun σ H R => tl σ H fun v H1 => ∃ x, v = .str x ∧ x.cps.all (· < 128) = true ∧ R (Its x) H1
theorem pi_str {X : Cx} {tg l : Expr} {tl : TE} (hl : PE X l tl) : PI X tg l (iStr tl) := by
  intro pins s σ H R I h
  refine thn (hl pins s σ H _ I h) fun v s1 hp0 => ?_
  obtain ⟨y, H1, I1, r1, q1⟩ := hp0
  obtain ⟨x, e, ha, q⟩ := q1
  subst e
  obtain ⟨t, rfl⟩ := r1
  refine wpAny_pyIter_ascii ha ⟨s1.heap.objs.size, [s1.heap.objs.size], _, _, H1, rfl, I1.kept (t' := s1.toks) fun b o e => Heap.get?_push_of_some _ e, turn_str _ x t, ⟨_, Heap.get?_push_size _ rfl, rfl, rfl⟩, fun b hb => ?_, q⟩
  have e : b = s1.heap.objs.size := by simpa using hb
  subst e
  exact I1.fpOk (Nat.le_refl _) (I1.hok.fresh (Nat.le_refl _))
end L2
namespace ZN
open PySem PyProof.Rows
end ZN
namespace ZN
open PySem PyProof.Rows
end ZN
namespace L2
open PySem PySem.Spec PyProof.Rows
end L2
namespace L2
open PySem PySem.Spec PyProof.Rows
theorem rel_abs {u : Value} {v : V} (h : absV u = some v) : RelV v u := by
  cases u with
  | none => cases h; rfl
  | bool b => cases h; rfl
  | int i t => cases h; exact ⟨t, rfl⟩
  | str x t => cases h; exact ⟨t, rfl⟩
  | bytes b t => cases h; exact ⟨t, rfl⟩
  | float b t => cases h; exact ⟨t, rfl⟩
  | ref a => cases h; rfl
  | type n => cases h; rfl
  | _ => cases h
section
variable {X : Cx}
theorem empty_app (x : Str) : Str.empty ++ x = x := by
  cases x with | mk a =>
  show Str.mk (#[] ++ a) = Str.mk a
  rw [Array.empty_append]
theorem strsAre_of : ∀ {ys : List Str} {us : List Value}, Vals (ys.map V.str) us → StrsAre us ys
  | [], _, h => by cases h; exact .nil
  | y :: ys, _, h => by
    cases h with
    | cons r t =>
      obtain ⟨tk, rfl⟩ := r
      exact .cons y tk (strsAre_of t)
theorem mt_join : MtR X "str.join" (fun x xs H Q => ∃ a p ys, x = .str a ∧ xs = [.ref p] ∧ SqL X.K H p (ys.map V.str) ∧ (ys.map (·.length)).sum + ys.length * a.length ≤ 16777216 ∧ Q (.str (Txt.join a ys)) H) := by
  intro pins s σ H x xs v us Q I rx rv h
  obtain ⟨a, p, ys, rfl, rfl, hp, hz, q⟩ := h
  obtain ⟨t, rfl⟩ := rx
  obtain ⟨u, rfl, ru⟩ := vals1 rv
  cases ru
  obtain ⟨its, r, pl, _⟩ := I.list hp
  exact join_list pl.isList (by simpa using strsAre_of r) hz fun t' k => ⟨.str _, H, I.tok k, ⟨t', rfl⟩, q⟩
theorem call_isiS : CallR X (.builtin "isinstance") (fun xs H Q => ∃ x, xs = [.str x, .ty "str"] ∧ Q (.bl true) H) := by
  intro pins s σ H xs us Q I r h
  obtain ⟨x, rfl, q⟩ := h
  obtain ⟨u1, u2, rfl, ⟨t, rfl⟩, r2⟩ := vals2 r
  cases r2
  exact PySem.IsiPair.str_str ⟨.bl true, H, I, rfl, q⟩
end
theorem bt_list : bootBuiltins "list" = some (.type "list") := by decide +kernel
theorem bt_set : bootBuiltins "set" = some (.type "set") := by decide +kernel
theorem bt_str : bootBuiltins "str" = some (.type "str") := by decide +kernel
end L2
namespace ZN
open PySem PyProof.Rows
end ZN
namespace L2
open PySem PySem.Spec PyProof.Rows
end L2
namespace ZN
open PySem PyProof.Rows
end ZN
namespace L2
open PySem PySem.Spec PyProof.Rows
section
variable {X : Cx}
theorem rd_list {P : Program} {w : World} {H : Hp} {h : Heap} (ok : HOk P w H h) {a : Addr} {xs : List Str} (e : H a = some (.lst (xs.map V.str))) : ∃ as, Reads h (.ref a) (.list (xs.map PyData.str)) as := by
  obtain ⟨z, its, n, r, ho⟩ := ok a _ e
  obtain ⟨as, ra⟩ := RdVs.reads ok (RdVs.strs (H := H) xs) r
  exact ⟨_, .list ho rfl rfl (by simpa using ra)⟩
theorem call_isiT : CallR X (.builtin "isinstance") (fun xs H Q => ∃ a ys, xs = [.ref a, .ty "tuple"] ∧ H a = some (.tup ys) ∧ Q (.bl true) H) := by
  intro pins s σ H xs us Q I r h
  obtain ⟨a, ys, rfl, ha, q⟩ := h
  obtain ⟨u1, u2, rfl, r1, r2⟩ := vals2 r
  cases r1
  cases r2
  obtain ⟨z2, its2, r2, o, ho, hc, n2, hd⟩ := I.hok a _ ha
  exact PySem.IsiPair.tuple_tuple ho hc ⟨.bl true, H, I, rfl, q⟩
end
end L2
namespace L2
open PySem PySem.Spec PyProof.Rows
end L2
namespace L2
open PySem PySem.Spec PyProof.Rows PySem.W
section
variable {P : Program} {w : World}
theorem ObjOk.there {H : Hp} {h : Heap} {a : Addr} {o : HO} (x : ObjOk P w H h a o) : ∃ ob, h.get? a = some ob := by
  cases o with
  | lst xs => obtain ⟨_, _, _, _, e⟩ := x; exact ⟨_, e⟩
  | tup xs => obtain ⟨_, _, _, ob, e, _⟩ := x; exact ⟨_, e⟩
  | dK kvs => obtain ⟨_, _, _, _, o, _, _, e, _⟩ := x; exact ⟨_, e⟩
  | dT kvs => obtain ⟨_, _, _, _, o, _, _, e, _⟩ := x; exact ⟨_, e⟩
  | set S n => obtain ⟨o, _, _, _, e, _⟩ := x; exact ⟨_, e⟩
  | ins C dx fs => obtain ⟨_, _, _, e, _⟩ := x; exact ⟨_, e⟩
  | own y => exact x
  | xd fs => obtain ⟨_, ⟨_, _, _, e, _⟩, _⟩ := x; exact ⟨_, e⟩
  | rng lo hi => obtain ⟨_, _, _, e⟩ := x; exact ⟨_, e⟩
  | frz ob u => obtain ⟨e, _⟩ := x; exact ⟨_, e⟩
  | tbl ps => exact ⟨_, x⟩
  | met f y => exact ⟨_, x⟩
  | ext φ => obtain ⟨_, e, _⟩ := x; exact e
structure Fly (P : Program) (w : World) (outer : List Env) (H : Hp) (s : Shared) (a : Addr) (H' : Hp) (B : Heap) (s' : Shared) : Prop where
  os : s'.os = s.os
  bare : AllBare s'.gens
  un : Un (frs outer) [] H H' s.heap s'.heap
  hok : HOk P w H' s'.heap
  funs : s'.heap.FunFrames B outer
  new : H' a = none
  fresh : s.heap.get? a = none
  k1 : ∀ b o, s.heap.get? b = some o → H b = none → b ∉ frs outer → B.get? b = some o
  k2 : ∀ c v, H' c ≠ none → s'.heap.get? c = some v → B.get? c = some v
  k3 : ∀ b o, s.heap.get? b = some o → b ∉ frs outer → ∃ o', B.get? b = some o'
noncomputable def CXe (P : Program) (w : World) : CXT := fun outer H s E e s' => ∃ (a C t : Addr) (H' : Hp) (B : Heap), e = .ref a ∧ Fly P w outer H s a H' B s' ∧ Heap.FlyingW B outer a (.ref C) (.ref t) s'.heap ∧ E e (some C) H'
theorem fly_on {X : Cx} {pins : List (Addr × Obj)} {σ : St} {H H' : Hp} {s s' : Shared} {a C : Addr} {B h' : Heap} {env : Env} {outer : List Env} (I : Inv X pins σ H s) (hex : X.ex = []) (hst : X.stack = env :: outer) (hout : X.outer = outer) (hf : env.frame = some X.env.locals)
    (F : Fly X.prog X.w X.stack H s a H' B s') {t : Addr} (hfl : Heap.FlyingW B outer a (.ref C) (.ref t) h') (ups : s'.heap.UpToSlots h') : Fly X.prog X.w outer X.H₀ X.s₀ a H' B { s' with heap := h' } := by
  subst hout
  have hsub : ∀ b, b ∈ X.fs → b ∈ frs X.stack := fun b hb => by
    rw [hst]
    unfold frs
    rw [List.filterMap_cons, hf]
    exact List.mem_cons_of_mem _ hb
  have hmem : ∀ b, b ∈ frs X.stack → b = X.env.locals ∨ b ∈ X.fs := fun b hb => by
    rw [hst] at hb
    unfold frs at hb
    rw [List.filterMap_cons, hf] at hb
    exact List.mem_cons.mp hb
  have hold : ∀ b o, X.s₀.heap.get? b = some o → b ≠ X.env.locals := fun b o e z => by
    have h1 := Heap.lt_size e
    rw [z] at h1
    exact absurd (Nat.lt_of_lt_of_le h1 I.ok.above) (Nat.lt_irrefl _)
  have nex : ∀ b : Addr, b ∉ X.ex := fun b z => by rw [hex] at z; cases z
  have hout2 : ∀ b o, X.s₀.heap.get? b = some o → b ∉ X.fs → b ∉ frs X.stack := fun b o e hb z => by
    rcases hmem b z with q | q
    · exact hold b o e q
    · exact hb q
  have k1 : ∀ b o, X.s₀.heap.get? b = some o → X.H₀ b = none → b ∉ X.fs → B.get? b = some o := fun b o e n hb =>
    F.k1 b o (I.base.keep b o e n hb (nex b)) (I.base.free b o e n (nex b)) (hout2 b o e hb)
  have hok : HOk X.prog X.w H' h' := fun b u e => (F.hok b u e).stay (fun c v hc q => hfl.1 c v (F.k2 c v (by
    rcases hc with z | z
    · rw [z, e]; intro z; cases z
    · rw [z]; intro z; cases z) q)) (fun _ q => q) fun _ _ q => q
  have slot : ∀ b o, X.s₀.heap.get? b = some o → X.H₀ b = none → b ∈ X.fs → ∃ sl, h'.get? b = some { o with slots := sl } := fun b o e n hb => by
    obtain ⟨sl, e1⟩ := I.base.slot b o e n hb (nex b)
    obtain ⟨sl2, e2⟩ := F.un.slot b _ e1 (I.base.free b o e n (nex b)) (hsub b hb) (by simp)
    obtain ⟨_, o', ho', hd⟩ := F.funs.mem (hsub b hb)
    rw [e2] at ho'
    cases ho'
    obtain ⟨sl3, e3⟩ := ups b _ e2 hd
    exact ⟨sl3, e3⟩
  have free : ∀ b o, X.s₀.heap.get? b = some o → X.H₀ b = none → H' b = none := fun b o e n => by
    obtain ⟨sl, e1⟩ := I.base.any e n (nex b)
    exact F.un.free b _ e1 (I.base.free b o e n (nex b)) (by simp)
  have there : ∀ b o, X.s₀.heap.get? b = some o → ∃ o', h'.get? b = some o' := fun b o e => by
    by_cases hb : b ∈ X.fs
    · have n := I.ok.frf b hb
      obtain ⟨sl, q⟩ := slot b o e n hb
      exact ⟨_, q⟩
    · obtain ⟨o1, e1⟩ := I.base.there b o e (nex b)
      obtain ⟨o2, e2⟩ := F.k3 b o1 e1 (hout2 b o e hb)
      exact ⟨o2, hfl.1 b o2 e2⟩
  refine ⟨F.os.trans I.os, F.bare, ⟨fun b o e n hb _ => hfl.1 b o (k1 b o e n hb), fun b o e n hb _ => slot b o e n hb, fun b o e n _ => free b o e n, fun b o e _ => there b o e, fun b xs q => F.un.tups b xs (I.base.tups b xs q), fun b o u q => F.un.frzs b o u (I.base.frzs b o u q), fun b ps q => ?_⟩, hok, hfl.2.2.1, F.new, ?_, k1, fun c v hc q => ?_, fun b o e hb => ?_⟩
  · obtain ⟨m1, q1⟩ := I.base.tbls b ps q
    obtain ⟨m2, q2⟩ := F.un.tbls b _ q1
    exact ⟨m1 ++ m2, by rw [q2, Array.append_assoc]⟩
  · cases z : X.s₀.heap.get? a with
    | none => rfl
    | some o =>
      obtain ⟨o', e'⟩ := I.base.there a o z (nex a)
      rw [F.fresh] at e'
      cases e'
  · cases hu : H' c with
    | none => exact absurd hu hc
    | some u =>
      obtain ⟨v', hv'⟩ := (F.hok c u hu).there
      have hB := F.k2 c v' hc hv'
      have q' : h'.get? c = some v := q
      rw [hfl.1 c v' hB] at q'
      cases q'
      exact hB
  · obtain ⟨o1, e1⟩ := I.base.there b o e (nex b)
    exact F.k3 b o1 e1 (hout2 b o e hb)
theorem passE {P : Program} {w : World} {K : PySem.W.Frag} {mg : Str → Option Value} {base : Heap} {N : List Str} {qual : Str} {scope : Scope} {f : Addr} {cd : Value} {A : Around} {outer : List Env} {s0 : Shared} {H0 : Hp} {E : XK} :
    Passes (CXe P w) (cxOf (CXe P w) P w K mg base N qual scope f cd A outer s0 H0 E) E := by
  intro pins σ H s e s' I h
  obtain ⟨a, C, t, H', B, rfl, F, hfl, q⟩ := h
  exact wpAny_leaves_onW I.ok.frames rfl hfl fun h' hfl' ups => ⟨a, C, t, H', B, rfl, fly_on I rfl rfl rfl rfl F hfl' ups, hfl', q⟩
noncomputable def ExcAt (h : Heap) (C : Addr) (bmB : List Value) (newId : String) (bm : List Value) : Prop :=
  ∃ (N : Addr) (nm qn : Str) (bs : List Value) (hdct : Bool) (sn : List Str) (sub : List Value) (ab : Bool) (col : Option Bool) (dd : Option Addr) (k0 k1 k2 k3 k5 : Option Value) (mN : Str → Option Value),
    h.get? C = some (excClassObj nm qn C N bs bm hdct sn sub ab col dd k0 k1 k2 k3 k5 newId) ∧ h.Ns N mN ∧ mN "__init__" = none ∧ OwnTail h bmB bm
theorem own_in {K : Frag} {h : Heap} {C : Addr} {bmB : List Value} {newId : String} (X : K.In h) (g : excIn K C bmB newId = true) : ∃ bm, ExcAt h C bmB newId bm := by
  unfold excIn at g
  split at g
  · rename_i dict0 cls0 slots0 at0
    split at g
    · rename_i first0 tail0 a0 a1 a2 a3 new0 a5 mro0 list0
      have g' := g
      simp only [Bool.and_eq_true, beq_iff_eq, Bool.not_eq_true'] at g'
      obtain ⟨⟨⟨⟨⟨r1, r2⟩, r3⟩, r4⟩, r5⟩, r6⟩ := g'
      subst r1 r2
      obtain ⟨c1, c2, c3, c4, c5, c6, c7, c8, c9, c10, c11⟩ := cls0
      dsimp only at mro0 r3 r5 r6
      subst mro0 r3
      have slots1 : slots0 = #[a0, a1, a2, a3, some (.builtin new0), a5] := Array.toList_inj.mp list0
      subst slots1
      exact ⟨tail0, c4, c1, c5, c2, c6, c7, c8, c9, c10, dict0, a0, a1, a2, a3, a5, _, X _ _ at0, .of_isNs (isNs_of_in X r5), nsMap_none_of_in X r5 r6, tail_of_in X r4⟩
    · cases g
  · cases g
abbrev bmV : List Value := [.type "ValueError", .type "Exception", .type "BaseException", .type "object"]
noncomputable def tRaise (t : TA) (E : XK) (C : Addr) : TS := fun _ σ H => t σ H fun vs H1 => vs.length ≤ 1000 ∧ ∀ a, H1 a = none → E (.ref a) (some C) H1
theorem ps_raise {P : Program} {w : World} {K : PySem.W.Frag} {mg : Str → Option Value} {base : Heap} {N : List Str} {qual : Str} {scope : Scope} {f : Addr} {cd : Value} {A : Around} {outer : List Env} {s0 : Shared} {H0 : Hp} {E : XK} {C : Addr} {x : Str} {np cpos pos : Pos} {e₀ : Expr} {es : List Expr} {t : TA}
    (ow : excIn K C bmV "ValueError.__new__" = true) (hg : Gl (cxOf (CXe P w) P w K mg base N qual scope f cd A outer s0 H0 E) x) (hm : mg x = some (.ref C)) (ha : PA (cxOf (CXe P w) P w K mg base N qual scope f cd A outer s0 H0 E) (e₀ :: es) t)
    (he : starEach (e₀ :: es) (envOfC qual scope s0.heap.objs.size f cd) = (false, eval e₀ (envOfC qual scope s0.heap.objs.size f cd)) :: starEach es (envOfC qual scope s0.heap.objs.size f cd) := by rfl)
    (hpl : (backTo cpos (starEach es (envOfC qual scope s0.heap.objs.size f cd))).any (·.1) = false := by rfl) (hdb : (x == ("__debug__" : Str)) = false := by decide) :
    PS (cxOf (CXe P w) P w K mg base N qual scope f cd A outer s0 H0 E) (.Raise (some (.Call (.Name x np) (e₀ :: es) [] cpos)) none pos) (tRaise t E C) := by
  intro pins s σ H D I hw
  obtain ⟨bm, NN, nm, qn, bs, hdct, sn, sub, ab, col, dd, k0, k1, k2, k3, k5, mN, hC, hN, hni, TL⟩ := own_in I.ok.mod.kin ow
  refine wpAny_Raise_call_subT (C := C) (nm := nm) (q := qn) (N := NN) (bs := bs) (bm := bm) (hdct := hdct) (sn := sn) (sub := sub) (ab := ab) (col := col) (dd := dd) (k0 := k0) (k1 := k1) (k2 := k2) (k3 := k3) (k5 := k5)
    F.excBase_ValueError (mN := mN) (TL.hasType F.excBase_ValueError.hasBase) (I.ok.hd rfl) ?_ hni (ld_glob I hg hm ⟨rfl, ?_⟩ hdb)
  · show (backTo cpos (starEach (e₀ :: es) (envOfC qual scope s0.heap.objs.size f cd))).any (·.1) = false
    rw [he]
    show (false || (backTo cpos (starEach es (envOfC qual scope s0.heap.objs.size f cd))).any (·.1)) = false
    rw [hpl]
    rfl
  have h0 := ha cpos pins s σ H _ I hw
  show wpAny (model P w) _ (evalArgs (.ref C) true (backTo cpos (starEach (e₀ :: es) (envOfC qual scope s0.heap.objs.size f cd))) []) _ _ s
  have h1 : wpAny (model P w) (A.deeper (envOfC qual scope s0.heap.objs.size f cd)) (spliced (backTo cpos (starEach (e₀ :: es) (envOfC qual scope s0.heap.objs.size f cd)))) _ _ s := h0
  rw [he] at h1 ⊢
  refine Calls.evalArgs_plain (wpAny_mono h1 (fun us s2 hp0 => ?_) fun _ _ y => y)
  obtain ⟨vs, H1, I1, r, hz, q⟩ := hp0
  have hus := r.length
  have hsl : sizeLine = 16777216 := sizeLine_eq
  refine ⟨rfl, by show us.length ≤ sizeLine; lia, I1.bk _ _ hC, hN.keeps I1.bk, TL.keeps I1.bk, fun h' e hx => ?_⟩
  -- it leaves the frame
  have hin : ∀ env ∈ (envOfC qual scope s0.heap.objs.size f cd :: outer), ∀ b, env.frame = some b → b ∈ frs (envOfC qual scope s0.heap.objs.size f cd :: outer) := fun env hm b hb => List.mem_filterMap.mpr ⟨env, hm, hb⟩
  have funs : s2.heap.FunFrames (hideAll s2.heap (frs (envOfC qual scope s0.heap.objs.size f cd :: outer))) (envOfC qual scope s0.heap.objs.size f cd :: outer) := funFrames_hide I1.stack hin
  have hfree := I1.stkFree
  have hnew : H1 e = none := by
    cases z : H1 e with
    | none => rfl
    | some u =>
      obtain ⟨ob, q⟩ := (I1.hok e u z).there
      rw [hx.new] at q
      cases q
  refine wpAny_leaves_madeW I1.ok.frames rfl (fun b o q => of_hideAll _ q) funs hx fun h'' t' hfl htup hnt ups => ?_
  refine ⟨e, C, t', H1, _, rfl, fly_on (s' := { s2 with heap := h' }) I1 rfl rfl rfl rfl ⟨rfl, I1.bare, Un.kept hx.keeps, I1.hok.kept hx.keeps, funs.of_keeps (fun b o hb _ => ⟨o, hx.keeps b o hb, rfl⟩), hnew, hx.new, fun b o q _ hb => hideAll_get _ q hb, fun c v hc q => ?_, fun b o q hb => ⟨o, hideAll_get _ q hb⟩⟩ hfl ups, hfl, q e hnew⟩
  cases z : H1 c with
  | none => exact absurd z hc
  | some u =>
    obtain ⟨ob, q2⟩ := (I1.hok c u z).there
    have q3 : h'.get? c = some v := q
    rw [hx.keeps c ob q2] at q3
    cases q3
    exact hideAll_get _ q2 fun hb => by
      have := hfree c hb
      rw [z] at this
      cases this
end
end L2
namespace L2
open PySem PySem.Spec PyProof.Rows PySem.W
noncomputable abbrev Cx.at' (X : Cx) (pn : List (Addr × Obj)) (xe : Value → Shared → Prop) : Cx := { X with pn := pn, xe := xe }
noncomputable abbrev Cx.held (X : Cx) (a : Addr) (xe : Value → Shared → Prop) : Cx := { X with A := X.A.mark (some (.ref a)), calm := false, xe := xe }
section
variable {X : Cx} {pins : List (Addr × Obj)} {σ : St} {H : Hp} {s : Shared}
theorem Inv.at' (I : Inv X pins σ H s) (xe : Value → Shared → Prop) : Inv (X.at' (X.pn ++ pins) xe) [] σ H s :=
  ⟨⟨I.ok.mod, I.ok.kind, I.ok.glob, I.ok.blt, I.ok.above, I.ok.inj, I.ok.has, I.ok.cab, I.ok.hd, I.ok.frames, I.ok.stk, I.ok.exf, I.ok.bs, I.ok.bsz, I.ok.noex, I.ok.exfs, I.ok.funs, I.ok.frf⟩, I.os, I.bare, I.base, I.loc, I.cell, I.free, I.freeC,
    fun p hp => I.pin p (by rw [List.append_nil] at hp; exact hp), I.hok, I.len⟩
theorem Inv.unat {pins' : List (Addr × Obj)} {xe : Value → Shared → Prop} (ok : X.Ok) (I : Inv (X.at' (X.pn ++ pins) xe) pins' σ H s) : Inv X pins σ H s :=
  ⟨ok, I.os, I.bare, I.base, I.loc, I.cell, I.free, I.freeC, fun p hp => I.pin p (List.mem_append_left _ hp), I.hok, I.len⟩
theorem Inv.held (I : Inv X pins σ H s) (a : Addr) (xe : Value → Shared → Prop) : Inv (X.held a xe) pins σ H s :=
  ⟨⟨I.ok.mod, I.ok.kind, I.ok.glob, I.ok.blt, I.ok.above, I.ok.inj, I.ok.has, I.ok.cab, (fun z => nomatch z), I.ok.frames, I.ok.stk, I.ok.exf, I.ok.bs, I.ok.bsz, I.ok.noex, I.ok.exfs, I.ok.funs, I.ok.frf⟩, I.os, I.bare, I.base, I.loc, I.cell, I.free, I.freeC, I.pin, I.hok, I.len⟩
theorem Inv.unheld {a : Addr} {xe : Value → Shared → Prop} (ok : X.Ok) (I : Inv (X.held a xe) pins σ H s) : Inv X pins σ H s :=
  ⟨ok, I.os, I.bare, I.base, I.loc, I.cell, I.free, I.freeC, I.pin, I.hok, I.len⟩
end
theorem fly_here {P : Program} {w : World} {outer : List Env} {H H' : Hp} {s s' : Shared} {a : Addr} {B h' : Heap} (F : Fly P w outer H s a H' B s') (hfree : ∀ b ∈ frs outer, H b = none) (k : B.StaysIn h') (ups : s'.heap.UpToSlots h') :
    Un (frs outer) [] H H' s.heap h' ∧ HOk P w H' h' := by
  have slot : ∀ b o, s.heap.get? b = some o → H b = none → b ∈ frs outer → ∃ sl, h'.get? b = some { o with slots := sl } := fun b o e n hb => by
    obtain ⟨sl2, e2⟩ := F.un.slot b _ e n hb (by simp)
    obtain ⟨_, o', ho', hd⟩ := F.funs.mem hb
    rw [e2] at ho'
    cases ho'
    obtain ⟨sl3, e3⟩ := ups b _ e2 hd
    exact ⟨sl3, e3⟩
  refine ⟨⟨fun b o e n hb _ => k b o (F.k1 b o e n hb), fun b o e n hb _ => slot b o e n hb, F.un.free, fun b o e _ => ?_, F.un.tups, F.un.frzs, F.un.tbls⟩, fun b u e => (F.hok b u e).stay (fun c v hc q => k c v (F.k2 c v (by
    rcases hc with z | z
    · rw [z, e]; intro z; cases z
    · rw [z]; intro z; cases z) q)) (fun _ q => q) fun _ _ q => q⟩
  by_cases hb : b ∈ frs outer
  · obtain ⟨sl, q⟩ := slot b o e (hfree b hb) hb
    exact ⟨_, q⟩
  · obtain ⟨o2, e2⟩ := F.k3 b o e hb
    exact ⟨o2, k b o2 e2⟩
noncomputable def mroIn (K : Frag) (C G : Addr) : Bool := match K.lookup C with
  | some ⟨_, _, .cls cd, _⟩ => (cd.mro.drop 1).contains (.ref G)
  | _ => false
end L2
namespace L2
open PySem PySem.Spec PyProof.Rows PySem.W
section
variable {X : Cx}
theorem pe_fstrR {a : Str} {j : Nat} {p p2 pos : Pos} {e : Expr} {te : TE} (he : PE X e te) (ha : a.length ≤ 1000) :
    PE X (.JoinedStr [.Constant (.str a) j p, .FormattedValue e 114 none p2] pos) (fun σ H Q => te σ H fun v H1 => ∃ x, v = .str x ∧ (reprText x).length ≤ 100000 ∧ Q (.str (a ++ reprText x)) H1) := by
  intro pins s σ H Q I h
  have hs : sizeLine = 16777216 := sizeLine_eq
  refine JoinedStr_many (joinParts_cons (thn (pe_str (X := X) (x := a) (j := j) (pos := p) pins s σ H (fun v H1 => v = .str a ∧ H1 = H) I ⟨rfl, rfl⟩) fun u s1 hp0 => ?_))
  obtain ⟨v, H1, I1, r1, e1, e2⟩ := hp0
  subst e1 e2
  obtain ⟨t, rfl⟩ := r1
  have l1 : (Str.empty ++ a).length ≤ sizeLine := by rw [empty_app]; lia
  refine ⟨l1, joinParts_cons (wpAny_FormattedValue_repr (thn (he pins s1 σ H1 _ I1 h) fun u2 s2 hp0 => ?_))⟩
  obtain ⟨v2, H2, I2, r2, x, e3, lx, q⟩ := hp0
  subst e3
  obtain ⟨t2, rfl⟩ := r2
  have la : (a ++ reprText x).length = a.length + (reprText x).length := by
    show (a.cps ++ (reprText x).cps).size = _
    rw [Array.size_append]
    rfl
  refine wpAny_pyReprObj_str ?_ (by lia)
  refine formatField_str (fun t' tk => ?_) (by lia)
  have e4 : Str.empty ++ a ++ reprText x = a ++ reprText x := by rw [empty_app]
  refine ⟨by rw [e4]; lia, joinParts_nil ⟨.str (a ++ reprText x), H2, (I2.tok _), ⟨_, by rw [e4]⟩, q⟩ (by rw [e4]; lia)⟩
theorem call_isiL : CallR X (.builtin "isinstance") (fun xs H Q => ∃ a ys, xs = [.ref a, .ty "list"] ∧ H a = some (.lst ys) ∧ Q (.bl true) H) := by
  intro pins s σ H xs us Q I r h
  obtain ⟨a, ys, rfl, ha, q⟩ := h
  obtain ⟨u1, u2, rfl, r1, r2⟩ := vals2 r
  cases r1
  cases r2
  obtain ⟨z2, its2, n2, r2, ho⟩ := I.hok a _ ha
  exact PySem.IsiPair.list_list ho rfl ⟨.bl true, H, I, rfl, q⟩
theorem Fun.okE {P : Program} {w : World} {K : PySem.W.Frag} {mg : Str → Option Value} {base : Heap} {x qual : Str} {st : Stmt} {f : Addr} {fd : FuncData} {N ps : List Str} {k : Nat} {sp : Sp} (F : Fun K x qual st f fd) (S : FnScope N ps (defScope st)) (len : ∀ vs H Q E, sp vs H Q E → vs.length = ps.length)
    (hbody : ∀ (cdv : Value) (A : Around) (outer : List Env) (s : Shared) (H : Hp) (vs : List V) (Q : VK) (E : XK), Room k (A.deeper (envOfC qual (defScope st) s.heap.objs.size f cdv)) → sp vs H Q E →
      ∃ t, PSs (cxOf (CXe P w) P w K mg base N qual (defScope st) f cdv A outer s H E) (defBody st) t ∧ t { nx := fun _ H' => Q .non H', rt := Q } (start N vs) H) : FnOk P w K mg base (CXe P w) (k + 1) f fd ps sp := by
  obtain ⟨oc, od, kV, doc, pm, an, cdv, ct, osl, rfl, lk, hcd⟩ := F.ex
  exact fn_of lk hcd S len fun A outer s H vs Q E hr hsp => hbody cdv A outer s H vs Q E hr hsp
end
end L2
namespace L2
open PySem PySem.Spec PyProof.Rows
end L2
namespace L2
open PySem PySem.Spec PyProof.Rows
end L2
namespace L2
open PySem PySem.Spec PyProof.Rows
end L2
namespace SK
end SK
namespace L2
open PySem
theorem set_len {ps : List Str} (h : ps.Nodup) : (SK.dd (kAt (ps.map (Sum.inr : Str → Key))) (ps.map (Sum.inr : Str → Key)).length).length = ps.length := by
  have hk : (ps.map (Sum.inr : Str → Key)).length = ps.length := List.length_map ..
  rw [SK.dd_full (n := ps.length) (fun i j hi hj e => ?_) _ (by lia), hk]
  have ei : kAt (ps.map (Sum.inr : Str → Key)) i = Sum.inr ps[i] := by simp [kAt, List.getD, hi]
  have ej : kAt (ps.map (Sum.inr : Str → Key)) j = Sum.inr ps[j] := by simp [kAt, List.getD, hj]
  rw [ei, ej] at e
  exact (List.getElem_inj h).mp (Sum.inr.inj e)
end L2
namespace HT
open PySem PySem.Spec PyProof.Rows
end HT
namespace L2
open PySem PySem.Spec PyProof.Rows
section
variable {X : Cx}
theorem op_eqL (hu : X.A.units + 64 < cLine) : OpR X (compareOp .Eq) (fun x y H Q => ∃ (a b : Addr) (xs ys : List Str), x = .ref a ∧ y = .ref b ∧ H a = some (.lst (xs.map V.str)) ∧ H b = some (.lst (ys.map V.str)) ∧ PySem.SeqAt.shaped (.list (xs.map PyData.str)) = true ∧
    PySem.SeqAt.shaped (.list (ys.map PyData.str)) = true ∧ Q (.bl (PyData.eqv (.list (xs.map PyData.str)) (.list (ys.map PyData.str)))) H) := by
  intro pins s σ H x y v u Q I rx ry h
  obtain ⟨a, b, xs, ys, rfl, rfl, ha, hb, h1, h2, q⟩ := h
  cases rx
  cases ry
  obtain ⟨as, ra⟩ := rd_list I.hok ha
  obtain ⟨bs, rb⟩ := rd_list I.hok hb
  exact PySem.SeqAt.compareEq_shaped ra rb h1 h2 hu ⟨.bl _, H, I, rfl, q⟩
end
end L2
namespace ZT
open PySem PyProof.Rows
end ZT
namespace F17
open PySem
end F17
namespace L2
open PySem PySem.Spec PyProof.Rows
end L2
namespace SG
open PySem
end SG
namespace SG
open PySem
end SG
namespace SG
open PySem
open Sem (wp)
end SG
namespace SG
open PySem
end SG
namespace SG
open PySem PyProof.Rows
end SG
namespace SG
open PySem PyProof.Rows
end SG
namespace L2
open PySem PyProof.Rows
end L2
namespace L2
open PySem PyProof.Rows
end L2
namespace EN
open PySem PyProof.Rows
end EN
namespace L2
open PySem PyProof.Rows
end L2
namespace L2
open PySem PyProof.Rows
end L2
namespace DP
open PySem PyProof.Rows
end DP
namespace L2
open PySem PyProof.Rows
end L2
namespace LP
open PySem PyProof.Rows
end LP
namespace L2
open PySem PyProof.Rows
end L2
namespace SI
open PySem PySem.W PyProof.Rows
end SI
namespace L2
open PySem PySem.W PyProof.Rows
end L2
namespace L2
open PySem PySem.Spec PyProof.Rows PySem.W
section
variable {X : Cx}
theorem sz_app (a b : Str) : (a ++ b).length = a.length + b.length := by
  (show (a.cps ++ b.cps).size = _)
  rw [Array.size_append]
  rfl
end
end L2
namespace L2
open PySem PyProof.Rows
end L2
namespace L2
open PySem PySem.Spec PyProof.Rows PySem.W
section
variable {X : Cx}
noncomputable def rSlS : V → Option Int → Option Int → Hp → VK → Prop := fun x lo hi H Q => ∃ z, x = .str z ∧ z.length ≤ sizeLine ∧ Q (.str (Txt.slice z lo hi)) H
theorem IsPart.ex {v : Value} {o : Option Int} (p : IsPart v o) : ∃ q : Option (Int × Tok), v = partValue q ∧ q.map (·.1) = o := by
  cases p with
  | none => exact ⟨none, rfl, rfl⟩
  | int i t => exact ⟨some (i, t), rfl, rfl⟩
theorem sl_str : SlR X rSlS := by
  intro pins s σ H x v vl vu lo hi sl Q I rx hs pl pu h
  obtain ⟨z, rfl, hz, q⟩ := h
  obtain ⟨t, rfl⟩ := rx
  obtain ⟨ql, rfl, rfl⟩ := IsPart.ex pl
  obtain ⟨qu, rfl, rfl⟩ := IsPart.ex pu
  refine ⟨"str", _, F.slot_str_getitem.lookup, typeIs_str _ _ _, wpAny_getItem_str_slice (l := ql) (u := qu) (st := none) hs rfl ?_⟩
  exact post_val_or_str ⟨Nat.le_trans (Txt.slice_le z _ _) hz, fun t' k => ⟨.str _, H, I.tok _, ⟨_, rfl⟩, q⟩⟩
end
noncomputable def tTryN (len : Nat) (G : Addr) (tb : XK → TS) (th : TS) : TS := fun D σ H =>
  tb (fun e c H' => ∃ a, e = .ref a ∧ c = some G ∧ (H' a = none → th D (List.replicate len none) H')) D σ H
theorem ps_tryN {X : Cx} {G : Addr} {nG : String} {x : Str} {np hpos pos : Pos} {body : List Stmt} {b₀ : Stmt} {suite : List Stmt} {tb : XK → TS} {th : TS} (hex : X.ex = []) (hst : X.stack = X.env :: X.outer) (hfr : X.env.frame = some X.env.locals)
    (owG : excIn X.K G bmV nG = true) (hg : Gl X x) (hm : X.mg x = some (.ref G))
    (hb : ∀ pn xe E', Passes (CXe X.prog X.w) (X.at' pn xe) E' → PSs (X.at' pn xe) body (tb E')) (hs : ∀ a, PSs (X.held a fun _ _ => False) (b₀ :: suite) th) (hdb : (x == ("__debug__" : Str)) = false := by decide) :
    PS X (.Try body [.ExceptHandler (some (.Name x np)) none (b₀ :: suite) hpos] [] [] pos) (tTryN X.N.length G tb th) := by
  intro pins s σ H D I hw
  refine wpAny_Try_except (wpAny_mono (hb (X.pn ++ pins) (fun e s' => ∃ σ1 H1 s1, Inv X pins σ1 H1 s1 ∧ CXe X.prog X.w X.stack H1 s1 _ e s') _ (fun pins1 σ1 H1 s1 e s' I1 h => ⟨σ1, H1, s1, I1.unat I.ok, h⟩) [] s σ H D (I.at' _) hw) (fun f s1 h1 => ?_) (fun e s1 h1 => ?_))
  · cases f with
    | next => obtain ⟨σ', H', I', q⟩ := h1; exact pss_nil pins s1 σ' H' D (I'.unat I.ok) q
    | brk => obtain ⟨σ', H', I', q⟩ := h1; exact ⟨σ', H', I'.unat I.ok, q⟩
    | cont => obtain ⟨σ', H', I', q⟩ := h1; exact ⟨σ', H', I'.unat I.ok, q⟩
    | ret u => obtain ⟨v, σ', H', I', r, q⟩ := h1; exact ⟨v, σ', H', I'.unat I.ok, r, q⟩
  · obtain ⟨σ1, H1, s0, I1, a, C, t, H', B, rfl, F, hfl, a', e1, e2, q⟩ := h1
    cases e1
    cases e2
    have hfree := I1.stkFree
    have hframes : X.A.frames = some (X.env :: X.outer) := by rw [← hst]; exact I1.ok.frames
    rw [hst] at hfl
    refine wpAny_looks_onW hframes hfr hfl fun h4 held4 ups4 => ?_
    refine wpAny_landsW held4 fun h5 hfl5 ups5 => ?_
    have ups15 : s1.heap.UpToSlots h5 := ups4.trans ups5
    have know : ∀ (h' : Heap), B.StaysIn h' → s1.heap.UpToSlots h' → Inv X pins (List.replicate X.N.length none) H' { s1 with heap := h' } := fun h' k ups => by
      obtain ⟨u, hok⟩ := fly_here F hfree k ups
      have I2 : Inv X pins σ1 H' { s1 with heap := h' } := I1.call' (s' := { s1 with heap := h' }) (ch := []) F.os u hok F.bare (fun b z => nomatch z)
      exact I2.weak (by rw [List.length_replicate]; exact I1.len.symm) fun i v e => by
        rw [List.getElem?_replicate] at e
        split at e <;> cases e
    have I5 := know h5 hfl5.1 ups15
    obtain ⟨bmG, exG⟩ := own_in I5.kIn owG
    obtain ⟨N, nm, qn, bs, hdct, sn, sub, ab, col, dd, k0, k1, k2, k3, k5, mN, aG, _, _, tl⟩ := exG
    have hbaseG : bmG.contains (.type "BaseException") = true := tl.hasType PySem.F.excBase_ValueError.hasBase
    obtain ⟨oe, hoe, hoc⟩ := hfl5.there
    refine wpAny_handleBy_cons (codeAny_handlers_test (ld_glob (X := X.held a fun _ _ => False) (I5.held a _) hg hm ?_ hdb)) (by intro q; cases q)
    refine wpAny_excMatches_sub_self aG hoe hoc hbaseG (codeAny_handlers_suite ?_)
    refine lands_againW hfl5 fun h6 hfl6 ups6 => ?_
    have I6 := know h6 hfl6.1 (ups15.trans ups6)
    refine wpAny_mono (hs a pins { s1 with heap := h6 } _ _ D (I6.held a _) (q F.new)) (fun f s8 h8 => ?_) (fun _ _ z => z.elim)
    cases f with
    | next => obtain ⟨σ', H2, I9, q9⟩ := h8; exact ⟨σ', H2, I9.unheld I.ok, q9⟩
    | brk => obtain ⟨σ', H2, I9, q9⟩ := h8; exact ⟨σ', H2, I9.unheld I.ok, q9⟩
    | cont => obtain ⟨σ', H2, I9, q9⟩ := h8; exact ⟨σ', H2, I9.unheld I.ok, q9⟩
    | ret u => obtain ⟨v, σ', H2, I9, r, q9⟩ := h8; exact ⟨v, σ', H2, I9.unheld I.ok, r, q9⟩
end L2
namespace DPT
open PySem PyProof.Rows
end DPT
namespace L2
open PySem PySem.Spec PyProof.Rows PySem.W
end L2
namespace RV
open PySem PyProof.Rows
end RV
namespace L2
open PySem PySem.Spec PyProof.Rows PySem.W
end L2
namespace L2
open PySem PySem.Spec PyProof.Rows PySem.W
noncomputable def tTryC (sp : Sp) (t : TA) (G : Addr) (th : TS) : TS := fun D σ H => t σ H fun vs H1 => sp vs H1 (fun _ H2 => D.nx σ H2) (fun e c H' => ∃ a, e = .ref a ∧ c = some G ∧ (H' a = none → th D σ H'))
theorem ps_tryC {X : Cx} {G f : Addr} {nG : String} {k : Nat} {fd : FuncData} {ps : List Str} {sp : Sp} {x y : Str} {np p pos1 pos2 hpos pos : Pos} {e : Expr} {es : List Expr} {b₀ : Stmt} {suite : List Stmt} {t : TA} {th : TS} (hex : X.ex = []) (hst : X.stack = X.env :: X.outer) (hfr : X.env.frame = some X.env.locals)
    (owG : excIn X.K G bmV nG = true) (hg : Gl X x) (hm : X.mg x = some (.ref G)) (F : FnOk X.prog X.w X.K X.mg X.base (CXe X.prog X.w) k f fd ps sp) (hr : Room k X.A) (hgf : Gl X y) (hmf : X.mg y = some (.ref f)) (hkf : keepIn X.K (.ref f) = true) (hb : Binds X.K fd ps [])
    (ha : ∀ pn xe, PA (X.at' pn xe) (e :: es) t) (hs : ∀ a, PSs (X.held a fun _ _ => False) (b₀ :: suite) th) (hdb : (x == ("__debug__" : Str)) = false := by decide) (hdf : (y == ("__debug__" : Str)) = false := by decide)
    (he : starEach (e :: es) X.env = (false, eval e X.env) :: starEach es X.env := by rfl) (hpl : (backTo pos1 (starEach es X.env)).any (·.1) = false := by rfl) (hsw : swapsWith (.Call (.Name y p) (e :: es) [] pos1) none pos2.line X.env = pure false := by rfl) :
    PS X (.Try [.Expr (.Call (.Name y p) (e :: es) [] pos1) pos2] [.ExceptHandler (some (.Name x np)) none (b₀ :: suite) hpos] [] [] pos) (tTryC sp t G th) := by
  intro pins s σ H D I hw
  obtain ⟨E', eE⟩ : ∃ E' : XK, E' = fun e c H' => ∃ a, e = .ref a ∧ c = some G ∧ (H' a = none → th D σ H') := ⟨_, rfl⟩
  obtain ⟨xe, ex⟩ : ∃ xe : Value → Shared → Prop, xe = fun e s' => ∃ H1 s1, Inv X pins σ H1 s1 ∧ CXe X.prog X.w X.stack H1 s1 E' e s' := ⟨_, rfl⟩
  have J : Inv (X.at' (X.pn ++ pins) xe) [] σ H s := I.at' xe
  have body : wpAny (model X.prog X.w) X.A (execs [.Expr (.Call (.Name y p) (e :: es) [] pos1) pos2] X.env) (fun fl s1 => fl = .next ∧ ∃ H2, Inv X pins σ H2 s1 ∧ D.nx σ H2) xe s := by
    refine wpAny_execs_cons (wpAny_Expr_any ?_ I.quiet hsw)
    refine wpAny_Call_Name_kw (ld_glob (X := X.at' (X.pn ++ pins) xe) J hgf hmf ?_ hdf)
    refine PySem.W.callWith_K (h₀ := X.base) I.ok.mod.kin hkf (thn (ha (X.pn ++ pins) xe pos1 [] s σ H _ J hw) fun us s1 hp0 => ?_) he hpl
    obtain ⟨vs, H1, J1, r, q⟩ := hp0
    refine ⟨J1.kIn, ?_⟩
    have I1 : Inv X pins σ H1 s1 := J1.unat I.ok
    have hl : us.length = ps.length := by rw [← r.length]; exact F.len _ _ _ _ q
    have hbind := hb s1 us I1.kIn (by rw [List.append_nil]; exact hl)
    rw [List.append_nil] at hbind
    refine wpAny_call (codeAny_mono (F.run X.A X.stack s1 H1 ⟨us, []⟩ us vs _ E' hr I1.env0 hbind r (by rw [eE]; exact q)) fun rs s2 hq => ?_)
    cases rs with
    | error e' =>
      show xe e' s2
      rw [ex]
      exact ⟨H1, s1, I1, hq⟩
    | ok fl =>
      cases fl with
      | ret u =>
        obtain ⟨v, H2, I2, _, q2⟩ := I1.after hq
        exact wpAny_execs_nil ⟨rfl, H2, I2, q2⟩
      | next => exact False.elim hq
      | brk => exact False.elim hq
      | cont => exact False.elim hq
  refine wpAny_Try_except (wpAny_mono body (fun fl s1 ⟨ef, H2, I2, q⟩ => ?_) (fun e' s1 h1 => ?_))
  · subst ef
    exact pss_nil pins s1 σ H2 D I2 q
  · rw [ex, eE] at h1
    obtain ⟨H1, s0, I1, a, C, t', H', B, rfl, Fl, hfl, a', e1, e2, q⟩ := h1
    cases e1
    cases e2
    have hfree := I1.stkFree
    have hframes : X.A.frames = some (X.env :: X.outer) := by rw [← hst]; exact I1.ok.frames
    rw [hst] at hfl
    refine wpAny_looks_onW hframes hfr hfl fun h4 held4 ups4 => ?_
    refine wpAny_landsW held4 fun h5 hfl5 ups5 => ?_
    have ups15 : s1.heap.UpToSlots h5 := ups4.trans ups5
    have know : ∀ (h' : Heap), B.StaysIn h' → s1.heap.UpToSlots h' → Inv X pins σ H' { s1 with heap := h' } := fun h' k ups => by
      obtain ⟨u, hok⟩ := fly_here Fl hfree k ups
      exact I1.call' (s' := { s1 with heap := h' }) (ch := []) Fl.os u hok Fl.bare (fun b z => nomatch z)
    have I5 := know h5 hfl5.1 ups15
    obtain ⟨bmG, exG⟩ := own_in I5.kIn owG
    obtain ⟨N, nm, qn, bs, hdct, sn, sub, ab, col, dd, k0, k1, k2, k3, k5, mN, aG, _, _, tl⟩ := exG
    have hbaseG : bmG.contains (.type "BaseException") = true := tl.hasType PySem.F.excBase_ValueError.hasBase
    obtain ⟨oe, hoe, hoc⟩ := hfl5.there
    refine wpAny_handleBy_cons (codeAny_handlers_test (ld_glob (X := X.held a fun _ _ => False) (I5.held a _) hg hm ?_ hdb)) (by intro q; cases q)
    refine wpAny_excMatches_sub_self aG hoe hoc hbaseG (codeAny_handlers_suite ?_)
    refine lands_againW hfl5 fun h6 hfl6 ups6 => ?_
    have I6 := know h6 hfl6.1 (ups15.trans ups6)
    refine wpAny_mono (hs a pins { s1 with heap := h6 } _ _ D (I6.held a _) (q Fl.new)) (fun fl s8 h8 => ?_) (fun _ _ z => z.elim)
    cases fl with
    | next => obtain ⟨σ', H2, I9, q9⟩ := h8; exact ⟨σ', H2, I9.unheld I.ok, q9⟩
    | brk => obtain ⟨σ', H2, I9, q9⟩ := h8; exact ⟨σ', H2, I9.unheld I.ok, q9⟩
    | cont => obtain ⟨σ', H2, I9, q9⟩ := h8; exact ⟨σ', H2, I9.unheld I.ok, q9⟩
    | ret u => obtain ⟨v, σ', H2, I9, r, q9⟩ := h8; exact ⟨v, σ', H2, I9.unheld I.ok, r, q9⟩
end L2
namespace L2
open PySem PySem.Spec PyProof.Rows PySem.W
section
variable {X : Cx}
theorem call_isiC : CallR X (.builtin "isinstance") (fun xs H Q => ∃ (a C C' dx : Addr) (fs : List (Str × V)), xs = [.ref a, .ref C'] ∧ H a = some (.ins C dx fs) ∧ isIn X.K (.ref C) C' = true ∧ Q (.bl true) H) := by
  intro pins s σ H xs us Q I r h
  obtain ⟨a, C, C', dx, fs, rfl, ha, hb, q⟩ := h
  obtain ⟨u1, u2, rfl, r1, r2⟩ := vals2 r
  cases r1
  cases r2
  obtain ⟨_, _, _, ho, _⟩ := I.hok a _ ha
  exact isi_call I.kIn (fun M => (Looks.ld ho).andThen .now) hb (by intro z; cases z) ⟨.bl true, H, I, rfl, q⟩
noncomputable def tMakeO (C : Addr) : TE := fun _ H Q => ∀ x dx, H x = none → H dx = none → dx ≠ x → Q (.ref x) (upd (upd H dx (.own x)) x (.ins C dx []))
theorem pe_makeO {C : Addr} {x : Str} {p pos : Pos} (mk : makesIn X.K C = true) (hi : findIn X.K (.ref C) "__init__" = some (some (.builtin "object.__init__"))) (so : subIn X.K (.ref C) (.type "object") = some true) (kp : keepIn X.K (.ref C) = true) (hg : Gl X x) (hm : X.mg x = some (.ref C)) (hdb : (x == ("__debug__" : Str)) = false := by decide) :
    PE X (.Call (.Name x p) [] [] pos) (tMakeO C) := by
  intro pins s σ H Q I h
  refine wpAny_Call_Name_kw (ld_glob I hg hm ?_ hdb)
  refine PySem.W.callWith_K0 I.kIn kp (wpAny_call (make_map0 I.kIn mk hi (fun self => Looks.of_pure (oi_bind self)) ?_))
  have I2 := Inv.made (C := C) I
  have hq := h (s.heap.objs.size + 1) s.heap.objs.size (I.hok.fresh (Nat.le_succ _)) (I.hok.fresh (Nat.le_refl _)) (Nat.ne_of_lt (Nat.lt_succ_self _))
  have at1 : ((s.heap.push emptyDict).push (instObj C s.heap.objs.size)).get? (s.heap.objs.size + 1) = some (instObj C s.heap.objs.size) := by
    have z := Heap.get?_push_size (s.heap.push emptyDict) (o := instObj C s.heap.objs.size) rfl
    rwa [Heap.size_push] at z
  have ty : Looks (model X.prog X.w) ((s.heap.push emptyDict).push (instObj C s.heap.objs.size)) (typeOf (.ref (s.heap.objs.size + 1))) (.ref C) := (Looks.ld at1).andThen .now
  have inst : Looks (model X.prog X.w) ((s.heap.push emptyDict).push (instObj C s.heap.objs.size)) (isInstance (.ref (s.heap.objs.size + 1)) (.type "object")) true := ty.andThen (looks_subIn I2.kIn so)
  refine codeAny_call_builtin oi_plain entry_oi (@check_slot (model X.prog X.w) _ _ { s with heap := (s.heap.push emptyDict).push (instObj C s.heap.objs.size) } "object.__init__" "object" "__init__" (.ref (s.heap.objs.size + 1)) [] [] _ oi_kind oi_split inst (oi_args _) ?_)
  rw [oi_run]
  exact wpAny_pure ⟨rfl, .ref (s.heap.objs.size + 1), _, I2, rfl, hq⟩
noncomputable def tMethV (V' : Addr → Sp → Prop) (m : Str) (ta : TE) : TE := fun σ H Q => ta σ H fun x H1 => ∃ (a C dx : Addr) (fs : List (Str × V)) (sp : Sp), x = .ref a ∧ H1 a = some (.ins C dx fs) ∧ fs.lookup m = none ∧ V' C sp ∧ sp [.ref a] H1 Q E0
theorem pe_methV {V' : Addr → Sp → Prop} {m : Str} {o : Expr} {apos pos : Pos} {ta : TE} {pl : Sem Bool} (he : PE X o ta)
    (hV : ∀ C sp, V' C sp → ∃ (k : Nat) (f : Addr) (fd : FuncData) (ps : List Str), Cls X.K C ∧ Meth X.K C m f ∧ FnOk X.prog X.w X.K X.mg X.base CX0 k f fd ps sp ∧ Room k X.A ∧ Binds X.K fd ps [])
    (ht : eval (.Call (.Attribute o m apos) [] [] pos) X.env = (do
      let ov ← eval o X.env
      standAt apos.atName
      let (f, first) ← holding [ov] (getMethod ov m pl)
      callWith pos f first (backTo pos (starEach [] X.env)) (backToKw pos (keywordEach [] X.env))) := by rfl) :
    PE X (.Call (.Attribute o m apos) [] [] pos) (tMethV V' m ta) := by
  intro pins s σ H Q I h
  refine PySem.W.methodCall_KW (pl := pl) (thn (he pins s σ H _ I h) fun u s1 hp0 => ?_) ht
  obtain ⟨x, H1, I1, rx, a, C, dx, fs, sp, ex, ea, l, v, q⟩ := hp0
  subst ex
  obtain rfl : u = Value.ref a := rx
  obtain ⟨k, f, fd, ps, c, hm, F, hr, hb⟩ := hV C sp v
  refine getmeth_ok I1 ea c hm l ?_
  exact PySem.W.callWith_K0 (first := [.ref a]) I1.kIn hm.kp (run_fn (us := [.ref a]) (vs := [.ref a]) F hr hb .nil pass0 I1 (.cons rfl .nil) q)
end
end L2
namespace L2
open PySem PySem.Spec PyProof.Rows PySem.W
section
variable {X : Cx}
theorem mt_lstrip : MtR X "str.lstrip" (fun x xs H Q => ∃ a b, x = .str a ∧ xs = [.str b] ∧ a.length ≤ 1000000 ∧ Q (.str (Txt.lstripChars a b)) H) := by
  intro pins s σ H x xs v us Q I rx rv h
  obtain ⟨a, b, rfl, rfl, hz, q⟩ := h
  obtain ⟨t, rfl⟩ := rx
  obtain ⟨u, rfl, t', rfl⟩ := vals1 rv
  have hs : sizeLine = 16777216 := sizeLine_eq
  exact SC.lstripChars (fun t' k => ⟨.str _, H, I.tok _, ⟨_, rfl⟩, q⟩) (by lia)
theorem mt_partition : MtR X "str.partition" (fun x xs H Q => ∃ a b, x = .str a ∧ xs = [.str b] ∧ (b.length == 0) = false ∧ a.length ≤ 1000000 ∧ ∀ p, H p = none → Q (.ref p) (upd H p (.tup [.str (Txt.partition a b).1, .str (Txt.partition a b).2.1, .str (Txt.partition a b).2.2]))) := by
  intro pins s σ H x xs v us Q I rx rv h
  obtain ⟨a, b, rfl, rfl, hb, hz, q⟩ := h
  obtain ⟨t, rfl⟩ := rx
  obtain ⟨u, rfl, t', rfl⟩ := vals1 rv
  have hs : sizeLine = 16777216 := sizeLine_eq
  refine call_meets F.slot_str_partition (typeIs_str _ _ _) F.entry_str_partition (F.args_str_partition_2 _ _) (meets_str_partition a b t t' hb (by lia)) ?_
  have q' := q s.heap.objs.size (I.hok.fresh (Nat.le_refl _))
  unfold Txt.partition at q'
  revert q'
  have three : ∀ (x y z : Str) (t1 t2 t3 tk : Tok), Inv X pins σ (upd H s.heap.objs.size (.tup [.str x, .str y, .str z])) { s with toks := tk, heap := s.heap.push { cls := .type "tuple", data := .seq [Value.str x t1, Value.str y t2, Value.str z t3].toArray } } := fun x y z t1 t2 t3 tk =>
    I.laid (t' := tk) (fun b o e => Heap.get?_push_of_some _ e) (Nat.le_refl _) (show ObjOk X.prog X.w _ _ _ (.tup _) from ⟨by show 3 ≤ sizeLine; lia, _, .cons ⟨t1, rfl⟩ (.cons ⟨t2, rfl⟩ (.cons ⟨t3, rfl⟩ .nil)), IsTup.new _ _⟩)
  cases Builtin.Str.occurrences a b 0 a.length 1 with
  | nil => intro q'; exact ⟨.ref _, _, three _ _ _ _ _ _ _, rfl, q'⟩
  | cons i r => intro q'; exact ⟨.ref _, _, three _ _ _ _ _ _ _, rfl, q'⟩
end
noncomputable def ItlR (K : PySem.W.Frag) (a : Addr) (n : Nat) : It :=
  ⟨fun i H => i < n ∧ ∃ xs x, SqL K H a xs ∧ xs[n - 1 - i]? = some x, fun i H x H' => H' = H ∧ ∀ xs, SqL K H a xs → xs[n - 1 - i]? = some x, fun i H => n ≤ i⟩
theorem turn_listR {P : Program} {w : World} {K : PySem.W.Frag} {tg : Expr} (a it : Addr) (n : Nat) : Turn P w K tg (ItlR K a n) [it] it (fun i h => i ≤ n ∧ h.IsRevIter it a ((n : Int) - 1 - (i : Int))) where
  mem := by simp
  obj := fun i h st b hb => by
    have e : b = it := by simpa using hb
    subst e
    obtain ⟨_, o, e, c, d⟩ := st
    exact ⟨o, e, fun v z => by rw [d] at z; cases z⟩
  keep := fun i h h' st k => ⟨st.1, st.2.at fun o e => k it (by simp) o e⟩
  item := by
    intro X hP hw hK hc i pins s σ H E I hf st hg
    subst hP hw hK
    obtain ⟨hi, xs, x, hq, hx⟩ := hg
    obtain ⟨its, rv, p, hz⟩ := I.list hq
    obtain ⟨u, hu, ru⟩ := rv.get hx
    obtain ⟨f0, f1, f2, f3, f4, f5⟩ := hf it (by simp)
    have e0 : (n : Int) - 1 - (i : Int) = ((n - 1 - i : Nat) : Int) := by lia
    have st2 := st.2
    rw [e0] at st2
    refine wpAny_pyNext_rev_item st2 p.isList (x := u) (by simpa using hu) fun h' st' sb => ?_
    have I1 : Inv X pins σ H { s with heap := h' } := I.turned (t' := s.toks) (fun b o hb e => (sb.2 b hb).trans e) f0 f1 f3 f4 f5
    obtain ⟨o, e, c, d⟩ := id st'
    have e1 : ((n - 1 - i : Nat) : Int) - 1 = (n : Int) - 1 - ((i + 1 : Nat) : Int) := by lia
    rw [e1] at st'
    exact ⟨u, rfl, go_of (s := { s with heap := h' }) e c d (by decide) ⟨x, H, I1, ru, ⟨rfl, fun ys hy => by rw [I.list_inj hy hq]; exact hx⟩, ⟨hi, st'⟩, fun b hb => (hf b hb).1⟩⟩
  done := by
    intro X hP hw hK hc i pins s σ H E I hf st hg
    subst hP hw hK
    obtain ⟨f0, f1, f2, f3, f4, f5⟩ := hf it (by simp)
    have hg' : n ≤ i := hg
    have e0 : (n : Int) - 1 - (i : Int) = -1 := by have := st.1; lia
    have st2 := st.2
    rw [e0] at st2
    exact wpAny_pyNext_rev_end (I.ok.hd hc) st2 fun h' eb => ⟨rfl, I.turned (t' := s.toks) (fun b o hb e => eb b o hb e) f0 f1 f3 f4 f5⟩
  self := fun _ _ _ _ _ st h => wpAny_pyIter_revIter st.2 h
section
variable {X : Cx} {tg : Expr}
noncomputable def iRevL (K : PySem.W.Frag) (ta : TA) : TI := fun σ H R => ta σ H fun vs H1 => ∃ a xs, vs = [.ref a] ∧ SqL K H1 a xs ∧ R (ItlR K a xs.length) H1
theorem pi_revL {a : Expr} {ta : TA} {p2 pos2 : Pos} (hgr : Gl X "reversed") (hmr : X.mg "reversed" = none) (hvr : bootBuiltins "reversed" = some (.type "reversed")) (ha : PA X [a] ta) (hs : starEach [a] X.env = [(false, eval a X.env)] := by rfl) :
    PI X tg (.Call (.Name "reversed" p2) [a] [] pos2) (iRevL X.K ta) := by
  intro pins s σ H R I h
  refine Call_ (ld_blt I hgr hmr hvr (PyProof.Rows.callWith_type1 (thn (ha pos2 pins s σ H _ I h) fun us s1 hp0 => ?_) (by rw [hs]; rfl) (by rfl)))
  obtain ⟨vs, H1, I1, r1, q1⟩ := hp0
  obtain ⟨l, xs, rfl, hq, q⟩ := q1
  obtain ⟨u, rfl, ru⟩ := vals1 r1
  cases ru
  obtain ⟨its, rv, p, hz⟩ := I1.list hq
  have hl := rv.length
  refine call_reversed_list p.isList ?_
  have e1 : ((its.toArray.size : Nat) : Int) - 1 = (xs.length : Int) - 1 := by simp; lia
  rw [e1]
  have st : (s1.heap.push (revObj l ((xs.length : Int) - 1))).IsRevIter s1.heap.objs.size l ((xs.length : Int) - 1) := ⟨_, Heap.get?_push_size _ rfl, rfl, rfl⟩
  refine wpAny_pyIter_revIter (s := { s1 with heap := s1.heap.push (revObj l ((xs.length : Int) - 1)) }) st ?_
  refine ⟨s1.heap.objs.size, [s1.heap.objs.size], _, _, H1, rfl, I1.kept (t' := s1.toks) fun b o e => Heap.get?_push_of_some _ e, turn_listR l _ xs.length, ⟨Nat.zero_le _, ?_⟩, fun b hb => ?_, q⟩
  · have e2 : (xs.length : Int) - 1 - ((0 : Nat) : Int) = (xs.length : Int) - 1 := by lia
    rw [e2]
    exact st
  · have e : b = s1.heap.objs.size := by simpa using hb
    subst e
    exact I1.fpOk (Nat.le_refl _) (I1.hok.fresh (Nat.le_refl _))
theorem for_listR {K : PySem.W.Frag} {a : Addr} {xs : List V} {g : TG} {tb : TS} {D : Ends} {σ : St} {H : Hp} (Pv : Nat → St → Hp → Prop) (h0 : Pv 0 σ H) (hl : ∀ i σ H, i ≤ xs.length → Pv i σ H → SqL K H a xs)
    (hs : ∀ i x σ H, xs.reverse[i]? = some x → Pv i σ H → g x σ H fun σ2 H2 => tb { D with nx := Pv (i + 1), ct := Pv (i + 1), bk := D.nx } σ2 H2) (hd : ∀ σ H, Pv xs.length σ H → D.nx σ H) :
    ∃ W : Nat → Nat → St → Hp → Prop, (∃ m, W 0 m σ H) ∧ ∀ i m σ H, W i m σ H →
      ((ItlR K a xs.length).stop i H ∧ D.nx σ H) ∨ ((ItlR K a xs.length).go i H ∧ ∃ N : St → Hp → Prop, (∀ σ' H', N σ' H' → ∃ m', m' < m ∧ W (i + 1) m' σ' H') ∧ ∀ x H', (ItlR K a xs.length).yld i H x H' → g x σ H' fun σ2 H2 => tb { D with nx := N, ct := N, bk := D.nx } σ2 H2) := by
  refine ⟨fun i m σ H => m = xs.length - i ∧ i ≤ xs.length ∧ Pv i σ H, ⟨xs.length, by simp, Nat.zero_le _, h0⟩, ?_⟩
  rintro i m σ H ⟨rfl, hi, p⟩
  have q := hl i σ H hi p
  by_cases hlt : i < xs.length
  · refine .inr ⟨⟨hlt, xs, xs[xs.length - 1 - i], q, by rw [List.getElem?_eq_getElem (by lia)]⟩, Pv (i + 1), fun σ' H' p' => ⟨xs.length - (i + 1), by lia, rfl, hlt, p'⟩, fun x H' y => ?_⟩
    obtain ⟨e, y⟩ := y
    subst e
    exact hs i x σ _ (by rw [List.getElem?_reverse hlt]; exact y xs q) p
  · have e : i = xs.length := by lia
    subst e
    exact .inl ⟨Nat.le_refl _, hd σ H p⟩
end
end L2
namespace K38
open PySem L2 Tx Rk PyProof.Rows PySem.SeqAt
open PySem.PyData (strOk)
section
variable {P : Program} {w : World} {K : PySem.W.Frag} {mg : Str → Option Value} {base : Heap}
noncomputable def top (i : Nat) : Stmt := PySem.Challenge.pw_grope_k38_no_plan.main.body.getD i (.Pass ⟨0, 0, 0, 0⟩)
noncomputable abbrev sRowsIn : Stmt := top 6
noncomputable abbrev sCheckWays : Stmt := top 7
noncomputable abbrev sLines : Stmt := inClass (top 8) 2
noncomputable abbrev sStopGoesOn : Stmt := inClass (top 9) 0
noncomputable abbrev sStopLineHere : Stmt := inClass (top 9) 3
noncomputable abbrev sDoInit : Stmt := inClass (top 10) 0
noncomputable abbrev sDoGoesOn : Stmt := inClass (top 10) 1
noncomputable abbrev sDoLineHere : Stmt := inClass (top 10) 4
noncomputable abbrev sLookInit : Stmt := inClass (top 11) 0
noncomputable abbrev sLookWays : Stmt := inClass (top 11) 1
noncomputable abbrev sLookGoesOn : Stmt := inClass (top 11) 2
noncomputable abbrev sLookLineHere : Stmt := inClass (top 11) 5
noncomputable abbrev sReadPlan : Stmt := top 12
noncomputable abbrev sReadLine : Stmt := top 13
noncomputable abbrev sTakePlan : Stmt := top 14
noncomputable abbrev sTakeWays : Stmt := top 15
noncomputable abbrev sLCell : Stmt := top 17
noncomputable abbrev sLDraw : Stmt := top 18
noncomputable abbrev sLSign : Stmt := top 19
noncomputable abbrev sLWords : Stmt := top 20
noncomputable abbrev sNames : Stmt := top 21
noncomputable abbrev sLDeep : Stmt := top 22
noncomputable abbrev sLTree : Stmt := top 23
noncomputable abbrev sLRowOfDos : Stmt := top 24
noncomputable abbrev sLDrawnTree : Stmt := top 25
noncomputable abbrev sLLines : Stmt := top 26
noncomputable abbrev sLIs : Stmt := top 27
noncomputable abbrev sLWaysAre : Stmt := top 28
noncomputable abbrev sLUnread : Stmt := top 29
noncomputable abbrev sLUnmade : Stmt := top 30
noncomputable abbrev sLBent : Stmt := top 31
noncomputable abbrev sLHasLook : Stmt := top 32
noncomputable abbrev sLWith : Stmt := top 33
noncomputable abbrev sLNamed : Stmt := top 34
noncomputable abbrev sLSpoilt : Stmt := top 35
noncomputable abbrev sLaw : Stmt := top 36
structure Bl (mg : Str → Option Value) : Prop where
  len : mg "len" = none
  range : mg "range" = none
  tuple : mg "tuple" = none
  zip : mg "zip" = none
  isi : mg "isinstance" = none
  str : mg "str" = none
  list : mg "list" = none
  set : mg "set" = none
  all : mg "all" = none
  sorted : mg "sorted" = none
  int : mg "int" = none
  bool : mg "bool" = none
  sum : mg "sum" = none
  max : mg "max" = none
  enumerate : mg "enumerate" = none
  dict : mg "dict" = none
  ve : mg "ValueError" = none
  reversed : mg "reversed" = none
theorem seq_gen {s R : TS} {D : Ends} {σ : L2.St} {H : Hp} (I : L2.St → Hp → Prop) (hR : ∀ σ' H', I σ' H' → R D σ' H') (hs : ∀ N : L2.St → Hp → Prop, (∀ σ' H', I σ' H' → N σ' H') → s { D with nx := N } σ H) : tSeq s R D σ H := hs (R D) hR
theorem seq_genG {i : Nat} {v : V} {s R : TS} {D : Ends} {σ : L2.St} {H : Hp} (I : L2.St → Hp → Prop) (hR : ∀ σ' H', I σ' H' → R D σ' H') (hs : ∀ N : L2.St → Hp → Prop, (∀ σ' H', I σ' H' → N σ' H') → gName i v σ H fun σ2 H2 => s { D with nx := N } σ2 H2) : gName i v σ H (tSeq s R D) := hs (R D) hR
inductive spLaw (K : PySem.W.Frag) (vs : List V) (H : Hp) (Q : VK) (E0_ : XK) : Prop
  | mk (a : Addr) (ns : List Int) (c0 : vs = [.ref a]) (c1 : SqL K H a (ns.map V.int)) (c2 : ns.length ≤ 63) (c3 : ∀ H', Q (.bl true) H') : spLaw K vs H Q E0_
noncomputable abbrev pLaw : List Str := ["_law_script"]
noncomputable abbrev nLaw : List Str := ["_law_script", "_law_words_here", "_law_tree_here", "_law_lines_here", "_law_answer", "_law_ways"]
theorem scLaw : FnScope nLaw pLaw (defScope sLaw) := ⟨rfl, rfl, rfl, by decide +kernel, rfl, by decide +kernel, by decide +kernel⟩
noncomputable def oS : Option Str → V
  | none => .non
  | some x => .str x
noncomputable def Rp (x : Str) : Prop := (reprText x).length ≤ 100000
noncomputable abbrev Sm (x : Str) : Prop := ∀ c ∈ cs x, c < 128
theorem Sm.rp {x : Str} (h : Sm x) (l : x.length ≤ 300) : Rp x := by
  have h1 := StrLaws.reprText_len x fun c hc => by
    have := h c hc
    lia
  unfold Rp
  lia
theorem Sm.ok {x : Str} (h : Sm x) : strOk x = true := ok_of fun c hc => by
  have := h c hc
  lia
structure Lb (x : Str) : Prop where
  l1 : 1 ≤ x.length
  l2 : x.length ≤ 30
  sm : Sm x
theorem cs_mk (l : List Nat) : cs ⟨l.toArray⟩ = l := rfl
theorem mk_len (l : List Nat) : (Str.mk l.toArray).length = l.length := by rw [← cs_len, cs_mk]
noncomputable def cl (ns : List Int) (k : Int) : Int := ns.getD k.toNat 0
noncomputable def dw (ns : List Int) (k p m : Int) : Int := (cl ns k * 48271 + 7919 * k * k + 11) % p * 742938285 % 2147483629 % m
theorem dw_lo (ns : List Int) (k p : Int) {m : Int} (h : 0 < m) : 0 ≤ dw ns k p m := Int.emod_nonneg _ (by lia)
theorem dw_hi (ns : List Int) (k p : Int) {m : Int} (h : 0 < m) : dw ns k p m < m := Int.emod_lt_of_pos _ h
inductive spCell (K : PySem.W.Frag) (vs : List V) (H : Hp) (Q : VK) (E0_ : XK) : Prop
  | mk (a : Addr) (ns : List Int) (k : Int) (c0 : vs = [.ref a, .int k]) (c1 : SqL K H a (ns.map V.int)) (c2 : ns.length ≤ 63) (c3 : 0 ≤ k) (c4 : Q (.int (cl ns k)) H) : spCell K vs H Q E0_
inductive spDrawD (K : PySem.W.Frag) (vs : List V) (H : Hp) (Q : VK) (E0_ : XK) : Prop
  | mk (a : Addr) (ns : List Int) (k p m : Int) (c0 : vs = [.ref a, .int k, .int p, .int m]) (c1 : SqL K H a (ns.map V.int)) (c2 : ns.length ≤ 63) (c3 : 0 ≤ k) (c4 : k < 1000000) (c5 : 0 < p) (c6 : 0 < m) (c7 : Q (.int (dw ns k p m)) H) : spDrawD K vs H Q E0_
inductive spDraw (K : PySem.W.Frag) (vs : List V) (H : Hp) (Q : VK) (E0_ : XK) : Prop
  | mk (a : Addr) (ns : List Int) (k p m : Int) (c0 : vs = [.ref a, .int k, .int p, .int m]) (c1 : SqL K H a (ns.map V.int)) (c2 : ns.length ≤ 63) (c3 : 0 ≤ k) (c4 : k < 1000000) (c5 : 0 < p) (c6 : 0 < m) (c7 : ∀ r : Int, 0 ≤ r → r < m → Q (.int r) H) : spDraw K vs H Q E0_
noncomputable abbrev pLCell : List Str := ["_law_script", "_law_k"]
noncomputable abbrev nLCell : List Str := ["_law_script", "_law_k"]
theorem scLCell : FnScope nLCell pLCell (defScope sLCell) := ⟨rfl, rfl, rfl, by decide +kernel, rfl, by decide +kernel, by decide +kernel⟩
noncomputable abbrev pLDraw : List Str := ["_law_script", "_law_k", "_law_prime", "_law_many"]
noncomputable abbrev nLDraw : List Str := ["_law_script", "_law_k", "_law_prime", "_law_many", "_law_mixed"]
theorem scLDraw : FnScope nLDraw pLDraw (defScope sLDraw) := ⟨rfl, rfl, rfl, by decide +kernel, rfl, by decide +kernel, by decide +kernel⟩
theorem ok_cell {f : Addr} {fd : FuncData} (F : Fun K "_law_cell" "_law_cell" sLCell f fd) (T : Bl mg) : FnOk P w K mg base CX0 1 f fd pLCell (spCell K) := by
  refine F.ok scLCell (fun vs H Q E h => ?_) (fun cdv A outer s H vs Q E hr h => ?_)
  · obtain ⟨a, ns, k, rfl, _⟩ := h
    rfl
  · obtain ⟨a, ns, k, rfl, hS, hn, k0, q⟩ := h
    obtain ⟨j, rfl⟩ : ∃ j : Nat, (j : Int) = k := ⟨k.toNat, Int.toNat_of_nonneg k0⟩
    have hl : (ns.map V.int).length = ns.length := List.length_map ..
    refine ⟨_, (pss_cons (ps_if (pt_cmpR op_lt (pv 1) (pe_callB call_len (by rfl) T.len PySem.boot_len (pa_cons (pv 0) pa_nil)) (nomark _)) (pss_one (ps_ret (pe_ix ix_list (pv 0) (pv 1) (fun _ _ => rfl)))) pss_nil)
      (pss_one (ps_ret pe_int))), ?_⟩
    refine ⟨_, rfl, _, rfl, _, _, rfl, .inl ⟨_, hS, rfl⟩, _, _, rfl, rfl, _, rfl, ?_⟩
    refine ite2 (fun hp => ?_) (fun hp => ?_)
    · have hp' : j < ns.length := by
        have := of_decide_eq_true hp
        rw [hl] at this
        lia
      have hc : cl ns (j : Int) = ns[j] := by
        unfold cl
        rw [Int.toNat_natCast]
        simp [List.getD, hp']
      rw [hc] at q
      exact ⟨_, rfl, _, rfl, a, _, _, _, rfl, rfl, hS, atI_nat (v := V.int ns[j]) (by simp [hp']), q⟩
    · have hp' : ¬ j < ns.length := fun z => hp (decide_eq_true (by rw [hl]; lia))
      have hc : cl ns (j : Int) = 0 := by
        unfold cl
        rw [Int.toNat_natCast, List.getD_eq_getElem?_getD, List.getElem?_eq_none (by lia)]
        rfl
      rw [hc] at q
      exact q
theorem ok_drawD {f f1 : Addr} {fd d1 : FuncData} (F : Fun K "_law_draw" "_law_draw" sLDraw f fd) (D_l_cell : Df K mg "_law_cell" sLCell pLCell f1 d1) (G_l_cell : FnOk P w K mg base CX0 1 f1 d1 pLCell (spCell K)) : FnOk P w K mg base CX0 2 f fd pLDraw (spDrawD K) := by
  refine F.ok scLDraw (fun vs H Q E h => ?_) (fun cdv A outer s H vs Q E hr1 h => ?_)
  · obtain ⟨a, ns, k, p, m, rfl, _⟩ := h
    rfl
  · obtain ⟨a, ns, k, p, m, rfl, hS, hn, k0, k1, p0, m0, q⟩ := h
    refine ⟨_, (pss_cons (ps_set (i := 4) scLDraw.nd rfl (Or.inl rfl) (pe_op op_mod (pe_op op_add (pe_op op_add (pe_op op_mul (pe_call G_l_cell hr1 (by rfl) D_l_cell.m D_l_cell.F.kp D_l_cell.b .nil pass0 (pa_cons (pv 0) (pa_cons (pv 1) pa_nil))) pe_int) (pe_op op_mul (pe_op op_mul pe_int (pv 1)) (pv 1))) pe_int) (pv 2)))
      (pss_one (ps_ret (pe_op op_mod (pe_op op_mod (pe_op op_mul (pv 4) pe_int) pe_int) (pv 3))))), ?_⟩
    refine ⟨_, rfl, _, rfl, a, ns, k, rfl, hS, hn, k0, ?_⟩
    refine ⟨_, _, rfl, rfl, .inr ⟨by decide, by decide⟩, _, rfl, _, _, rfl, rfl, .inl ⟨by decide, by decide⟩, _, rfl, _, _, rfl, rfl, .inl ⟨by lia, by lia⟩, _, _, rfl, rfl, _, _, rfl, rfl, _, rfl, _, _, rfl, rfl, p0, ?_⟩
    exact ⟨_, rfl, _, _, rfl, rfl, .inr ⟨by decide, by decide⟩, _, _, rfl, rfl, (by show (0 : Int) < _; decide), _, rfl, _, _, rfl, rfl, m0, q⟩
theorem ok_draw {f : Addr} {fd : FuncData} (G : FnOk P w K mg base CX0 2 f fd pLDraw (spDrawD K)) : FnOk P w K mg base CX0 2 f fd pLDraw (spDraw K) :=
  G.imp fun vs H Q E h => by
    obtain ⟨a, ns, k, p, m, e, hS, hn, k0, k1, p0, m0, q⟩ := h
    exact ⟨a, ns, k, p, m, e, hS, hn, k0, k1, p0, m0, q _ (dw_lo _ _ _ m0) (dw_hi _ _ _ m0)⟩
noncomputable abbrev sgA : Str := Str.ofString " !\"#$&'()*+,-./0123456789:;<=>?@ABCDEFGHIJKLMNOPQRSTUVWXYZ[\\]^_"
noncomputable abbrev sgB : Str := Str.ofString "`abcdefghijklmnopqrstuvwxyz{|}~"
noncomputable def sgL : List Nat := (sgA ++ sgB).cps.toList
theorem sgL_len : sgL.length = 94 := by decide +kernel
theorem sgL_lt : ∀ c ∈ sgL, c < 128 := by decide +kernel
theorem sg_len : (sgA ++ sgB).length ≤ sizeLine := by
  have h : (sgA ++ sgB).length = 94 := by decide +kernel
  have := sizeLine_eq
  lia
theorem sgA_len : sgA.length + sgB.length ≤ sizeLine := by
  have h : sgA.length + sgB.length = 94 := by decide +kernel
  have := sizeLine_eq
  lia
noncomputable def sgn (n : Int) : Nat := sgL.getD (n % 94).toNat 0
theorem sgn_at (n : Int) : sgL[(n % 94).toNat]? = some (sgn n) := by
  have h0 := Int.emod_nonneg n (show (94 : Int) ≠ 0 by decide)
  have h1 := Int.emod_lt_of_pos n (show (0 : Int) < 94 by decide)
  have : (n % 94).toNat < sgL.length := by rw [sgL_len]; lia
  unfold sgn
  rw [List.getD_eq_getElem?_getD, List.getElem?_eq_getElem this]
  rfl
theorem sgn_lt (n : Int) : sgn n < 128 := sgL_lt _ (List.mem_of_getElem? (sgn_at n))
inductive spSign (vs : List V) (H : Hp) (Q : VK) (E0_ : XK) : Prop
  | mk (n : Int) (c0 : vs = [.int n]) (c1 : Q (.str ⟨#[sgn n]⟩) H) : spSign  vs H Q E0_
noncomputable def wz (ns : List Int) (k : Int) : Int := if dw ns k 15013 8 = 0 then 30 else 1 + dw ns k 10007 6
theorem wz_lo (ns : List Int) (k : Int) : 1 ≤ wz ns k ∧ wz ns k ≤ 30 := by
  have h1 := dw_lo ns k 10007 (m := 6) (by decide)
  have h2 := dw_hi ns k 10007 (m := 6) (by decide)
  unfold wz
  split <;> lia
noncomputable def wa (ns : List Int) (k : Int) : Int := dw ns k 20011 (wz ns k)
theorem wa_lo (ns : List Int) (k : Int) : 0 ≤ wa ns k ∧ wa ns k < wz ns k := ⟨dw_lo _ _ _ (by have := wz_lo ns k; lia), dw_hi _ _ _ (by have := wz_lo ns k; lia)⟩
noncomputable def wb (ns : List Int) (k : Int) (n : Nat) : List Nat := (List.range n).map fun (m : Nat) => sgn (dw ns (k + (m : Int)) 25013 94)
theorem wb_len (ns : List Int) (k : Int) (n : Nat) : (wb ns k n).length = n := by
  unfold wb
  rw [List.length_map, List.length_range]
theorem wb_lt (ns : List Int) (k : Int) (n : Nat) : ∀ c ∈ wb ns k n, c < 128 := fun c hc => by
  obtain ⟨m, _, rfl⟩ := List.mem_map.mp hc
  exact sgn_lt _
noncomputable def wdL (ns : List Int) (k : Int) (c : Nat) : List Nat := (wb ns k (wz ns k).toNat).take (wa ns k).toNat ++ [c] ++ (wb ns k (wz ns k).toNat).drop ((wa ns k).toNat + 1)
noncomputable def wdS (ns : List Int) (k : Int) (c : Nat) : Str := ⟨(wdL ns k c).toArray⟩
theorem wdL_len (ns : List Int) (k : Int) (c : Nat) : (wdL ns k c).length = (wz ns k).toNat := by
  have h1 := wz_lo ns k
  have h2 := wa_lo ns k
  unfold wdL
  rw [List.length_append, List.length_append, List.length_take, List.length_drop, wb_len, List.length_singleton]
  lia
theorem wdS_lb (ns : List Int) (k : Int) {c : Nat} (hc : c < 128) : Lb (wdS ns k c) := by
  have h1 := wz_lo ns k
  refine ⟨by unfold wdS; rw [mk_len, wdL_len]; lia, by unfold wdS; rw [mk_len, wdL_len]; lia, fun z hz => ?_⟩
  have hz' : z ∈ wdL ns k c := hz
  unfold wdL at hz'
  rcases List.mem_append.mp hz' with y | y
  · rcases (List.mem_append.mp y) with x | x
    · exact wb_lt _ _ _ _ (List.mem_of_mem_take x)
    · rw [List.mem_singleton.mp x]; exact hc
  · exact wb_lt _ _ _ _ (List.mem_of_mem_drop y)
theorem wdS_inj {ns : List Int} {k : Int} {c d : Nat} (h : wdS ns k c = wdS ns k d) : c = d := by
  have e : wdL ns k c = wdL ns k d := congrArg cs h
  have h1 := wz_lo ns k
  have h2 := wa_lo ns k
  have e2 : (wdL ns k c)[(wa ns k).toNat]? = (wdL ns k d)[(wa ns k).toNat]? := by rw [e]
  have lt : ((wb ns k (wz ns k).toNat).take (wa ns k).toNat).length = (wa ns k).toNat := by
    rw [List.length_take, wb_len]
    lia
  have g : ∀ (A B : List Nat) (x n : Nat), A.length = n → (A ++ [x] ++ B)[n]? = some x := fun A B x n e => by subst e; simp
  unfold wdL at e2
  rw [g _ _ _ _ lt, g _ _ _ _ lt] at e2
  exact Option.some.inj e2
theorem wdS_nodup {ns : List Int} {k : Int} {l : List Nat} (h : l.Nodup) : (l.map (wdS ns k)).Nodup := List.pairwise_map.mpr (h.imp fun n e => n (wdS_inj e))
theorem join_none : ∀ xs : List Str, cs (Txt.join (Str.ofString "") xs) = (xs.map cs).flatten := fun xs => by
  have e : Txt.join (Str.ofString "") xs = Str.join (Str.ofString "") xs := StrLaws.glued_eq_join _ _
  rw [e]
  induction xs with
  | nil => rfl
  | cons x r ih =>
    cases r with
    | nil => show cs x = _; simp
    | cons y r =>
      show cs (x ++ Str.ofString "" ++ Str.join (Str.ofString "") (y :: r)) = _
      rw [cs_app, cs_app, ih (StrLaws.glued_eq_join _ _), show cs (Str.ofString "") = [] from by decide +kernel]
      simp
theorem one_flat {α : Type} (xs : List α) (g : α → Nat) : ((xs.map fun m => (⟨#[g m]⟩ : Str)).map cs).flatten = xs.map g := by
  induction xs with
  | nil => rfl
  | cons x r ih => rw [List.map_cons, List.map_cons, List.flatten_cons, ih]; rfl
theorem join_wb (ns : List Int) (k : Int) (n : Nat) : Txt.join (Str.ofString "") ((List.range n).map fun (m : Nat) => (⟨#[sgn (dw ns (k + (m : Int)) 25013 94)]⟩ : Str)) = ⟨(wb ns k n).toArray⟩ := by
  apply cs_inj
  rw [join_none, one_flat (g := fun (m : Nat) => sgn (dw ns (k + (m : Int)) 25013 94))]
  rfl
inductive spWords (K : PySem.W.Frag) (vs : List V) (H : Hp) (Q : VK) (E0_ : XK) : Prop
  | mk (a : Addr) (ns : List Int) (k : Int) (z : Str) (c0 : vs = [.ref a, .int k, .str z]) (c1 : SqL K H a (ns.map V.int)) (c2 : ns.length ≤ 63) (c3 : 0 ≤ k) (c4 : k < 1000) (c5 : Sm z) (c6 : z.length ≤ 10) (c7 : ∀ (l : Addr) (H' : Hp), Same H H' → H l = none → H' l = some (.lst (((cs z).map (wdS ns k)).map V.str)) → Q (.ref l) H') : spWords K vs H Q E0_
noncomputable abbrev pLSign : List Str := ["_law_number"]
noncomputable abbrev nLSign : List Str := ["_law_number", "_law_some"]
theorem scLSign : FnScope nLSign pLSign (defScope sLSign) := ⟨rfl, rfl, rfl, by decide +kernel, rfl, by decide +kernel, by decide +kernel⟩
noncomputable abbrev pLWords : List Str := ["_law_script", "_law_k", "_law_letters"]
noncomputable abbrev nLWords : List Str := ["_law_script", "_law_k", "_law_letters", "_law_size", "_law_at", "_law_base"]
theorem scLWords : FnScope nLWords pLWords (defScope sLWords) := ⟨rfl, rfl, rfl, by decide +kernel, rfl, by decide +kernel, by decide +kernel⟩
theorem ok_sign {f : Addr} {fd : FuncData} (F : Fun K "_law_sign" "_law_sign" sLSign f fd) : FnOk P w K mg base CX0 1 f fd pLSign spSign := by
  refine F.ok scLSign (fun vs H Q E h => ?_) (fun cdv A outer s H vs Q E hr h => ?_)
  · obtain ⟨n, rfl, _⟩ := h
    rfl
  · obtain ⟨n, rfl, q⟩ := h
    refine ⟨_, (pss_cons (ps_set (i := 1) scLSign.nd rfl (Or.inl rfl) pe_str)
      (pss_cons (ps_set (i := 1) scLSign.nd rfl (Or.inl rfl) (pe_op op_add_str (pv 1) pe_str))
      (pss_one (ps_ret (pe_ix ix_str (pv 1) (pe_op op_mod (pv 0) pe_int) (fun _ _ => rfl)))))), ?_⟩
    refine ⟨_, rfl, sgA, sgB, rfl, rfl, sgA_len, ?_⟩
    have hat := atI_nat (sgn_at n)
    rw [Int.toNat_of_nonneg (Int.emod_nonneg n (by decide))] at hat
    exact ⟨_, rfl, _, rfl, _, _, rfl, rfl, (by show (0 : Int) < _; decide), _, _, _, rfl, rfl, sg_len, hat, q⟩
theorem ok_words {f f1 f2 : Addr} {fd d1 d2 : FuncData} (F : Fun K "_law_words" "_law_words" sLWords f fd) (T : Bl mg) (D_l_draw : Df K mg "_law_draw" sLDraw pLDraw f1 d1) (G_l_draw : FnOk P w K mg base CX0 2 f1 d1 pLDraw (spDrawD K)) (D_l_sign : Df K mg "_law_sign" sLSign pLSign f2 d2) (G_l_sign : FnOk P w K mg base CX0 1 f2 d2 pLSign spSign) : FnOk P w K mg base CX0 3 f fd pLWords (spWords K) := by
  refine F.ok scLWords (fun vs H Q E h => ?_) (fun cdv A outer s H vs Q E hr2 h => ?_)
  · obtain ⟨a, ns, k, z, rfl, _⟩ := h
    rfl
  · obtain ⟨a, ns, k, z, rfl, hS, hn, k0, k1, hz, hzl, q⟩ := h
    have hr1 : Room 1 _ := hr2.mono (by decide)
    have hsl : sizeLine = 16777216 := sizeLine_eq
    refine ⟨_, (pss_cons (ps_set (i := 3) scLWords.nd rfl (Or.inl rfl) (pe_op op_add pe_int (pe_call G_l_draw hr2 (by rfl) D_l_draw.m D_l_draw.F.kp D_l_draw.b .nil pass0 (pa_cons (pv 0) (pa_cons (pv 1) (pa_cons pe_int (pa_cons pe_int pa_nil)))))))
      (pss_cons (ps_if (pt_cmpR op_eq (pe_call G_l_draw hr2 (by rfl) D_l_draw.m D_l_draw.F.kp D_l_draw.b .nil pass0 (pa_cons (pv 0) (pa_cons (pv 1) (pa_cons pe_int (pa_cons pe_int pa_nil))))) pe_int (nomark _)) (pss_one (ps_set (i := 3) scLWords.nd rfl (Or.inl rfl) pe_int)) pss_nil)
      (pss_cons (ps_set (i := 4) scLWords.nd rfl (Or.inr rfl) (pe_call G_l_draw hr2 (by rfl) D_l_draw.m D_l_draw.F.kp D_l_draw.b .nil pass0 (pa_cons (pv 0) (pa_cons (pv 1) (pa_cons pe_int (pa_cons (pv 3) pa_nil))))))
      (pss_cons (ps_set (i := 5) scLWords.nd rfl (Or.inr rfl) (pe_bm PySem.F.plainAttrs_str PySem.F.slot_str_join PySem.F.type_str_join mt_join pe_str (pa_cons (pe_lc (N := ["_law_m", "_law_script", "_law_k"]) (sc := defScope sLWords) (own := ["_law_m"]) (fr := ["_law_script", "_law_k"]) (js := [0, 1]) ⟨rfl, rfl, rfl, rfl, by decide +kernel, by decide +kernel, by decide +kernel, rfl, by decide +kernel⟩ rfl (pi_range1 (by rfl) T.range (pa_cons (pv 3) pa_nil)) (fun _ _ _ _ => pg_name (i := 0) (show List.Nodup (["_law_m", "_law_script", "_law_k"] : List Str) by decide +kernel) rfl (Or.inl rfl)) (fun _ _ _ _ => pif_nil) (fun _ _ _ _ => (pe_call G_l_sign hr1 (by rfl) D_l_sign.m D_l_sign.F.kp D_l_sign.b .nil pass0 (pa_cons (pe_call G_l_draw hr2 (by rfl) D_l_draw.m D_l_draw.F.kp D_l_draw.b .nil pass0 (pa_cons (pv 1) (pa_cons (pe_op op_add (pv 2) (pv 0)) (pa_cons pe_int (pa_cons pe_int pa_nil))))) pa_nil)))) pa_nil)))
      (pss_one (ps_ret (pe_lc (N := ["_law_letter", "_law_base", "_law_at"]) (sc := defScope sLWords) (own := ["_law_letter"]) (fr := ["_law_base", "_law_at"]) (js := [5, 4]) ⟨rfl, rfl, rfl, rfl, by decide +kernel, by decide +kernel, by decide +kernel, rfl, by decide +kernel⟩ rfl (pi_str (pv 2)) (fun _ _ _ _ => pg_name (i := 0) (show List.Nodup (["_law_letter", "_law_base", "_law_at"] : List Str) by decide +kernel) rfl (Or.inl rfl)) (fun _ _ _ _ => pif_nil) (fun _ _ _ _ => (pe_op op_add_str (pe_op op_add_str (pe_slice sl_str (pv 1) po_none (po_some (pv 2))) (pv 0)) (pe_slice sl_str (pv 1) (po_some (pe_op op_add (pv 2) pe_int)) po_none)))))))))), ?_⟩
    have z1 := wz_lo ns k
    have a1 := wa_lo ns k
    refine ⟨_, rfl, _, rfl, a, ns, k, _, _, rfl, hS, hn, k0, by lia, by decide, by decide, ⟨_, _, rfl, rfl, ?_⟩⟩
    dsimp only
    refine seq_genG (fun σ' H' => σ' = [some (.ref a), some (.int k), some (.str z), some (.int (wz ns k)), none, none] ∧ H' = H) ?_ (fun N hN => ?_)
    · rintro σ' H' ⟨rfl, rfl⟩
      refine ⟨_, rfl, _, rfl, _, rfl, a, ns, k, _, _, rfl, hS, hn, k0, by lia, by decide, by lia, ?_⟩
      have ea : dw ns k 20011 (wz ns k) = wa ns k := rfl
      rw [ea]
      refine ⟨rfl, _, rfl, _, rfl, by lia, by lia, fun D hD => ?_⟩
      refine lcJ (n := (wz ns k).toNat) (fun i ys H2 => ys = ((List.range i).map fun (m : Nat) => (⟨#[sgn (dw ns (k + (m : Int)) 25013 94)]⟩ : Str)).map V.str ∧ Same H' H2 ∧ H2 D = some (.lst ys)) ⟨rfl, Same.new hD, upd_same⟩
        (fun i _ _ hi _ => hi) (fun _ _ _ => Nat.le_refl _) ?_ ?_
      · rintro i ys H2 v H3 hi ⟨rfl, s2, e2⟩ ⟨rfl, rfl⟩
        refine lc_yes ?_
        refine ⟨_, rfl, _, rfl, _, rfl, _, _, rfl, rfl, a, ns, _, _, _, rfl, s2.seq hS, hn, by lia, by lia, by decide, by decide, _, rfl, ?_⟩
        refine ⟨_, e2, by rw [List.length_map, List.length_map, List.length_range]; lia, ?_, s2.put hD, upd_same⟩
        rw [List.range_succ, List.map_append, List.map_append, Int.zero_add]
        rfl
      rintro ys H2 ⟨rfl, s2, e2⟩
      have hb := join_wb ns k (wz ns k).toNat
      refine ⟨_, D, _, rfl, rfl, SqL.of e2, ?_, ?_⟩
      · have : (((List.range (wz ns k).toNat).map fun (m : Nat) => (⟨#[sgn (dw ns (k + (m : Int)) 25013 94)]⟩ : Str)).map (·.length)).sum ≤ 30 := by
          have go : ∀ l : List Nat, ((l.map fun (m : Nat) => (⟨#[sgn (dw ns (k + (m : Int)) 25013 94)]⟩ : Str)).map (·.length)).sum = l.length := fun l => by
            induction l with
            | nil => rfl
            | cons x r ih => rw [List.map_cons, List.map_cons, List.sum_cons, ih, List.length_cons]; show 1 + _ = _; lia
          rw [go, List.length_range]
          lia
        rw [List.length_map, List.length_range, show (Str.ofString "").length = 0 from by decide +kernel]
        lia
      have hb' : Txt.join (Str.ofString "") ((List.range (wz ns k).toNat).map fun (m : Nat) => (⟨#[sgn (dw ns (k + (m : Int)) 25013 94)]⟩ : Str)) = ⟨(wb ns k (wz ns k).toNat).toArray⟩ := hb
      rw [hb']
      have bl : (Str.mk (wb ns k (wz ns k).toNat).toArray).length = (wz ns k).toNat := by rw [mk_len, wb_len]
      refine ⟨_, rfl, z, rfl, ?_, fun D2 hD2 => ?_⟩
      · rw [← Array.all_toList]
        exact List.all_eq_true.mpr fun c hc => decide_eq_true (hz c hc)
      refine lcJ (n := z.cps.size) (fun i ys H3 => ys = (((cs z).take i).map (wdS ns k)).map V.str ∧ Same H2 H3 ∧ H3 D2 = some (.lst ys)) ⟨rfl, Same.new hD2, upd_same⟩ (fun i _ _ hi _ => hi) (fun _ _ _ => Nat.le_refl _) ?_ ?_
      · rintro i ys H3 v H4 hi ⟨rfl, s3, e3⟩ ⟨rfl, c, hc, rfl⟩
        refine lc_yes ?_
        have hc' : (cs z)[i]? = some c := by
          show z.cps.toList[i]? = some c
          simpa using hc
        have l1 : (Txt.slice (Str.mk (wb ns k (wz ns k).toNat).toArray) none (some (wa ns k))) = ⟨((wb ns k (wz ns k).toNat).take (wa ns k).toNat).toArray⟩ := by
          have := StrLaws.sliceText_to (x := Str.mk (wb ns k (wz ns k).toNat).toArray) (j := wa ns k) ⟨a1.1, by show wa ns k ≤ ((wb ns k (wz ns k).toNat).length : Int); rw [wb_len]; lia⟩
          refine this.trans ?_
          show Str.mk (((wb ns k (wz ns k).toNat).drop 0).take (wa ns k - 0).toNat).toArray = _
          rw [List.drop_zero, Int.sub_zero]
        have l2 : (Txt.slice (Str.mk (wb ns k (wz ns k).toNat).toArray) (some (wa ns k + 1)) none) = ⟨((wb ns k (wz ns k).toNat).drop ((wa ns k).toNat + 1)).toArray⟩ := by
          have := StrLaws.sliceText_from (x := Str.mk (wb ns k (wz ns k).toNat).toArray) (i := wa ns k + 1) ⟨by lia, by show wa ns k + 1 ≤ ((wb ns k (wz ns k).toNat).length : Int); rw [wb_len]; lia⟩
          refine this.trans ?_
          show Str.mk (((wb ns k (wz ns k).toNat).drop (wa ns k + 1).toNat).take (((wb ns k (wz ns k).toNat).length : Int) - (wa ns k + 1)).toNat).toArray = _
          rw [show (wa ns k + 1).toNat = (wa ns k).toNat + 1 from by lia, List.take_of_length_le (by rw [List.length_drop]; lia)]
        refine ⟨_, rfl, _, rfl, _, rfl, _, rfl, by rw [bl]; lia, ?_⟩
        rw [l1]
        refine ⟨_, rfl, _, _, rfl, rfl, ?_, ?_⟩
        · rw [mk_len, List.length_take, wb_len]
          show min _ _ + 1 ≤ sizeLine
          lia
        refine ⟨_, rfl, _, rfl, _, _, rfl, rfl, _, rfl, _, rfl, by rw [bl]; lia, ?_⟩
        rw [l2]
        refine ⟨_, _, rfl, rfl, ?_, ?_⟩
        · rw [← cs_len, cs_app, List.length_append, cs_mk, List.length_take, wb_len, mk_len, List.length_drop, wb_len]
          show min _ _ + 1 + _ ≤ sizeLine
          lia
        have ew : (Str.mk ((wb ns k (wz ns k).toNat).take (wa ns k).toNat).toArray) ++ (⟨#[c]⟩ : Str) ++ (Str.mk ((wb ns k (wz ns k).toNat).drop ((wa ns k).toNat + 1)).toArray) = wdS ns k c := by
          apply cs_inj
          rw [cs_app, cs_app]
          rfl
        rw [ew]
        have zl : (cs z).length = z.length := cs_len z
        refine ⟨_, e3, by rw [List.length_map, List.length_map, List.length_take]; lia, ?_, s3.put hD2, upd_same⟩
        rw [List.take_succ, hc', List.map_append, List.map_append]
        rfl
      · rintro ys H3 ⟨rfl, s3, e3⟩
        rw [List.take_of_length_le (by rw [cs_len]; exact Nat.le_refl _)] at e3
        exact q D2 H3 (s2.trans s3) (s2.free hD2) e3
    · refine ⟨_, rfl, _, rfl, a, ns, k, _, _, rfl, hS, hn, k0, by lia, by decide, by decide, rfl, _, rfl, ?_⟩
      refine ite2 (fun hc => ?_) (fun hc => ?_)
      · have hw : wz ns k = 30 := if_pos (V.int.inj (of_decide_eq_true hc))
        rw [hw] at hN
        exact hN _ _ ⟨rfl, rfl⟩
      · have hw : wz ns k = 1 + dw ns k 10007 6 := if_neg fun z => hc (decide_eq_true (by rw [z]))
        rw [hw] at hN
        exact hN _ _ ⟨rfl, rfl⟩
inductive Pn where
  | stop
  | dd (d : Str) (r : Pn)
  | lk (l : Str) (ws : Pn)
  | nil
  | way (a : Str) (p r : Pn)
noncomputable abbrev tStop : Str := Str.ofString "stop"
noncomputable abbrev tDo : Str := Str.ofString "do "
noncomputable abbrev tLook : Str := Str.ofString "look "
noncomputable abbrev tCase : Str := Str.ofString " case "
noncomputable abbrev tTwo : Str := Str.ofString "  "
theorem st_ext {a b : Str} (e : cs a = cs b) : a = b := by
  have e2 : a.cps = b.cps := Array.toList_inj.mp e
  cases a
  cases b
  cases e2
  rfl
theorem ap_assoc (a b c : Str) : a ++ b ++ c = a ++ (b ++ c) := st_ext (by rw [cs_app, cs_app, cs_app, cs_app, List.append_assoc])
theorem em_app (a : Str) : Str.empty ++ a = a := st_ext (by rw [cs_app]; rfl)
noncomputable def anP : Pn → List Str
  | .way a _ r => a :: anP r
  | _ => []
noncomputable def okP : Bool → Pn → Prop
  | true, .stop => True
  | true, .dd d r => Lb d ∧ okP true r
  | true, .lk l ws => Lb l ∧ ws ≠ .nil ∧ ((anP ws).Nodup ∧ (anP ws).length ≤ 1000) ∧ okP false ws
  | false, .nil => True
  | false, .way a p r => Lb a ∧ okP true p ∧ okP false r
  | _, _ => False
noncomputable def htP : Pn → Nat
  | .stop => 1
  | .dd _ r => htP r + 1
  | .lk _ ws => htP ws + 1
  | .nil => 0
  | .way _ p r => max (htP p) (htP r)
noncomputable def szP : Pn → Nat
  | .stop => 1
  | .dd _ r => szP r + 1
  | .lk _ ws => szP ws + 1
  | .nil => 0
  | .way _ p r => szP p + szP r
noncomputable def lnsP : Pn → List Str
  | .stop => [tStop]
  | .dd d r => (tDo ++ d) :: lnsP r
  | .lk l ws => (tLook ++ l) :: lnsP ws
  | .nil => []
  | .way a p r => (tCase ++ a) :: ((lnsP p).map (tTwo ++ ·) ++ lnsP r)
noncomputable def wtP : Pn → Nat
  | .stop => 1
  | .dd _ r => wtP r + 1
  | .lk _ ws => wtP ws + 1
  | .nil => 0
  | .way _ p r => wtP p + wtP r + 1
theorem lns_len : ∀ t : Pn, (lnsP t).length = wtP t
  | .stop => rfl
  | .dd _ r => congrArg (· + 1) (lns_len r)
  | .lk _ ws => congrArg (· + 1) (lns_len ws)
  | .nil => rfl
  | .way a p r => by
    show ((lnsP p).map (tTwo ++ ·) ++ lnsP r).length + 1 = _
    rw [List.length_append, List.length_map, lns_len p, lns_len r]
    rfl
theorem sz_le : ∀ t : Pn, szP t ≤ wtP t
  | .stop => Nat.le_refl _
  | .dd _ r => Nat.succ_le_succ (sz_le r)
  | .lk _ ws => Nat.succ_le_succ (sz_le ws)
  | .nil => Nat.le_refl _
  | .way _ p r => by
    have h1 := sz_le p
    have h2 := sz_le r
    show szP p + szP r ≤ wtP p + wtP r + 1
    lia
inductive Ln where
  | stop
  | dd (d : Str)
  | lk (l : Str)
  | case (a : Str)
noncomputable def spc (k : Nat) : Str := ⟨(List.replicate k 32).toArray⟩
theorem cs_spc (k : Nat) : cs (spc k) = List.replicate k 32 := rfl
noncomputable abbrev tCas : Str := Str.ofString "case "
noncomputable def txL : Ln → Str
  | .stop => tStop
  | .dd d => tDo ++ d
  | .lk l => tLook ++ l
  | .case a => tCas ++ a
noncomputable def rdL (x : Nat × Ln) : Str := spc x.1 ++ txL x.2
noncomputable def tkP : Pn → Nat → List (Nat × Ln)
  | .stop, k => [(k, .stop)]
  | .dd d r, k => (k, .dd d) :: tkP r k
  | .lk l ws, k => (k, .lk l) :: tkP ws k
  | .nil, _ => []
  | .way a p r, k => (k + 1, .case a) :: (tkP p (k + 2) ++ tkP r k)
theorem spc_two (k : Nat) (x : Str) : spc (k + 2) ++ x = spc k ++ (tTwo ++ x) := st_ext (by
  have e : cs tTwo = List.replicate 2 32 := by decide +kernel
  rw [cs_app, cs_app, cs_app, cs_spc, cs_spc, e, ← List.append_assoc, List.replicate_append_replicate])
theorem spc_case (k : Nat) (a : Str) : spc (k + 1) ++ (tCas ++ a) = spc k ++ (tCase ++ a) := st_ext (by
  have e : cs tCase = 32 :: cs tCas := by decide +kernel
  rw [cs_app, cs_app, cs_app, cs_app, cs_spc, cs_spc, e, List.replicate_succ']
  simp)
theorem tk_lns : ∀ (t : Pn) (k : Nat), (tkP t k).map rdL = (lnsP t).map (spc k ++ ·)
  | .stop, _ => rfl
  | .dd d r, k => by
    show rdL (k, .dd d) :: (tkP r k).map rdL = (spc k ++ (tDo ++ d)) :: (lnsP r).map (spc k ++ ·)
    rw [tk_lns r k]
    rfl
  | .lk l ws, k => by
    show rdL (k, .lk l) :: (tkP ws k).map rdL = (spc k ++ (tLook ++ l)) :: (lnsP ws).map (spc k ++ ·)
    rw [tk_lns ws k]
    rfl
  | .nil, _ => rfl
  | .way a p r, k => by
    show rdL (k + 1, .case a) :: (tkP p (k + 2) ++ tkP r k).map rdL = (spc k ++ (tCase ++ a)) :: ((lnsP p).map (tTwo ++ ·) ++ lnsP r).map (spc k ++ ·)
    rw [List.map_append, List.map_append, tk_lns p, tk_lns r, List.map_map]
    have e1 : rdL (k + 1, .case a) = spc k ++ (tCase ++ a) := spc_case k a
    have e2 : (lnsP p).map (spc (k + 2) ++ ·) = (lnsP p).map ((spc k ++ ·) ∘ (tTwo ++ ·)) := List.map_congr_left fun x _ => spc_two k x
    rw [e1, e2]
theorem tk_lns0 (t : Pn) : (tkP t 0).map rdL = lnsP t := by
  rw [tk_lns]
  have : (fun x : Str => spc 0 ++ x) = id := funext fun x => em_app x
  rw [this, List.map_id]
noncomputable abbrev Me := Nat × Option Str × Pn
noncomputable def takW (k : Nat) : List Me → Pn × List Me
  | (j, some a, p) :: S => if j = k then (.way a p (takW k S).1, (takW k S).2) else (.nil, (j, some a, p) :: S)
  | S => (.nil, S)
inductive StR : List Me → Nat × Ln → Me → List Me → Prop
  | stop {S k} : StR S (k, .stop) (k, none, .stop) S
  | dd {k d p R} : StR ((k, none, p) :: R) (k, .dd d) (k, none, .dd d p) R
  | case {k a p R} : StR ((k + 1, none, p) :: R) (k, .case a) (k, some a, p) R
  | lk {S k l ws R} (h : takW (k + 1) S = (ws, R)) (h1 : ws ≠ .nil) (h2 : (anP ws).Nodup ∧ (anP ws).length ≤ 1000) : StR S (k, .lk l) (k, none, .lk l ws) R
inductive RdR : List Me → List (Nat × Ln) → List Me → Prop
  | nil {S} : RdR S [] S
  | cons {S x m R xs S'} (h : StR S x m R) (t : RdR (m :: R) xs S') : RdR S (x :: xs) S'
theorem RdR.app {S S1 S2 : List Me} {xs ys : List (Nat × Ln)} (h : RdR S xs S1) (h2 : RdR S1 ys S2) : RdR S (xs ++ ys) S2 := by
  induction h with
  | nil => exact h2
  | cons a _ ih => exact .cons a (ih h2)
noncomputable def wMe : Pn → Nat → List Me
  | .way a p r, k => (k + 1, some a, p) :: wMe r k
  | _, _ => []
theorem wMe_le : ∀ (ws : Pn) (k : Nat), ∀ m ∈ wMe ws k, m.1 ≤ k + 1
  | .way a p r, k, m, h => by
    rcases (List.mem_cons.mp h) with e | h
    · rw [e]; exact Nat.le_refl _
    · exact wMe_le r k m h
  | .nil, _, _, h => nomatch h
  | .stop, _, _, h => nomatch h
  | .dd _ _, _, _, h => nomatch h
  | .lk _ _, _, _, h => nomatch h
theorem takW_not {k : Nat} {S : List Me} (h : ∀ m ∈ S, m.1 ≤ k) : takW (k + 1) S = (.nil, S) := by
  match S, h with
  | [], _ => rfl
  | (j, none, p) :: R, _ => rfl
  | (j, some a, p) :: R, h =>
    have hj : j ≤ k := h _ List.mem_cons_self
    show (if j = k + 1 then _ else _) = _
    rw [if_neg (by lia)]
theorem takW_ways {k : Nat} {S : List Me} (h : ∀ m ∈ S, m.1 ≤ k) : ∀ ws : Pn, okP false ws → takW (k + 1) (wMe ws k ++ S) = (ws, S)
  | .nil, _ => takW_not h
  | .way a p r, hw => by
    have e := takW_ways h r hw.2.2
    show (if k + 1 = k + 1 then (Pn.way a p (takW (k + 1) (wMe r k ++ S)).1, (takW (k + 1) (wMe r k ++ S)).2) else _) = _
    rw [if_pos rfl, e]
  | .stop, h => h.elim
  | .dd _ _, h => h.elim
  | .lk _ _, h => h.elim
theorem rd_tk : ∀ (t : Pn) (p : Bool) (k : Nat) (S : List Me), okP p t → (∀ m ∈ S, m.1 ≤ k) → RdR S (tkP t k).reverse (if p = true then (k, none, t) :: S else wMe t k ++ S)
  | .stop, true, k, S, _, _ => .cons .stop .nil
  | .dd d r, true, k, S, h, hS => by
    have h1 := rd_tk r true k S h.2 hS
    show RdR S ((k, .dd d) :: tkP r k).reverse ((k, none, .dd d r) :: S)
    rw [List.reverse_cons]
    exact h1.app (.cons .dd .nil)
  | .lk l ws, true, k, S, h, hS => by
    have h1 := rd_tk ws false k S h.2.2.2 hS
    show RdR S ((k, .lk l) :: tkP ws k).reverse ((k, none, .lk l ws) :: S)
    rw [List.reverse_cons]
    exact h1.app (.cons (.lk (takW_ways hS ws h.2.2.2) h.2.1 h.2.2.1) .nil)
  | .nil, false, k, S, _, _ => .nil
  | .way a p r, false, k, S, h, hS => by
    have h1 := rd_tk r false k S h.2.2 hS
    have h2 := rd_tk p true (k + 2) (wMe r k ++ S) h.2.1 fun m hm => by
      rcases (List.mem_append.mp hm) with hm | hm
      · have := wMe_le r k m hm; lia
      · have := hS m hm; lia
    show RdR S ((k + 1, .case a) :: (tkP p (k + 2) ++ tkP r k)).reverse ((k + 1, some a, p) :: (wMe r k ++ S))
    rw [List.reverse_cons, List.reverse_append]
    exact (h1.app h2).app (.cons .case .nil)
  | .nil, true, _, _, h, _ => h.elim
  | .way _ _ _, true, _, _, h, _ => h.elim
  | .stop, false, _, _, h, _ => h.elim
  | .dd _ _, false, _, _, h, _ => h.elim
  | .lk _ _, false, _, _, h, _ => h.elim
theorem rd_plan {t : Pn} (h : okP true t) : RdR [] (tkP t 0).reverse [(0, none, t)] := rd_tk t true 0 [] h fun _ z => nomatch z
noncomputable def lnOk : Ln → Prop
  | .stop => True
  | .dd d => Lb d
  | .lk l => Lb l
  | .case a => Lb a
theorem tk_ok : ∀ (t : Pn) (p : Bool) (k : Nat), okP p t → ∀ x ∈ tkP t k, lnOk x.2 ∧ x.1 ≤ k + (if p = true then 0 else 2) + 2 * htP t
  | .stop, true, k, _, x, hx => by
    rw [List.mem_singleton.mp hx]
    exact ⟨trivial, Nat.le_add_right ..⟩
  | .dd d r, true, k, h, x, hx => by
    rcases (List.mem_cons.mp hx) with e | hx
    · rw [e]; exact ⟨h.1, Nat.le_add_right ..⟩
    · have h1 := tk_ok r true k h.2 x hx
      have h2 : x.1 ≤ k + 0 + 2 * htP r := h1.2
      exact ⟨h1.1, by show x.1 ≤ k + 0 + 2 * (htP r + 1); lia⟩
  | .lk l ws, true, k, h, x, hx => by
    rcases (List.mem_cons.mp hx) with e | hx
    · rw [e]; exact ⟨h.1, Nat.le_add_right ..⟩
    · have h1 := tk_ok ws false k h.2.2.2 x hx
      have h2 : x.1 ≤ k + 2 + 2 * htP ws := h1.2
      exact ⟨h1.1, by show x.1 ≤ k + 0 + 2 * (htP ws + 1); lia⟩
  | .nil, false, _, _, _, hx => nomatch hx
  | .way a p r, false, k, h, x, hx => by
    have hm : htP p ≤ htP (.way a p r) ∧ htP r ≤ htP (.way a p r) := ⟨Nat.le_max_left .., Nat.le_max_right ..⟩
    show lnOk x.2 ∧ x.1 ≤ k + 2 + 2 * htP (.way a p r)
    rcases (List.mem_cons.mp hx) with e | hx
    · rw [e]; exact ⟨h.1, by show k + 1 ≤ _; lia⟩
    · rcases (List.mem_append.mp hx) with hx | hx
      · have h1 := tk_ok p true (k + 2) h.2.1 x hx
        have h2 : x.1 ≤ k + 2 + 0 + 2 * htP p := h1.2
        exact ⟨h1.1, by lia⟩
      · have h1 := tk_ok r false k h.2.2 x hx
        have h2 : x.1 ≤ k + 2 + 2 * htP r := h1.2
        exact ⟨h1.1, by lia⟩
  | .nil, true, _, h, _, _ => h.elim
  | .way _ _ _, true, _, h, _, _ => h.elim
  | .stop, false, _, h, _, _ => h.elim
  | .dd _ _, false, _, h, _, _ => h.elim
  | .lk _ _, false, _, h, _, _ => h.elim
noncomputable abbrev tSp : Str := Str.ofString " "
theorem spc_len (k : Nat) : (spc k).length = k := by rw [← cs_len, cs_spc, List.length_replicate]
theorem sp_has (c : Nat) : tSp.cps.contains c = (c == 32) := by
  have e : tSp = ⟨#[32]⟩ := st_ext (by decide +kernel)
  rw [e]
  show ([32] : List Nat).toArray.contains c = _
  rw [List.contains_toArray]
  show (c == 32 || false) = _
  rw [Bool.or_false]
theorem tw_rep {p : Nat → Bool} {c : Nat} {r : List Nat} (h1 : p 32 = true) (h2 : p c = false) : ∀ k : Nat, (List.replicate k 32 ++ c :: r).takeWhile p = List.replicate k 32
  | 0 => by rw [List.replicate_zero, List.nil_append, List.takeWhile_cons, h2]; rfl
  | k + 1 => by rw [List.replicate_succ, List.cons_append, List.takeWhile_cons, h1, if_pos rfl, tw_rep h1 h2 k]
theorem lst_spc {k c : Nat} {r : List Nat} {x : Str} (hx : cs x = c :: r) (hc : c ≠ 32) : Txt.lstripChars (spc k ++ x) tSp = x := by
  have e1 : (spc k ++ x).cps.toList = List.replicate k 32 ++ c :: r := by
    have := cs_app (spc k) x
    rw [cs_spc, hx] at this
    exact this
  have lo : stripLo tSp.cps.contains true (spc k ++ x) = k := by
    show ((spc k ++ x).cps.toList.takeWhile _).length = k
    rw [e1, tw_rep (by rw [sp_has]; rfl) (by rw [sp_has]; simpa using hc), List.length_replicate]
  have hi : stripHi tSp.cps.contains false (spc k ++ x) k = (spc k ++ x).length := rfl
  have lx : (spc k ++ x).length = k + x.length := by rw [sz_app, spc_len]
  unfold Txt.lstripChars Txt.stripBy
  by_cases hs : stripSame tSp.cps.contains true false (spc k ++ x) = true
  · rw [if_pos hs]
    unfold stripSame at hs
    rw [lo, Bool.and_eq_true, beq_iff_eq] at hs
    rw [hs.1]
    exact em_app x
  · rw [if_neg hs]
    unfold stripped
    rw [lo, hi]
    refine st_ext ?_
    show ((spc k ++ x).cps.extract k (spc k ++ x).length).toList = cs x
    rw [Array.toList_extract, e1, hx]
    have ly : (spc k ++ x).length = (List.replicate k 32 ++ c :: r).length := by rw [← cs_len]; exact congrArg List.length e1
    rw [ly]
    simp [List.extract, List.drop_append]
theorem part_sp {a b x : Str} (e : x = a ++ (tSp ++ b)) (ha : 32 ∉ cs a) : Txt.partition x tSp = (a, tSp, b) := by
  have es : tSp = ⟨#[32]⟩ := st_ext (by decide +kernel)
  have ex : x.cps.toList = cs a ++ 32 :: cs b := by
    rw [e]
    have h : cs (a ++ (tSp ++ b)) = cs a ++ (cs tSp ++ cs b) := by rw [cs_app, cs_app]
    rw [show cs tSp = [32] by decide +kernel] at h
    exact h
  have at0 : StrLaws.At x ⟨#[32]⟩ x.length a.length := (StrLaws.subAt_one x 32 a.length).mpr (by rw [ex, List.getElem?_append_right (by rw [cs_len]; exact Nat.le_refl _), cs_len, Nat.sub_self]; rfl)
  rcases partition_whole x tSp with ⟨_, hn⟩ | ⟨i, hp, hi, hn⟩
  · rw [es] at hn
    exact absurd at0 (hn _)
  · rw [es] at hi hn
    have hi' := (StrLaws.subAt_one x 32 i).mp hi
    have ei : i = a.length := by
      rcases Nat.lt_trichotomy i a.length with h | h | h
      · exfalso
        rw [ex, List.getElem?_append_left (by rw [cs_len]; exact h)] at hi'
        exact ha (List.mem_of_getElem? hi')
      · exact h
      · exact absurd at0 (hn _ h)
    subst ei
    rw [hp]
    have lt : tSp.length = 1 := by decide +kernel
    have lx : x.length = (cs a ++ 32 :: cs b).length := by rw [← cs_len]; exact congrArg List.length ex
    have ea : Builtin.Str.strSub x 0 a.length = a := st_ext (by
      show (x.cps.extract 0 a.length).toList = cs a
      rw [Array.toList_extract, ex, ← cs_len a]
      simp [List.extract])
    have eb : Builtin.Str.strSub x (a.length + tSp.length) x.length = b := st_ext (by
      show (x.cps.extract (a.length + tSp.length) x.length).toList = cs b
      rw [Array.toList_extract, ex, lt, lx, ← cs_len a]
      show ((cs a ++ 32 :: cs b).drop ((cs a).length + 1)).take _ = cs b
      rw [List.drop_length_add_append]
      refine List.take_of_length_le ?_
      rw [List.length_append, List.drop_succ_cons, List.drop_zero, List.length_cons]
      lia)
    rw [ea, eb]
theorem StR.len {S : List Me} {x : Nat × Ln} {e : Me} {R : List Me} (h : StR S x e R) : R.length ≤ S.length := by
  have tk : ∀ (k : Nat) (S : List Me), (takW k S).2.length ≤ S.length := fun k S => by
    induction S with
    | nil => exact Nat.le_refl _
    | cons e S ih =>
      obtain ⟨j, o, p⟩ := e
      by_cases hj : j = k
      · cases o with
        | none => exact Nat.le_refl _
        | some a =>
          show (if j = k then (Pn.way a p (takW k S).1, (takW k S).2) else _).2.length ≤ _
          rw [if_pos hj]
          exact Nat.le_succ_of_le ih
      · cases o with
        | none => exact Nat.le_refl _
        | some a =>
          show (if j = k then _ else (Pn.nil, (j, some a, p) :: S)).2.length ≤ _
          rw [if_neg hj]
          exact Nat.le_refl _
  cases h with
  | stop => exact Nat.le_refl _
  | dd => exact Nat.le_succ _
  | case => exact Nat.le_succ _
  | @lk _ k _ _ _ h =>
    have := tk (k + 1) S
    rw [h] at this
    exact this
noncomputable abbrev tD : Str := Str.ofString "do"
noncomputable abbrev tL : Str := Str.ofString "look"
noncomputable abbrev tCa : Str := Str.ofString "case"
theorem tx_do (d : Str) : tDo ++ d = tD ++ (tSp ++ d) := by
  rw [← ap_assoc]
  exact congrArg (· ++ d) (st_ext (by decide +kernel) : tDo = tD ++ tSp)
theorem tx_lk (d : Str) : tLook ++ d = tL ++ (tSp ++ d) := by
  rw [← ap_assoc]
  exact congrArg (· ++ d) (st_ext (by decide +kernel) : tLook = tL ++ tSp)
theorem tx_ca (d : Str) : tCas ++ d = tCa ++ (tSp ++ d) := by
  rw [← ap_assoc]
  exact congrArg (· ++ d) (st_ext (by decide +kernel) : tCas = tCa ++ tSp)
theorem tx_head : ∀ l : Ln, ∃ c r, cs (txL l) = c :: r ∧ c ≠ 32 ∧ (c = 115 ↔ l = .stop)
  | .stop => ⟨115, [116, 111, 112], by decide +kernel, by decide, by simp⟩
  | .dd d => ⟨100, [111, 32] ++ cs d, by
    show cs (tDo ++ d) = _
    rw [cs_app, show cs tDo = [100, 111, 32] by decide +kernel]
    rfl, by decide, by simp⟩
  | .lk d => ⟨108, [111, 111, 107, 32] ++ cs d, by
    show cs (tLook ++ d) = _
    rw [cs_app, show cs tLook = [108, 111, 111, 107, 32] by decide +kernel]
    rfl, by decide, by simp⟩
  | .case d => ⟨99, [97, 115, 101, 32] ++ cs d, by
    show cs (tCas ++ d) = _
    rw [cs_app, show cs tCas = [99, 97, 115, 101, 32] by decide +kernel]
    rfl, by decide, by simp⟩
theorem rd_strip (x : Nat × Ln) : Txt.lstripChars (rdL x) tSp = txL x.2 := by
  obtain ⟨c, r, e, hc, _⟩ := tx_head x.2
  exact lst_spc e hc
theorem tx_not {l : Ln} (h : l ≠ .stop) : txL l ≠ tStop := fun e => by
  obtain ⟨c, r, e1, _, e3⟩ := tx_head l
  rw [e, show cs tStop = [115, 116, 111, 112] by decide +kernel] at e1
  have : c = 115 := (List.cons.inj e1).1.symm
  exact h (e3.mp this)
theorem tx_len {l : Ln} (h : lnOk l) : (txL l).length ≤ 40 := by
  cases l with
  | stop => decide +kernel
  | dd d => have := h.l2; show (tDo ++ d).length ≤ 40; rw [sz_app, show tDo.length = 3 by decide +kernel]; lia
  | lk d => have := h.l2; show (tLook ++ d).length ≤ 40; rw [sz_app, show tLook.length = 5 by decide +kernel]; lia
  | case d => have := h.l2; show (tCas ++ d).length ≤ 40; rw [sz_app, show tCas.length = 5 by decide +kernel]; lia
theorem rd_len (x : Nat × Ln) : (rdL x).length = x.1 + (txL x.2).length := by
  show (spc x.1 ++ txL x.2).length = _
  rw [sz_app, spc_len]
theorem pt_do (d : Str) : Txt.partition (tDo ++ d) tSp = (tD, tSp, d) := part_sp (tx_do d) (by decide +kernel)
theorem pt_lk (d : Str) : Txt.partition (tLook ++ d) tSp = (tL, tSp, d) := part_sp (tx_lk d) (by decide +kernel)
theorem pt_ca (d : Str) : Txt.partition (tCas ++ d) tSp = (tCa, tSp, d) := part_sp (tx_ca d) (by decide +kernel)
noncomputable def TrAt (H : Hp) : Pn → List V → Prop
  | .stop, vs => ∃ t : Addr, vs = [.ref t] ∧ H t = some (.tup [.str tStop])
  | .dd d r, vs => ∃ (t : Addr) (v : V), vs = [.ref t] ∧ H t = some (.tup [.str (Str.ofString "do"), .str d, v]) ∧ TrAt H r [v]
  | .lk l ws, vs => ∃ (t u : Addr) (us : List V), vs = [.ref t] ∧ H t = some (.tup [.str (Str.ofString "look"), .str l, .ref u]) ∧ H u = some (.lst us) ∧ TrAt H ws us
  | .nil, vs => vs = []
  | .way a p r, vs => ∃ (t : Addr) (v : V) (us : List V), vs = .ref t :: us ∧ H t = some (.tup [.str a, v]) ∧ TrAt H p [v] ∧ TrAt H r us
theorem TrAt.same {H H' : Hp} (s : Same H H') : ∀ {t : Pn} {vs : List V}, TrAt H t vs → TrAt H' t vs
  | .stop, _, ⟨t, e, h⟩ => ⟨t, e, s _ _ h⟩
  | .dd _ _, _, ⟨t, v, e, h, r⟩ => ⟨t, v, e, s _ _ h, TrAt.same s r⟩
  | .lk _ _, _, ⟨t, u, us, e, h, h2, r⟩ => ⟨t, u, us, e, s _ _ h, s _ _ h2, TrAt.same s r⟩
  | .nil, _, e => e
  | .way _ _ _, _, ⟨t, v, us, e, h, p, r⟩ => ⟨t, v, us, e, s _ _ h, TrAt.same s p, TrAt.same s r⟩
structure C3 where
  s : Addr
  d : Addr
  l : Addr
noncomputable def fDo (d : Str) (v : V) : List (Str × V) := putF "rest" v (putF "deed" (.str d) [])
noncomputable def fLk (l : Str) (v : V) : List (Str × V) := putF "told_ways" v (putF "look" (.str l) [])
noncomputable def PlAt (C : C3) (H : Hp) : Pn → List V → Prop
  | .stop, vs => ∃ o dx : Addr, vs = [.ref o] ∧ H o = some (.ins C.s dx [])
  | .dd d r, vs => ∃ (o dx : Addr) (v : V), vs = [.ref o] ∧ H o = some (.ins C.d dx (fDo d v)) ∧ PlAt C H r [v]
  | .lk l ws, vs => ∃ (o dx u : Addr) (us : List V), vs = [.ref o] ∧ H o = some (.ins C.l dx (fLk l (.ref u))) ∧ H u = some (.tup us) ∧ PlAt C H ws us
  | .nil, vs => vs = []
  | .way a p r, vs => ∃ (t : Addr) (v : V) (us : List V), vs = .ref t :: us ∧ H t = some (.tup [.str a, v]) ∧ PlAt C H p [v] ∧ PlAt C H r us
theorem PlAt.same {C : C3} {H H' : Hp} (s : Same H H') : ∀ {t : Pn} {vs : List V}, PlAt C H t vs → PlAt C H' t vs
  | .stop, _, ⟨t, dx, e, h⟩ => ⟨t, dx, e, s _ _ h⟩
  | .dd _ _, _, ⟨t, dx, v, e, h, r⟩ => ⟨t, dx, v, e, s _ _ h, PlAt.same s r⟩
  | .lk _ _, _, ⟨t, dx, u, us, e, h, h2, r⟩ => ⟨t, dx, u, us, e, s _ _ h, s _ _ h2, PlAt.same s r⟩
  | .nil, _, e => e
  | .way _ _ _, _, ⟨t, v, us, e, h, p, r⟩ => ⟨t, v, us, e, s _ _ h, PlAt.same s p, PlAt.same s r⟩
structure ClD (K : PySem.W.Frag) (C : Addr) : Prop where
  cl : Cls K C
  n1 : NoAttr K C "deed"
  n2 : NoAttr K C "rest"
structure ClL (K : PySem.W.Frag) (C : Addr) : Prop where
  cl : Cls K C
  n1 : NoAttr K C "look"
  n2 : NoAttr K C "told_ways"
theorem fDo_d (d : Str) (v : V) : (fDo d v).lookup ("deed" : Str) = some (.str d) := rfl
theorem fDo_r (d : Str) (v : V) : (fDo d v).lookup ("rest" : Str) = some v := rfl
theorem fLk_l (l : Str) (v : V) : (fLk l v).lookup ("look" : Str) = some (.str l) := rfl
theorem fLk_w (l : Str) (v : V) : (fLk l v).lookup ("told_ways" : Str) = some v := rfl
structure WyAt (H : Hp) (us : List V) (as : List Str) : Prop where
  len : us.length = as.length
  got : ∀ (i : Nat) u a, us[i]? = some u → as[i]? = some a → ∃ (t : Addr) (v : V), u = .ref t ∧ H t = some (.tup [.str a, v])
theorem WyAt.same {H H' : Hp} {us : List V} {as : List Str} (h : WyAt H us as) (s : Same H H') : WyAt H' us as := ⟨h.len, fun i u a h1 h2 => by
  obtain ⟨t, v, e, z⟩ := h.got i u a h1 h2
  exact ⟨t, v, e, s _ _ z⟩⟩
theorem WyAt.at {H : Hp} {us : List V} {as : List Str} (h : WyAt H us as) {i : Nat} {u : V} (e : us[i]? = some u) : ∃ (a : Str) (t : Addr) (v : V), as[i]? = some a ∧ u = .ref t ∧ H t = some (.tup [.str a, v]) := by
  have hi := (List.getElem?_eq_some_iff.mp e).1
  have ha : as[i]? = some (as[i]'(by rw [← h.len]; exact hi)) := List.getElem?_eq_getElem _
  obtain ⟨t, v, e1, e2⟩ := h.got i u _ e ha
  exact ⟨_, t, v, ha, e1, e2⟩
noncomputable abbrev pStopGoesOn : List Str := ["self"]
noncomputable abbrev nStopGoesOn : List Str := ["self"]
theorem scStopGoesOn : FnScope nStopGoesOn pStopGoesOn (defScope sStopGoesOn) := ⟨rfl, rfl, rfl, by decide +kernel, rfl, by decide +kernel, by decide +kernel⟩
noncomputable abbrev pStopLineHere : List Str := ["self"]
noncomputable abbrev nStopLineHere : List Str := ["self"]
theorem scStopLineHere : FnScope nStopLineHere pStopLineHere (defScope sStopLineHere) := ⟨rfl, rfl, rfl, by decide +kernel, rfl, by decide +kernel, by decide +kernel⟩
noncomputable abbrev pDoInit : List Str := ["self", "deed", "rest"]
noncomputable abbrev nDoInit : List Str := ["self", "deed", "rest"]
theorem scDoInit : FnScope nDoInit pDoInit (defScope sDoInit) := ⟨rfl, rfl, rfl, by decide +kernel, rfl, by decide +kernel, by decide +kernel⟩
noncomputable abbrev pDoGoesOn : List Str := ["self"]
noncomputable abbrev nDoGoesOn : List Str := ["self"]
theorem scDoGoesOn : FnScope nDoGoesOn pDoGoesOn (defScope sDoGoesOn) := ⟨rfl, rfl, rfl, by decide +kernel, rfl, by decide +kernel, by decide +kernel⟩
noncomputable abbrev pDoLineHere : List Str := ["self"]
noncomputable abbrev nDoLineHere : List Str := ["self"]
theorem scDoLineHere : FnScope nDoLineHere pDoLineHere (defScope sDoLineHere) := ⟨rfl, rfl, rfl, by decide +kernel, rfl, by decide +kernel, by decide +kernel⟩
noncomputable abbrev pCheckWays : List Str := ["ways"]
noncomputable abbrev nCheckWays : List Str := ["ways", "answers"]
theorem scCheckWays : FnScope nCheckWays pCheckWays (defScope sCheckWays) := ⟨rfl, rfl, rfl, by decide +kernel, rfl, by decide +kernel, by decide +kernel⟩
noncomputable abbrev pLookInit : List Str := ["self", "look", "ways"]
noncomputable abbrev nLookInit : List Str := ["self", "look", "ways", "told"]
theorem scLookInit : FnScope nLookInit pLookInit (defScope sLookInit) := ⟨rfl, rfl, rfl, by decide +kernel, rfl, by decide +kernel, by decide +kernel⟩
noncomputable abbrev pLookWays : List Str := ["self"]
noncomputable abbrev nLookWays : List Str := ["self"]
theorem scLookWays : FnScope nLookWays pLookWays (defScope sLookWays) := ⟨rfl, rfl, rfl, by decide +kernel, rfl, by decide +kernel, by decide +kernel⟩
noncomputable abbrev pLookGoesOn : List Str := ["self"]
noncomputable abbrev nLookGoesOn : List Str := ["self"]
theorem scLookGoesOn : FnScope nLookGoesOn pLookGoesOn (defScope sLookGoesOn) := ⟨rfl, rfl, rfl, by decide +kernel, rfl, by decide +kernel, by decide +kernel⟩
noncomputable abbrev pLookLineHere : List Str := ["self"]
noncomputable abbrev nLookLineHere : List Str := ["self"]
theorem scLookLineHere : FnScope nLookLineHere pLookLineHere (defScope sLookLineHere) := ⟨rfl, rfl, rfl, by decide +kernel, rfl, by decide +kernel, by decide +kernel⟩
noncomputable abbrev pTakePlan : List Str := ["made", "ahead"]
noncomputable abbrev nTakePlan : List Str := ["made", "ahead"]
theorem scTakePlan : FnScope nTakePlan pTakePlan (defScope sTakePlan) := ⟨rfl, rfl, rfl, by decide +kernel, rfl, by decide +kernel, by decide +kernel⟩
noncomputable abbrev pTakeWays : List Str := ["made", "ahead"]
noncomputable abbrev nTakeWays : List Str := ["made", "ahead", "ways"]
theorem scTakeWays : FnScope nTakeWays pTakeWays (defScope sTakeWays) := ⟨rfl, rfl, rfl, by decide +kernel, rfl, by decide +kernel, by decide +kernel⟩
inductive spStopGo (vs : List V) (H : Hp) (Q : VK) (E0_ : XK) : Prop
  | mk (x : V) (c0 : vs = [x]) (c1 : ∀ l : Addr, H l = none → Q (.ref l) (upd H l (.lst []))) : spStopGo  vs H Q E0_
inductive spStopHere (vs : List V) (H : Hp) (Q : VK) (E0_ : XK) : Prop
  | mk (x : V) (c0 : vs = [x]) (c1 : Q (.str tStop) H) : spStopHere  vs H Q E0_
inductive spDoInit (C : Addr) (vs : List V) (H : Hp) (Q : VK) (E0_ : XK) : Prop
  | mk (x dx : Addr) (d : Str) (v : V) (c0 : vs = [.ref x, .str d, v]) (c1 : H x = some (.ins C dx [])) (c2 : ∀ H' : Hp, (∀ c u, H c = some u → c ≠ x → H' c = some u) → H' x = some (.ins C dx (fDo d v)) → Q .non H') : spDoInit C vs H Q E0_
inductive spDoGo (C : Addr) (vs : List V) (H : Hp) (Q : VK) (E0_ : XK) : Prop
  | mk (x dx : Addr) (d : Str) (v : V) (c0 : vs = [.ref x]) (c1 : H x = some (.ins C dx (fDo d v))) (c2 : ∀ (l t : Addr) (H' : Hp), Same H H' → H l = none → H' l = some (.lst [.ref t]) → H' t = some (.tup [.non, v]) → Q (.ref l) H') : spDoGo C vs H Q E0_
inductive spDoHere (C : Addr) (vs : List V) (H : Hp) (Q : VK) (E0_ : XK) : Prop
  | mk (x dx : Addr) (d : Str) (v : V) (c0 : vs = [.ref x]) (c1 : H x = some (.ins C dx (fDo d v))) (c2 : d.length ≤ 1000) (c3 : Q (.str (tDo ++ d)) H) : spDoHere C vs H Q E0_
inductive spCheckWays (vs : List V) (H : Hp) (Q : VK) (E0_ : XK) : Prop
  | mk (t : Addr) (us : List V) (as : List Str) (c0 : vs = [.ref t]) (c1 : H t = some (.tup us)) (c2 : WyAt H us as) (c3 : as ≠ []) (c4 : as.Nodup) (c5 : as.length ≤ 1000) (c6 : ∀ H' : Hp, Same H H' → Q .non H') : spCheckWays  vs H Q E0_
inductive spLkInit (C : Addr) (vs : List V) (H : Hp) (Q : VK) (E0_ : XK) : Prop
  | mk (x dx u : Addr) (l : Str) (us : List V) (as : List Str) (c0 : vs = [.ref x, .str l, .ref u]) (c1 : H x = some (.ins C dx [])) (c2 : H u = some (.lst us)) (c3 : WyAt H us as) (c4 : as ≠ []) (c5 : as.Nodup) (c6 : as.length ≤ 1000) (c7 : ∀ (tw : Addr) (H' : Hp), (∀ c u, H c = some u → c ≠ x → H' c = some u) → H' x = some (.ins C dx (fLk l (.ref tw))) → H' tw = some (.tup us) → Q .non H') : spLkInit C vs H Q E0_
inductive spLkWays (C : Addr) (vs : List V) (H : Hp) (Q : VK) (E0_ : XK) : Prop
  | mk (x dx u : Addr) (l : Str) (us : List V) (c0 : vs = [.ref x]) (c1 : H x = some (.ins C dx (fLk l (.ref u)))) (c2 : H u = some (.tup us)) (c3 : ∀ r : Addr, H r = none → Q (.ref r) (upd H r (.lst us))) : spLkWays C vs H Q E0_
inductive spLkHere (C : Addr) (vs : List V) (H : Hp) (Q : VK) (E0_ : XK) : Prop
  | mk (x dx : Addr) (l : Str) (v : V) (c0 : vs = [.ref x]) (c1 : H x = some (.ins C dx (fLk l v))) (c2 : l.length ≤ 1000) (c3 : Q (.str (tLook ++ l)) H) : spLkHere C vs H Q E0_
theorem ok_stopgo {f : Addr} {fd : FuncData} (F : Fun K "goes_on" "Stop.goes_on" sStopGoesOn f fd) : FnOk P w K mg base CX0 1 f fd pStopGoesOn spStopGo := by
  refine F.ok scStopGoesOn (fun vs H Q E h => ?_) (fun cdv A outer s H vs Q E hr h => ?_)
  · obtain ⟨x, rfl, _⟩ := h
    rfl
  · obtain ⟨x, rfl, q⟩ := h
    refine ⟨_, (pss_one (ps_ret (pe_lst pa_nil))), ?_⟩
    exact ⟨by show 0 ≤ sizeLine; lia, q⟩
theorem ok_stophere {f : Addr} {fd : FuncData} (F : Fun K "line_here" "Stop.line_here" sStopLineHere f fd) : FnOk P w K mg base CX0 1 f fd pStopLineHere spStopHere := by
  refine F.ok scStopLineHere (fun vs H Q E h => ?_) (fun cdv A outer s H vs Q E hr h => ?_)
  · obtain ⟨x, rfl, _⟩ := h
    rfl
  · obtain ⟨x, rfl, q⟩ := h
    refine ⟨_, (pss_one (ps_ret pe_str)), ?_⟩
    exact q
theorem ok_doinit {f C : Addr} {fd : FuncData} (F : Fun K "__init__" "Do.__init__" sDoInit f fd) (L : ClD K C) : FnOk P w K mg base CX0 1 f fd pDoInit (spDoInit C) := by
  refine F.ok scDoInit (fun vs H Q E h => ?_) (fun cdv A outer s H vs Q E hr h => ?_)
  · obtain ⟨x, dx, d, v, rfl, _⟩ := h
    rfl
  · obtain ⟨x, dx, d, v, rfl, hx, q⟩ := h
    refine ⟨_, (pss_cons (ps_fld (pv 0) (pv 1) rfl)
      (pss_one (ps_fld (pv 0) (pv 2) rfl))), ?_⟩
    refine ⟨_, rfl, _, rfl, x, C, dx, [], rfl, hx, L.cl, L.n1, by show 0 < 1000; decide, ?_⟩
    refine ⟨_, rfl, _, rfl, x, C, dx, _, rfl, upd_same, L.cl, L.n2, by show 1 < 1000; decide, ?_⟩
    refine q _ (fun c u e hc => by rw [upd_ne hc, upd_ne hc]; exact e) ?_
    rw [upd_same]
    rfl
theorem ok_dogo {f C : Addr} {fd : FuncData} (F : Fun K "goes_on" "Do.goes_on" sDoGoesOn f fd) (L : ClD K C) : FnOk P w K mg base CX0 1 f fd pDoGoesOn (spDoGo C) := by
  refine F.ok scDoGoesOn (fun vs H Q E h => ?_) (fun cdv A outer s H vs Q E hr h => ?_)
  · obtain ⟨x, dx, d, v, rfl, _⟩ := h
    rfl
  · obtain ⟨x, dx, d, v, rfl, hx, q⟩ := h
    have hsl : sizeLine = 16777216 := sizeLine_eq
    refine ⟨_, (pss_one (ps_ret (pe_lst (pa_cons (pe_tup (pa_cons pe_non (pa_cons (pe_fld (pv 0) rfl) pa_nil))) pa_nil)))), ?_⟩
    refine ⟨_, rfl, x, C, dx, _, _, rfl, hx, L.cl, L.n2, fDo_r d v, by show 2 ≤ sizeLine; lia, fun t ht => ?_⟩
    have s1 := Same.new (o := .tup [.non, v]) ht
    refine ⟨by show 1 ≤ sizeLine; lia, fun l hl => ?_⟩
    exact q l t _ (s1.trans (Same.new hl)) (s1.free hl) upd_same (by rw [upd_ne (ne_of_none upd_same hl)]; exact upd_same)
theorem ok_dohere {f C : Addr} {fd : FuncData} (F : Fun K "line_here" "Do.line_here" sDoLineHere f fd) (L : ClD K C) : FnOk P w K mg base CX0 1 f fd pDoLineHere (spDoHere C) := by
  refine F.ok scDoLineHere (fun vs H Q E h => ?_) (fun cdv A outer s H vs Q E hr h => ?_)
  · obtain ⟨x, dx, d, v, rfl, _⟩ := h
    rfl
  · obtain ⟨x, dx, d, v, rfl, hx, hd, q⟩ := h
    have hsl : sizeLine = 16777216 := sizeLine_eq
    have h3 : tDo.length = 3 := by decide +kernel
    refine ⟨_, (pss_one (ps_ret (pe_op op_add_str pe_str (pe_fld (pv 0) rfl)))), ?_⟩
    refine ⟨_, rfl, x, C, dx, _, _, rfl, hx, L.cl, L.n1, fDo_d d v, _, _, rfl, rfl, by show tDo.length + d.length ≤ _; lia, q⟩
theorem ok_checkways {f : Addr} {fd : FuncData} (F : Fun K "check_ways" "check_ways" sCheckWays f fd) (T : Bl mg) : FnOk P w K mg base CX0 1 f fd pCheckWays spCheckWays := by
  refine F.ok scCheckWays (fun vs H Q E h => ?_) (fun cdv A outer s H vs Q E hr h => ?_)
  · obtain ⟨t, us, as, rfl, _⟩ := h
    rfl
  · obtain ⟨t, us, as, rfl, ht, wy, ne, nd, ml, q⟩ := h
    have hsl : sizeLine = 16777216 := sizeLine_eq
    have hul := wy.len
    refine ⟨_, (pss_cons (ps_lc (i := 1) (N := ["way"]) (sc := defScope sCheckWays) (own := ["way"]) (fr := []) (js := []) scCheckWays.nd rfl rfl ⟨rfl, rfl, rfl, rfl, by decide +kernel, by decide +kernel, by decide +kernel, rfl, by decide +kernel⟩ rfl (pi_tup (pv 0)) (fun _ _ _ _ => pg_name (i := 0) (show List.Nodup (["way"] : List Str) by decide +kernel) rfl (Or.inl rfl)) (fun _ _ _ _ => pif_nil) (fun _ _ _ _ => (pe_ix (ix_tupK K rfl) (pv 0) pe_int (fun _ _ => rfl))))
      (pss_cons (ps_if (pt_cmpR op_eq (pe_callB call_len (by rfl) T.len PySem.boot_len (pa_cons (pv 1) pa_nil)) pe_int (nomark _)) pss_never pss_nil)
      (pss_one (ps_if (pt_cmpR op_lt (pe_callB call_lenS (by rfl) T.len PySem.boot_len (pa_cons (pe_callTy (call_setK rfl) (by rfl) T.set bt_set (pa_cons (pv 1) pa_nil)) pa_nil)) (pe_callB call_len (by rfl) T.len PySem.boot_len (pa_cons (pv 1) pa_nil)) (nomark _)) pss_never pss_nil)))), ?_⟩
    refine ⟨_, rfl, t, rfl, ⟨_, SqT.of ht⟩, fun D hD => ?_⟩
    refine lcJ (n := us.length) (fun i ys H4 => ys = (as.take i).map V.str ∧ Same H H4 ∧ H4 D = some (.lst ys)) ⟨rfl, Same.new hD, upd_same⟩
      (fun i ys H4 hi hh0 => by obtain ⟨_, s4, _⟩ := hh0; exact ⟨_, us[i], SqT.of (s4 _ _ ht), by simp [hi]⟩) (fun ys H4 hh0 => by obtain ⟨_, s4, _⟩ := hh0; exact ⟨_, SqT.of (s4 _ _ ht), by simp⟩) ?_ ?_
    · rintro i ys H4 y H5 hi ⟨rfl, s4, e4⟩ ⟨rfl, hy⟩
      refine lc_yes ?_
      obtain ⟨a, a', v, ha, rfl, et⟩ := wy.at (hy _ (SqT.of (s4 _ _ ht)))
      have at0 : atI [V.str a, v] ((0 : Nat) : Int) = some (.str a) := atI_nat rfl
      refine ⟨_, rfl, a', _, _, _, rfl, rfl, SqT.of (s4 _ _ et), at0, _, e4, by simp only [List.length_map, List.length_take]; lia, ?_, s4.put hD, upd_same⟩
      obtain ⟨hi2, e⟩ := List.getElem?_eq_some_iff.mp ha
      rw [List.take_succ_eq_append_getElem hi2, List.map_append, e]
      rfl
    rintro ys H4 ⟨rfl, s4, e4⟩
    rw [hul, List.take_length] at e4
    have hml : (as.map V.str).length = as.length := List.length_map ..
    have h0 : 0 < as.length := List.length_pos_iff.mpr ne
    refine ⟨_, rfl, _, _, rfl, .inl ⟨_, SqL.of e4, rfl⟩, rfl, _, rfl, ?_⟩
    refine ite2 (fun z => ?_) (fun _ => ?_)
    · exfalso
      have h9 := of_decide_eq_true z
      rw [hml] at h9
      have h8 := V.int.inj h9
      lia
    have ek : as.map V.str = (as.map (Sum.inr : Str → Key)).map kV := by
      rw [List.map_map]
      rfl
    have hdd := set_len nd
    have hks : (as.map (Sum.inr : Str → Key)).length = as.length := List.length_map ..
    refine ⟨_, rfl, D, as.map Sum.inr, rfl, SqL.of (by rw [← ek]; exact e4), by lia, fun st' hst' => ?_⟩
    have s5 : Same H4 (upd H4 st' (setO P w st' (SK.dd (kAt (as.map (Sum.inr : Str → Key))) (as.map (Sum.inr : Str → Key)).length).length)) := Same.new hst'
    refine ⟨st', _, rfl, upd_same, _, rfl, _, _, rfl, .inl ⟨_, SqL.of (s5 _ _ e4), rfl⟩, _, _, rfl, rfl, _, rfl, ?_⟩
    refine ite2 (fun z => ?_) (fun _ => ?_)
    · exfalso
      have := of_decide_eq_true z
      rw [hdd, hml] at this
      lia
    exact q _ (s4.trans s5)
theorem ok_lkhere {f C : Addr} {fd : FuncData} (F : Fun K "line_here" "Look.line_here" sLookLineHere f fd) (LL : ClL K C) : FnOk P w K mg base CX0 1 f fd pLookLineHere (spLkHere C) := by
  refine F.ok scLookLineHere (fun vs H Q E h => ?_) (fun cdv A outer s H vs Q E hr h => ?_)
  · obtain ⟨x, dx, l, v, rfl, _⟩ := h
    rfl
  · obtain ⟨x, dx, l, v, rfl, hx, hd, q⟩ := h
    have hsl : sizeLine = 16777216 := sizeLine_eq
    have h3 : tLook.length = 5 := by decide +kernel
    refine ⟨_, (pss_one (ps_ret (pe_op op_add_str pe_str (pe_fld (pv 0) rfl)))), ?_⟩
    exact ⟨_, rfl, x, C, dx, _, _, rfl, hx, LL.cl, LL.n1, fLk_l l v, _, _, rfl, rfl, by show tLook.length + l.length ≤ _; lia, q⟩
theorem ok_lkways {f C : Addr} {fd : FuncData} (F : Fun K "ways" "Look.ways" sLookWays f fd) (LL : ClL K C) (T : Bl mg) : FnOk P w K mg base CX0 1 f fd pLookWays (spLkWays C) := by
  refine F.ok scLookWays (fun vs H Q E h => ?_) (fun cdv A outer s H vs Q E hr h => ?_)
  · obtain ⟨x, dx, u, l, us, rfl, _⟩ := h
    rfl
  · obtain ⟨x, dx, u, l, us, rfl, hx, hu, q⟩ := h
    refine ⟨_, (pss_one (ps_ret (pe_callTy call_list_of (by rfl) T.list bt_list (pa_cons (pe_fld (pv 0) rfl) pa_nil)))), ?_⟩
    exact ⟨_, rfl, x, C, dx, _, _, rfl, hx, LL.cl, LL.n2, fLk_w l _, u, _, rfl, .inr (SqT.of hu), q⟩
theorem ok_lkgo {f f1 C : Addr} {fd d1 : FuncData} (F : Fun K "goes_on" "Look.goes_on" sLookGoesOn f fd) (LL : ClL K C) (b_ways : Binds K d1 ["self"] []) (m_ways : Meth K C "ways" f1) (G_ways : FnOk P w K mg base CX0 1 f1 d1 pLookWays (spLkWays C)) : FnOk P w K mg base CX0 2 f fd pLookGoesOn (spLkWays C) := by
  refine F.ok scLookGoesOn (fun vs H Q E h => ?_) (fun cdv A outer s H vs Q E hr1 h => ?_)
  · obtain ⟨x, dx, u, l, us, rfl, _⟩ := h
    rfl
  · obtain ⟨x, dx, u, l, us, rfl, hx, hu, q⟩ := h
    refine ⟨_, (pss_one (ps_ret (pe_meth0 (pv 0) LL.cl m_ways G_ways hr1 b_ways .nil pass0))), ?_⟩
    exact ⟨_, rfl, x, dx, _, rfl, hx, rfl, x, dx, u, l, us, rfl, hx, hu, q⟩
theorem ok_lkinit {f f1 C : Addr} {fd d1 : FuncData} (F : Fun K "__init__" "Look.__init__" sLookInit f fd) (LL : ClL K C) (T : Bl mg) (D_check_ways : Df K mg "check_ways" sCheckWays pCheckWays f1 d1) (G_check_ways : FnOk P w K mg base CX0 1 f1 d1 pCheckWays spCheckWays) : FnOk P w K mg base CX0 2 f fd pLookInit (spLkInit C) := by
  refine F.ok scLookInit (fun vs H Q E h => ?_) (fun cdv A outer s H vs Q E hr1 h => ?_)
  · obtain ⟨x, dx, u, l, us, as, rfl, _⟩ := h
    rfl
  · obtain ⟨x, dx, u, l, us, as, rfl, hx, hu, wy, ne, nd, ml, q⟩ := h
    have hsl : sizeLine = 16777216 := sizeLine_eq
    have hul := wy.len
    refine ⟨_, (pss_cons (ps_set (i := 3) scLookInit.nd rfl (Or.inl rfl) (pe_callTy call_tuple_of (by rfl) T.tuple bt_tuple (pa_cons (pe_lc (N := ["way"]) (sc := defScope sLookInit) (own := ["way"]) (fr := []) (js := []) ⟨rfl, rfl, rfl, rfl, by decide +kernel, by decide +kernel, by decide +kernel, rfl, by decide +kernel⟩ rfl (pi_list (pv 2)) (fun _ _ _ _ => pg_name (i := 0) (show List.Nodup (["way"] : List Str) by decide +kernel) rfl (Or.inl rfl)) (fun _ _ _ _ => pif_nil) (fun _ _ _ _ => (pe_callTy (call_tupK K rfl) (by rfl) T.tuple bt_tuple (pa_cons (pv 0) pa_nil)))) pa_nil)))
      (pss_cons (ps_expr (pe_call G_check_ways hr1 (by rfl) D_check_ways.m D_check_ways.F.kp D_check_ways.b .nil pass0 (pa_cons (pv 3) pa_nil)))
      (pss_cons (ps_fld (pv 0) (pv 1) rfl)
      (pss_one (ps_fld (pv 0) (pv 3) rfl))))), ?_⟩
    refine ⟨_, rfl, u, rfl, ⟨_, SqL.of hu⟩, fun D hD => ?_⟩
    refine lcJ (n := us.length) (fun i ys H4 => ys = us.take i ∧ Same H H4 ∧ H4 D = some (.lst ys)) ⟨rfl, Same.new hD, upd_same⟩
      (fun i ys H4 hi hh0 => by obtain ⟨_, s4, _⟩ := hh0; exact ⟨_, us[i], SqL.of (s4 _ _ hu), by simp [hi]⟩) (fun ys H4 hh0 => by obtain ⟨_, s4, _⟩ := hh0; exact ⟨_, SqL.of (s4 _ _ hu), by simp⟩) ?_ ?_
    · rintro i ys H4 y H5 hi ⟨rfl, s4, e4⟩ ⟨rfl, hy⟩
      refine lc_yes ?_
      have hyu := hy _ (SqL.of (s4 _ _ hu))
      obtain ⟨a, a', v, ha, rfl, et⟩ := wy.at hyu
      refine ⟨_, rfl, a', _, rfl, .inr ⟨SqT.of (s4 _ _ et), ?_⟩⟩
      refine ⟨_, e4, by rw [List.length_take]; lia, ?_, s4.put hD, upd_same⟩
      obtain ⟨hi2, e⟩ := List.getElem?_eq_some_iff.mp hyu
      rw [List.take_succ_eq_append_getElem hi2, e]
    rintro ys H4 ⟨rfl, s4, e4⟩
    rw [List.take_length] at e4
    refine ⟨D, _, rfl, .inl ⟨SqL.of e4, fun tw htw => ?_⟩⟩
    have s5 : Same H4 (upd H4 tw (.tup us)) := Same.new htw
    have e5 : (upd H4 tw (.tup us)) tw = some (.tup us) := upd_same
    generalize (upd H4 tw (.tup us)) = H5 at s5 e5 ⊢
    have s05 := s4.trans s5
    refine ⟨_, rfl, tw, us, as, rfl, e5, wy.same s05, ne, nd, ml, fun H6 s6 => ?_⟩
    have s06 := s05.trans s6
    have hx6 := s06 _ _ hx
    have e6 := s6 _ _ e5
    have nx : tw ≠ x := ne_of e6 hx6 (by intro z; cases z)
    refine ⟨_, rfl, _, rfl, x, C, dx, [], rfl, hx6, LL.cl, LL.n1, by show 0 < 1000; decide, ?_⟩
    refine ⟨_, rfl, _, rfl, x, C, dx, _, rfl, upd_same, LL.cl, LL.n2, by show 1 < 1000; decide, ?_⟩
    refine q tw _ (fun c u e hc => by rw [upd_ne hc, upd_ne hc]; exact s06 _ _ e) ?_ (by rw [upd_ne nx, upd_ne nx]; exact e6)
    rw [upd_same]
    rfl
noncomputable def MeAt (C : C3) (H : Hp) : List Me → List V → Prop
  | [], us => us = []
  | e :: S, us => ∃ (t : Addr) (v : V) (us' : List V), us = us' ++ [.ref t] ∧ H t = some (.tup [.int (e.1 : Int), oS e.2.1, v]) ∧ PlAt C H e.2.2 [v] ∧ MeAt C H S us'
theorem MeAt.len {C : C3} {H : Hp} : ∀ {S : List Me} {us : List V}, MeAt C H S us → us.length = S.length
  | [], _, e => by rw [show _ = [] from e]; rfl
  | _ :: S, _, ⟨_, _, us', e, _, _, h⟩ => by rw [e, List.length_append, MeAt.len h]; rfl
theorem PlAt.kx {C : C3} {H H' : Hp} {m : Addr} {xs : List V} (k : ∀ c u, H c = some u → c ≠ m → H' c = some u) (hm : H m = some (.lst xs)) : ∀ {t : Pn} {vs : List V}, PlAt C H t vs → PlAt C H' t vs
  | .stop, _, ⟨t, dx, e, h⟩ => ⟨t, dx, e, k _ _ h (ne_of h hm (by intro z; cases z))⟩
  | .dd _ _, _, ⟨t, dx, v, e, h, r⟩ => ⟨t, dx, v, e, k _ _ h (ne_of h hm (by intro z; cases z)), PlAt.kx k hm r⟩
  | .lk _ _, _, ⟨t, dx, u, us, e, h, h2, r⟩ => ⟨t, dx, u, us, e, k _ _ h (ne_of h hm (by intro z; cases z)), k _ _ h2 (ne_of h2 hm (by intro z; cases z)), PlAt.kx k hm r⟩
  | .nil, _, e => e
  | .way _ _ _, _, ⟨t, v, us, e, h, p, r⟩ => ⟨t, v, us, e, k _ _ h (ne_of h hm (by intro z; cases z)), PlAt.kx k hm p, PlAt.kx k hm r⟩
theorem MeAt.kx {C : C3} {H H' : Hp} {m : Addr} {xs : List V} (k : ∀ c u, H c = some u → c ≠ m → H' c = some u) (hm : H m = some (.lst xs)) : ∀ {S : List Me} {us : List V}, MeAt C H S us → MeAt C H' S us
  | [], _, e => e
  | _ :: _, _, ⟨t, v, us', e, h, p, r⟩ => ⟨t, v, us', e, k _ _ h (ne_of h hm (by intro z; cases z)), PlAt.kx k hm p, MeAt.kx k hm r⟩
theorem MeAt.same {C : C3} {H H' : Hp} (s : Same H H') : ∀ {S : List Me} {us : List V}, MeAt C H S us → MeAt C H' S us
  | [], _, e => e
  | _ :: _, _, ⟨t, v, us', e, h, p, r⟩ => ⟨t, v, us', e, s _ _ h, p.same s, MeAt.same s r⟩
theorem atI_last {xs : List V} {v : V} : atI (xs ++ [v]) (-1) = some v := by
  unfold atI ixN
  rw [if_neg (by decide), if_pos (by rw [List.length_append, List.length_singleton]; lia)]
  have e : ((-1 : Int) + ((xs ++ [v]).length : Nat)).toNat = xs.length := by rw [List.length_append, List.length_singleton]; lia
  rw [e]
  show (xs ++ [v])[xs.length]? = some v
  rw [List.getElem?_append_right (Nat.le_refl _), Nat.sub_self]
  rfl
inductive spTakePlan (C : C3) (vs : List V) (H : Hp) (Q : VK) (E0_ : XK) : Prop
  | mk (m : Addr) (us : List V) (k : Nat) (p : Pn) (S : List Me) (c0 : vs = [.ref m, .int (k : Int)]) (c1 : H m = some (.lst us)) (c2 : MeAt C H ((k, none, p) :: S) us) (c3 : us.length ≤ 1000000) (c4 : ∀ (v : V) (us' : List V) (H' : Hp), (∀ c u, H c = some u → c ≠ m → H' c = some u) → H' m = some (.lst us') → MeAt C H' S us' → PlAt C H' p [v] → Q v H') : spTakePlan C vs H Q E0_
inductive spTakeWays (C : C3) (vs : List V) (H : Hp) (Q : VK) (E0_ : XK) : Prop
  | mk (m : Addr) (us : List V) (k : Nat) (S : List Me) (c0 : vs = [.ref m, .int (k : Int)]) (c1 : H m = some (.lst us)) (c2 : MeAt C H S us) (c3 : us.length ≤ 1000000) (c4 : ∀ (r : Addr) (ws us' : List V) (H' : Hp), (∀ c u, H c = some u → c ≠ m → H' c = some u) → H r = none → H' r = some (.lst ws) → H' m = some (.lst us') → MeAt C H' (takW k S).2 us' → PlAt C H' (takW k S).1 ws → Q (.ref r) H') : spTakeWays C vs H Q E0_
noncomputable def ofL : List (Str × Pn) → Pn → Pn
  | [], w => w
  | x :: r, w => .way x.1 x.2 (ofL r w)
theorem ofL_app : ∀ (xs ys : List (Str × Pn)) (w : Pn), ofL (xs ++ ys) w = ofL xs (ofL ys w)
  | [], _, _ => rfl
  | x :: r, ys, w => congrArg (Pn.way x.1 x.2) (ofL_app r ys w)
theorem PlAt.put {C : C3} {H : Hp} {t : Addr} {a : Str} {v : V} {p : Pn} (h1 : H t = some (.tup [.str a, v])) (h2 : PlAt C H p [v]) : ∀ {pre : List (Str × Pn)} {us : List V}, PlAt C H (ofL pre .nil) us → PlAt C H (ofL (pre ++ [(a, p)]) .nil) (us ++ [.ref t])
  | [], us, e => by
    rw [show us = [] from e]
    exact ⟨t, v, [], rfl, h1, h2, rfl⟩
  | x :: r, us, ⟨t', v', us', e, z1, z2, z3⟩ => by
    rw [e]
    exact ⟨t', v', us' ++ [.ref t], rfl, z1, z2, PlAt.put h1 h2 z3⟩
theorem takW_yes {k : Nat} {a : Str} {p : Pn} {S : List Me} : takW k ((k, some a, p) :: S) = (.way a p (takW k S).1, (takW k S).2) := by
  show (if k = k then _ else _) = _
  rw [if_pos rfl]
theorem takW_ne {k j : Nat} {o : Option Str} {p : Pn} {S : List Me} (h : j ≠ k) : takW k ((j, o, p) :: S) = (.nil, (j, o, p) :: S) := by
  cases o with
  | none => rfl
  | some a =>
    show (if j = k then _ else _) = _
    rw [if_neg h]
theorem ok_takeplan {f : Addr} {C : C3} {fd : FuncData} (F : Fun K "take_plan" "take_plan" sTakePlan f fd) (T : Bl mg) : FnOk P w K mg base CX0 1 f fd pTakePlan (spTakePlan C) := by
  refine F.ok scTakePlan (fun vs H Q E h => ?_) (fun cdv A outer s H vs Q E hr h => ?_)
  · obtain ⟨m, us, k, p, S, rfl, _⟩ := h
    rfl
  · obtain ⟨m, us, k, p, S, rfl, hm, me, ml, q⟩ := h
    have hsl : sizeLine = 16777216 := sizeLine_eq
    have hun := hr.units
    obtain ⟨t, v, us', rfl, ht, pl, me'⟩ := me
    have hl : (us' ++ [V.ref t]).length = us'.length + 1 := by rw [List.length_append]; rfl
    refine ⟨_, (pss_cons (ps_if (PW.pt (pw_or (pt_cmpR op_eq (pe_callB call_len (by rfl) T.len PySem.boot_len (pa_cons (pv 0) pa_nil)) pe_int (nomark _)) (pw_or1 (pt_cmpR (op_neD hun) (pe_slice sl_tup (pe_ix ix_list (pv 0) (pe_un un_neg pe_int) (fun _ _ => rfl)) po_none (po_some pe_int)) (pe_tup (pa_cons (pv 1) (pa_cons pe_non pa_nil))) (nomark _))))) pss_never pss_nil)
      (pss_one (ps_ret (pe_ix ix_tup (pe_bm0 PySem.F.plainAttrs_list PySem.F.slot_list_pop PySem.F.type_list_pop mt_pop (pv 0)) pe_int (fun _ _ => rfl))))), ?_⟩
    refine ⟨_, rfl, _, _, rfl, .inl ⟨_, SqL.of hm, rfl⟩, rfl, _, rfl, ?_⟩
    refine ite2 (fun z => ?_) (fun _ => ?_)
    · exfalso
      have h9 := V.int.inj (of_decide_eq_true z)
      lia
    refine ⟨_, rfl, _, rfl, m, _, _, _, rfl, rfl, SqL.of hm, atI_last, ?_⟩
    refine ⟨_, rfl, t, _, rfl, SqT.of ht, (fun z => absurd z.2 (by show ¬ (HT.sIx 3 3 (some 2) = 3); decide)), fun p1 hp1 => ?_⟩
    have hc : cutV [V.int (k : Int), oS none, v] none (some 2) = [V.int (k : Int), .non] := rfl
    rw [hc]
    have s1 : Same H (upd H p1 (.tup [V.int (k : Int), .non])) := Same.new hp1
    have e1 : (upd H p1 (.tup [V.int (k : Int), .non])) p1 = some (.tup [V.int (k : Int), .non]) := upd_same
    generalize (upd H p1 (.tup [V.int (k : Int), .non])) = H1 at s1 e1 ⊢
    refine ⟨_, rfl, by show 2 ≤ sizeLine; lia, fun p2 hp2 => ?_⟩
    have s2 : Same H1 (upd H1 p2 (.tup [V.int (k : Int), .non])) := Same.new hp2
    have e2 : (upd H1 p2 (.tup [V.int (k : Int), .non])) p2 = some (.tup [V.int (k : Int), .non]) := upd_same
    generalize (upd H1 p2 (.tup [V.int (k : Int), .non])) = H2 at s2 e2 ⊢
    have sh : PySem.SeqAt.shaped (.tuple [.int (k : Int), .none]) = true := by
      unfold shaped
      simp [PyData.canLay0, PyData.canLayAll0, PyData.depth, PyData.depthAll]
    refine ⟨_, _, .tup (s2 _ _ e1) (.cons (.int _) (.cons .non .nil)), .tup e2 (.cons (.int _) (.cons .non .nil)), sh, sh, _, rfl, ?_⟩
    rw [eqv_refl _ (canLay_of_shaped sh)]
    refine iteF ?_
    try unfold tNext
    dsimp only
    have s02 := s1.trans s2
    have hm2 := s02 _ _ hm
    have ht2 := s02 _ _ ht
    have nt : t ≠ m := ne_of ht hm (by intro z; cases z)
    have hg : (us' ++ [V.ref t])[(us' ++ [V.ref t]).length - 1]? = some (.ref t) := by
      rw [hl, Nat.add_sub_cancel, List.getElem?_append_right (Nat.le_refl _), Nat.sub_self]
      rfl
    refine ⟨_, rfl, .inl ⟨rfl, _, SqL.of hm2⟩, m, _, _, rfl, rfl, hm2, hg, ?_⟩
    rw [List.dropLast_concat]
    have kc : ∀ c u, H2 c = some u → c ≠ m → (upd H2 m (.lst us')) c = some u := fun c u e hc => by rw [upd_ne hc]; exact e
    have hm3 : (upd H2 m (.lst us')) m = some (.lst us') := upd_same
    generalize (upd H2 m (.lst us')) = H3 at kc hm3 ⊢
    have kc0 : ∀ c u, H c = some u → c ≠ m → H3 c = some u := fun c u e hc => kc c u (s02 _ _ e) hc
    have at2 : atI [V.int (k : Int), oS none, v] ((2 : Nat) : Int) = some v := atI_nat rfl
    refine ⟨t, _, _, _, rfl, rfl, SqT.of (kc _ _ ht2 nt), at2, ?_⟩
    exact q v us' H3 kc0 hm3 (me'.kx kc0 hm) (pl.kx kc0 hm)
theorem ok_takeways {f : Addr} {C : C3} {fd : FuncData} (F : Fun K "take_ways" "take_ways" sTakeWays f fd) (T : Bl mg) : FnOk P w K mg base CX0 1 f fd pTakeWays (spTakeWays C) := by
  refine F.ok scTakeWays (fun vs H Q E h => ?_) (fun cdv A outer s H vs Q E hr h => ?_)
  · obtain ⟨m, us, k, S, rfl, _⟩ := h
    rfl
  · obtain ⟨m, us, k, S, rfl, hm, me, ml, q⟩ := h
    have hsl : sizeLine = 16777216 := sizeLine_eq
    have hun := hr.units
    refine ⟨_, (pss_cons (ps_set (i := 2) scTakeWays.nd rfl (Or.inl rfl) (pe_lst pa_nil))
      (pss_cons (ps_while PassesOwn.never (PW.pt (pw_and (pt_cmpR op_gt (pe_callB call_len (by rfl) T.len PySem.boot_len (pa_cons (pv 0) pa_nil)) pe_int (nomark _)) (pw_and (pt_cmpR op_eq (pe_ix ix_tup (pe_ix ix_list (pv 0) (pe_un un_neg pe_int) (fun _ _ => rfl)) pe_int (fun _ _ => rfl)) (pv 1) (nomark _)) (pw_and1 (pt_cmpR op_notN (pe_ix ix_tup (pe_ix ix_list (pv 0) (pe_un un_neg pe_int) (fun _ _ => rfl)) pe_int (fun _ _ => rfl)) pe_non (nomark _))))))
        (pss_one (ps_expr (pe_bm PySem.F.plainAttrs_list PySem.F.slot_list_append PySem.F.type_list_append mt_append (pv 2) (pa_cons (pe_slice sl_tup (pe_bm0 PySem.F.plainAttrs_list PySem.F.slot_list_pop PySem.F.type_list_pop mt_pop (pv 0)) (po_some pe_int) po_none) pa_nil)))))
      (pss_one (ps_ret (pv 2))))), ?_⟩
    refine ⟨by show 0 ≤ sizeLine; lia, fun r hr' => ?_⟩
    have s1 : Same H (upd H r (.lst [])) := Same.new hr'
    have e1 : (upd H r (.lst [])) r = some (.lst []) := upd_same
    generalize (upd H r (.lst [])) = H1 at s1 e1 ⊢
    have rm : r ≠ m := (ne_of_none hm hr').symm
    refine ⟨fun n σ H' => σ = [some (.ref m), some (.int (k : Int)), some (.ref r)] ∧ ∃ (S' : List Me) (us' pus : List V) (pre : List (Str × Pn)), n = S'.length ∧ MeAt C H' S' us' ∧ H' m = some (.lst us') ∧ H' r = some (.lst pus) ∧ PlAt C H' (ofL pre .nil) pus ∧ takW k S = (ofL pre (takW k S').1, (takW k S').2) ∧ pus.length + us'.length ≤ 1000000 ∧ ∀ c u, H c = some u → c ≠ m → H' c = some u,
      ⟨S.length, rfl, S, us, [], [], rfl, me.same s1, s1 _ _ hm, e1, rfl, rfl, by show 0 + us.length ≤ _; lia, fun c u e _ => s1 _ _ e⟩, ?_⟩
    rintro n σ H2 ⟨rfl, S', us', pus, pre, rfl, me2, hm2, hr2, pl2, tk, ll, kc⟩
    refine ⟨_, rfl, _, _, rfl, .inl ⟨_, SqL.of hm2, rfl⟩, _, _, rfl, rfl, _, rfl, ?_⟩
    have hl2 := me2.len
    have fin : takW k S' = (.nil, S') → Q (.ref r) H2 := fun e => by
      rw [e] at tk
      exact q r pus us' H2 kc hr' hr2 hm2 (by rw [tk]; exact me2) (by rw [tk]; exact pl2)
    cases S' with
    | nil =>
      refine ite2 (fun z => ?_) (fun _ => ?_)
      · exfalso
        have h9 := of_decide_eq_true z
        have h8 : us'.length = 0 := hl2
        lia
      refine iteF ?_
      exact ⟨_, rfl, fin rfl⟩
    | cons e S'' =>
      obtain ⟨j, o, p⟩ := e
      obtain ⟨t, v, us'', rfl, ht, pl, me3⟩ := me2
      have hl3 : (us'' ++ [V.ref t]).length = us''.length + 1 := by rw [List.length_append]; rfl
      have at0 : atI [V.int (j : Int), oS o, v] ((0 : Nat) : Int) = some (.int (j : Int)) := atI_nat rfl
      have at1 : atI [V.int (j : Int), oS o, v] ((1 : Nat) : Int) = some (oS o) := atI_nat rfl
      refine ite2 (fun _ => ?_) (fun z => ?_)
      · refine ⟨_, rfl, _, rfl, m, _, _, _, rfl, rfl, SqL.of hm2, atI_last, t, _, _, _, rfl, rfl, SqT.of ht, at0, _, rfl, rfl, _, rfl, ?_⟩
        refine ite2 (fun z => ?_) (fun z => ?_)
        · have hj : j = k := by
            have h9 := V.int.inj (of_decide_eq_true z)
            lia
          subst hj
          refine ⟨_, rfl, _, rfl, m, _, _, _, rfl, rfl, SqL.of hm2, atI_last, t, _, _, _, rfl, rfl, SqT.of ht, at1, rfl, _, rfl, ?_⟩
          cases o with
          | none =>
            refine iteF ?_
            exact ⟨_, rfl, fin rfl⟩
          | some a =>
            refine iteT ?_
            refine ⟨fun σ H' => ∃ n', n' < S''.length + 1 ∧ (fun n σ H' => σ = [some (.ref m), some (.int (j : Int)), some (.ref r)] ∧ ∃ (S' : List Me) (us' pus : List V) (pre : List (Str × Pn)), n = S'.length ∧ MeAt C H' S' us' ∧ H' m = some (.lst us') ∧ H' r = some (.lst pus) ∧ PlAt C H' (ofL pre .nil) pus ∧ takW j S = (ofL pre (takW j S').1, (takW j S').2) ∧ pus.length + us'.length ≤ 1000000 ∧ ∀ c u, H c = some u → c ≠ m → H' c = some u) n' σ H', fun _ _ z => z, ?_⟩
            have hg : (us'' ++ [V.ref t])[(us'' ++ [V.ref t]).length - 1]? = some (.ref t) := by
              rw [hl3, Nat.add_sub_cancel, List.getElem?_append_right (Nat.le_refl _), Nat.sub_self]
              rfl
            refine ⟨_, rfl, .inl ⟨rfl, _, SqL.of hr2⟩, _, rfl, .inl ⟨rfl, _, SqL.of hm2⟩, m, _, _, rfl, rfl, hm2, hg, ?_⟩
            rw [List.dropLast_concat]
            have nt : t ≠ m := ne_of ht hm2 (by intro z; cases z)
            have k3 : ∀ c u, H2 c = some u → c ≠ m → (upd H2 m (.lst us'')) c = some u := fun c u e hc => by rw [upd_ne hc]; exact e
            have hm3 : (upd H2 m (.lst us'')) m = some (.lst us'') := upd_same
            generalize (upd H2 m (.lst us'')) = H3 at k3 hm3 ⊢
            have kc3 : ∀ c u, H c = some u → c ≠ m → H3 c = some u := fun c u e hc => k3 c u (kc c u e hc) hc
            refine ⟨_, rfl, t, _, rfl, SqT.of (k3 _ _ ht nt), (fun z => absurd z.1 (by show ¬ (HT.sIx 3 0 (some 1) = 0); decide)), fun p1 hp1 => ?_⟩
            have hc : cutV [V.int (j : Int), oS (some a), v] (some 1) none = [V.str a, v] := rfl
            rw [hc]
            have s4 : Same H3 (upd H3 p1 (.tup [V.str a, v])) := Same.new hp1
            have e4 : (upd H3 p1 (.tup [V.str a, v])) p1 = some (.tup [V.str a, v]) := upd_same
            generalize (upd H3 p1 (.tup [V.str a, v])) = H4 at s4 e4 ⊢
            have hr3 := k3 _ _ hr2 rm
            have hr4 := s4 _ _ hr3
            refine ⟨r, _, _, rfl, rfl, hr4, by lia, ?_⟩
            have k5 : ∀ c u, H4 c = some u → c ≠ r → (upd H4 r (.lst (pus ++ [.ref p1]))) c = some u := fun c u e hc => by rw [upd_ne hc]; exact e
            have e5 : (upd H4 r (.lst (pus ++ [.ref p1]))) r = some (.lst (pus ++ [.ref p1])) := upd_same
            have m5 := k5 _ _ (s4 _ _ hm3) rm.symm
            have pr : p1 ≠ r := ne_of e4 hr4 (by intro z; cases z)
            have plv := ((pl.kx k3 hm2).same s4).kx k5 hr4
            have pl5 := ((pl2.kx k3 hm2).same s4).kx k5 hr4
            refine ⟨S''.length, Nat.lt_succ_self _, rfl, S'', us'', pus ++ [.ref p1], pre ++ [(a, p)], rfl, ((me3.kx k3 hm2).same s4).kx k5 hr4, m5, e5, PlAt.put (k5 _ _ e4 pr) plv pl5, ?_, by rw [List.length_append, List.length_singleton]; lia, fun c u e hc => k5 c u (s4 _ _ (kc3 c u e hc)) (ne_of_none e hr')⟩
            rw [tk, takW_yes, ofL_app]
            rfl
        · refine iteF ?_
          have hj : j ≠ k := fun e => z (decide_eq_true (by rw [e]))
          exact ⟨_, rfl, fin (takW_ne hj)⟩
      · exfalso
        exact z (decide_eq_true (by rw [hl3]; lia))
noncomputable abbrev pReadLine : List Str := ["line", "made"]
noncomputable abbrev nReadLine : List Str := ["line", "made", "text", "ahead", "words", "name"]
theorem scReadLine : FnScope nReadLine pReadLine (defScope sReadLine) := ⟨rfl, rfl, rfl, by decide +kernel, rfl, by decide +kernel, by decide +kernel⟩
noncomputable abbrev pReadPlan : List Str := ["lines"]
noncomputable abbrev nReadPlan : List Str := ["lines", "made", "line", "plan"]
theorem scReadPlan : FnScope nReadPlan pReadPlan (defScope sReadPlan) := ⟨rfl, rfl, rfl, by decide +kernel, rfl, by decide +kernel, by decide +kernel⟩
inductive spReadLine (C : C3) (vs : List V) (H : Hp) (Q : VK) (E0_ : XK) : Prop
  | mk (m : Addr) (us : List V) (x : Nat × Ln) (S R : List Me) (e : Me) (c0 : vs = [.str (rdL x), .ref m]) (c1 : H m = some (.lst us)) (c2 : MeAt C H S us) (c3 : us.length ≤ 100000) (c4 : lnOk x.2) (c5 : x.1 ≤ 1000) (c6 : StR S x e R) (c7 : ∀ (t : Addr) (v : V) (us' : List V) (H' : Hp), (∀ c u, H c = some u → c ≠ m → H' c = some u) → H' m = some (.lst us') → MeAt C H' R us' → H' t = some (.tup [.int (e.1 : Int), oS e.2.1, v]) → PlAt C H' e.2.2 [v] → Q (.ref t) H') : spReadLine C vs H Q E0_
noncomputable def isW : Pn → Prop
  | .nil => True
  | .way _ _ r => isW r
  | _ => False
theorem takW_isW (k : Nat) : ∀ S : List Me, isW (takW k S).1
  | [] => trivial
  | (j, none, p) :: S => trivial
  | (j, some a, p) :: S => by
    show isW (if j = k then (Pn.way a p (takW k S).1, (takW k S).2) else (Pn.nil, (j, some a, p) :: S)).1
    by_cases h : j = k
    · rw [if_pos h]
      exact takW_isW k S
    · rw [if_neg h]
      trivial
theorem PlAt.wy {C : C3} {H : Hp} : ∀ {ws : Pn} {us : List V}, isW ws → PlAt C H ws us → WyAt H us (anP ws)
  | .nil, us, _, e => by
    rw [show us = [] from e]
    exact ⟨rfl, fun i u a h => by cases h⟩
  | .way a p r, us, h, ⟨t, v, us', e, h1, _, h3⟩ => by
    have ih := PlAt.wy (ws := r) h h3
    rw [e]
    refine ⟨congrArg (· + 1) ih.len, fun i u a' g1 g2 => ?_⟩
    cases i with
    | zero =>
      cases g1
      cases g2
      exact ⟨t, v, rfl, h1⟩
    | succ i => exact ih.got i u a' g1 g2
theorem an_ne {ws : Pn} (h : isW ws) (n : ws ≠ .nil) : anP ws ≠ [] := by
  cases ws with
  | nil => exact absurd rfl n
  | way a p r => exact List.cons_ne_nil _ _
  | stop => exact h.elim
  | dd _ _ => exact h.elim
  | lk _ _ => exact h.elim
structure MkO (K : PySem.W.Frag) (C : Addr) : Prop where
  ma : PySem.W.makesIn K C = true
  hi : PySem.W.findIn K (.ref C) "__init__" = some (some (.builtin "object.__init__"))
  so : PySem.W.subIn K (.ref C) (.type "object") = some true
  kp : PySem.W.keepIn K (.ref C) = true
theorem ok_readline {f f1 f2 fD fL : Addr} {C : C3} {fd d1 d2 dD dL : FuncData} (F : Fun K "read_line" "read_line" sReadLine f fd) (T : Bl mg) (Mn : ∃ t, mg "MOST_SIGNS" = some (.int 30 t)) (OS : MkO K C.s) (mS : mg "Stop" = some (.ref C.s)) (MD : L2.Mk K C.d fD) (mD : mg "Do" = some (.ref C.d)) (bD : Binds K dD ["self", "deed", "rest"] []) (GD : FnOk P w K mg base CX0 1 fD dD pDoInit (spDoInit C.d))
    (ML : L2.Mk K C.l fL) (mL : mg "Look" = some (.ref C.l)) (bL : Binds K dL ["self", "look", "ways"] []) (GL : FnOk P w K mg base CX0 2 fL dL pLookInit (spLkInit C.l)) (D_take_plan : Df K mg "take_plan" sTakePlan pTakePlan f1 d1) (G_take_plan : FnOk P w K mg base CX0 1 f1 d1 pTakePlan (spTakePlan C)) (D_take_ways : Df K mg "take_ways" sTakeWays pTakeWays f2 d2) (G_take_ways : FnOk P w K mg base CX0 1 f2 d2 pTakeWays (spTakeWays C)) : FnOk P w K mg base CX0 4 f fd pReadLine (spReadLine C) := by
  obtain ⟨t1, m1⟩ := Mn
  refine F.ok scReadLine (fun vs H Q E h => ?_) (fun cdv A outer s H vs Q E hr3 h => ?_)
  · obtain ⟨m, us, x, S, R, e, rfl, _⟩ := h
    rfl
  · obtain ⟨m, us, x, S, R, e, rfl, hm, me, ml, lo, hk, st, q⟩ := h
    have hr2 : Room 2 _ := hr3.mono (by decide)
    have hr1 : Room 1 _ := hr3.mono (by decide)
    have hsl : sizeLine = 16777216 := sizeLine_eq
    have hun := hr3.units
    have hrl := rd_len x
    have htl := tx_len lo
    refine ⟨_, (pss_cons (ps_set (i := 2) scReadLine.nd rfl (Or.inl rfl) (pe_bm PySem.F.plainAttrs_str PySem.F.slot_str_lstrip PySem.F.type_str_lstrip mt_lstrip (pv 0) (pa_cons pe_str pa_nil)))
      (pss_cons (ps_set (i := 3) scReadLine.nd rfl (Or.inl rfl) (pe_op op_sub (pe_callB call_len (by rfl) T.len PySem.boot_len (pa_cons (pv 0) pa_nil)) (pe_callB call_len (by rfl) T.len PySem.boot_len (pa_cons (pv 2) pa_nil))))
      (pss_cons (ps_if (pt_cmpR op_eq (pv 2) pe_str (nomark _)) (pss_one (ps_ret (pe_tup (pa_cons (pv 3) (pa_cons pe_non (pa_cons (pe_makeO OS.ma OS.hi OS.so OS.kp (by rfl) mS) pa_nil)))))) pss_nil)
      (pss_cons (ps_set (i := 4) scReadLine.nd rfl (Or.inl rfl) (pe_bm PySem.F.plainAttrs_str PySem.F.slot_str_partition PySem.F.type_str_partition mt_partition (pv 2) (pa_cons pe_str pa_nil)))
      (pss_cons (ps_set (i := 5) scReadLine.nd rfl (Or.inl rfl) (pe_ix ix_tup (pv 4) pe_int (fun _ _ => rfl)))
      (pss_cons (ps_if (pt_not (pt_chain op_le op_le pe_int (pe_callB call_len (by rfl) T.len PySem.boot_len (pa_cons (pv 5) pa_nil)) (pe_glob (v := .int 30) (by rfl) m1 ⟨_, rfl⟩))) pss_never pss_nil)
      (pss_cons (ps_if (pt_cmpR op_eq (pe_ix ix_tup (pv 4) pe_int (fun _ _ => rfl)) pe_str (nomark _)) (pss_one (ps_ret (pe_tup (pa_cons (pv 3) (pa_cons pe_non (pa_cons (pe_make MD GD hr2 (by rfl) mD bD .nil pass0 (pa_cons (pv 5) (pa_cons (pe_call G_take_plan hr1 (by rfl) D_take_plan.m D_take_plan.F.kp D_take_plan.b .nil pass0 (pa_cons (pv 1) (pa_cons (pv 3) pa_nil))) pa_nil))) pa_nil)))))) pss_nil)
      (pss_cons (ps_if (pt_cmpR op_eq (pe_ix ix_tup (pv 4) pe_int (fun _ _ => rfl)) pe_str (nomark _)) (pss_one (ps_ret (pe_tup (pa_cons (pv 3) (pa_cons pe_non (pa_cons (pe_make ML GL hr3 (by rfl) mL bL .nil pass0 (pa_cons (pv 5) (pa_cons (pe_call G_take_ways hr1 (by rfl) D_take_ways.m D_take_ways.F.kp D_take_ways.b .nil pass0 (pa_cons (pv 1) (pa_cons (pe_op op_add (pv 3) pe_int) pa_nil))) pa_nil))) pa_nil)))))) pss_nil)
      (pss_cons (ps_if (pt_cmpR op_eq (pe_ix ix_tup (pv 4) pe_int (fun _ _ => rfl)) pe_str (nomark _)) (pss_one (ps_ret (pe_tup (pa_cons (pv 3) (pa_cons (pv 5) (pa_cons (pe_call G_take_plan hr1 (by rfl) D_take_plan.m D_take_plan.F.kp D_take_plan.b .nil pass0 (pa_cons (pv 1) (pa_cons (pe_op op_add (pv 3) pe_int) pa_nil))) pa_nil)))))) pss_nil)
      (pss_one ps_never)))))))))), ?_⟩
    refine ⟨_, rfl, rfl, _, _, rfl, rfl, by lia, ?_⟩
    rw [show Txt.lstripChars (rdL x) (Str.ofString " ") = txL x.2 from rd_strip x]
    refine ⟨_, rfl, _, _, rfl, ⟨by lia, rfl⟩, _, rfl, _, _, rfl, ⟨by lia, rfl⟩, _, _, rfl, rfl, ?_⟩
    rw [show ((rdL x).length : Int) - ((txL x.2).length : Int) = (x.1 : Int) by lia]
    refine ⟨_, rfl, rfl, _, rfl, ?_⟩
    cases st with
    | @stop _ k =>
      refine ite2 (fun _ => ?_) (fun z => absurd (decide_eq_true rfl) z)
      refine ⟨_, rfl, fun o dx ho hdx dn => ?_⟩
      have s1 : Same H (upd (upd H dx (.own o)) o (.ins C.s dx [])) := (Same.new hdx).trans (Same.new (by rw [upd_ne dn.symm]; exact ho))
      have e1 : (upd (upd H dx (.own o)) o (.ins C.s dx [])) o = some (.ins C.s dx []) := upd_same
      generalize (upd (upd H dx (.own o)) o (.ins C.s dx [])) = H1 at s1 e1 ⊢
      refine ⟨by show 3 ≤ sizeLine; lia, fun t ht => ?_⟩
      have s2 := Same.new (o := .tup [V.int (k : Int), .non, .ref o]) ht
      have s02 := s1.trans s2
      exact q t (.ref o) us _ (fun c u e _ => s02 _ _ e) (s02 _ _ hm) (me.same s02) upd_same ⟨o, dx, rfl, s2 _ _ e1⟩
    | @dd k d p R =>
      refine ite2 (fun z => absurd (V.str.inj (of_decide_eq_true z)) (tx_not (by intro z; cases z))) (fun _ => ?_)
      try unfold tNext
      dsimp only
      have d1 := lo.l1
      have d2 := lo.l2
      refine ⟨_, rfl, rfl, _, _, rfl, rfl, by decide +kernel, Nat.le_trans htl (by decide), fun pw hpw => ?_⟩
      rw [show Txt.partition (txL (k, Ln.dd d).2) (Str.ofString " ") = (tD, tSp, d) from pt_do d]
      have s1 : Same H (upd H pw (.tup [.str tD, .str tSp, .str d])) := Same.new hpw
      have e1 : (upd H pw (.tup [.str tD, .str tSp, .str d])) pw = some (.tup [.str tD, .str tSp, .str d]) := upd_same
      dsimp only
      generalize (upd H pw (.tup [.str tD, .str tSp, .str d])) = H1 at s1 e1 ⊢
      have a0 : atI [V.str tD, .str tSp, .str d] ((0 : Nat) : Int) = some (.str tD) := atI_nat rfl
      have a2 : atI [V.str tD, .str tSp, .str d] ((2 : Nat) : Int) = some (.str d) := atI_nat rfl
      refine ⟨_, rfl, pw, _, _, _, rfl, rfl, SqT.of e1, a2, ?_⟩
      refine ⟨_, rfl, _, _, rfl, ⟨by lia, rfl⟩, _, _, rfl, rfl, _, rfl, ?_⟩
      rw [decide_eq_true (show (1 : Int) ≤ (d.length : Int) by lia)]
      refine iteT ?_
      refine ⟨_, _, rfl, rfl, _, rfl, ?_⟩
      rw [decide_eq_true (show (d.length : Int) ≤ 30 by lia)]
      refine iteF ?_
      try unfold tNext
      dsimp only
      refine ⟨_, rfl, pw, _, _, _, rfl, rfl, SqT.of e1, a0, rfl, _, rfl, ?_⟩
      refine ite2 (fun _ => ?_) (fun z => absurd (decide_eq_true rfl) z)
      refine ⟨_, rfl, _, rfl, _, rfl, _, rfl, m, us, k, p, R, rfl, s1 _ _ hm, me.same s1, by lia, fun v us' H2 kc hm2 me2 pl2 => ?_⟩
      intro o dx ho hdx dn
      have s3 : Same H2 (upd (upd H2 dx (.own o)) o (.ins C.d dx [])) := (Same.new hdx).trans (Same.new (by rw [upd_ne dn.symm]; exact ho))
      have e3 : (upd (upd H2 dx (.own o)) o (.ins C.d dx [])) o = some (.ins C.d dx []) := upd_same
      generalize (upd (upd H2 dx (.own o)) o (.ins C.d dx [])) = H3 at s3 e3 ⊢
      refine ⟨o, dx, d, v, rfl, e3, fun H4 k4 e4 => ⟨rfl, ?_⟩⟩
      have s24 : Same H2 H4 := fun c u e => k4 c u (s3 _ _ e) (ne_of_none e ho)
      refine ⟨by show 3 ≤ sizeLine; lia, fun t ht => ?_⟩
      have s5 := Same.new (o := .tup [V.int (k : Int), .non, .ref o]) ht
      have s25 := s24.trans s5
      exact q t (.ref o) us' _ (fun c u e hc => s25 _ _ (kc c u (s1 _ _ e) hc)) (s25 _ _ hm2) (me2.same s25) upd_same ⟨o, dx, v, rfl, s5 _ _ e4, pl2.same s25⟩
    | @case k d p R =>
      refine ite2 (fun z => absurd (V.str.inj (of_decide_eq_true z)) (tx_not (by intro z; cases z))) (fun _ => ?_)
      try unfold tNext
      dsimp only
      have d1 := lo.l1
      have d2 := lo.l2
      refine ⟨_, rfl, rfl, _, _, rfl, rfl, by decide +kernel, Nat.le_trans htl (by decide), fun pw hpw => ?_⟩
      rw [show Txt.partition (txL (k, Ln.case d).2) (Str.ofString " ") = (tCa, tSp, d) from pt_ca d]
      have s1 : Same H (upd H pw (.tup [.str tCa, .str tSp, .str d])) := Same.new hpw
      have e1 : (upd H pw (.tup [.str tCa, .str tSp, .str d])) pw = some (.tup [.str tCa, .str tSp, .str d]) := upd_same
      dsimp only
      generalize (upd H pw (.tup [.str tCa, .str tSp, .str d])) = H1 at s1 e1 ⊢
      have a0 : atI [V.str tCa, .str tSp, .str d] ((0 : Nat) : Int) = some (.str tCa) := atI_nat rfl
      have a2 : atI [V.str tCa, .str tSp, .str d] ((2 : Nat) : Int) = some (.str d) := atI_nat rfl
      refine ⟨_, rfl, pw, _, _, _, rfl, rfl, SqT.of e1, a2, ?_⟩
      refine ⟨_, rfl, _, _, rfl, ⟨by lia, rfl⟩, _, _, rfl, rfl, _, rfl, ?_⟩
      rw [decide_eq_true (show (1 : Int) ≤ (d.length : Int) by lia)]
      refine iteT ?_
      refine ⟨_, _, rfl, rfl, _, rfl, ?_⟩
      rw [decide_eq_true (show (d.length : Int) ≤ 30 by lia)]
      refine iteF ?_
      try unfold tNext
      dsimp only
      refine ⟨_, rfl, pw, _, _, _, rfl, rfl, SqT.of e1, a0, rfl, _, rfl, ?_⟩
      refine ite2 (fun z => absurd (V.str.inj (of_decide_eq_true z)) (by decide +kernel)) (fun _ => ?_)
      try unfold tNext
      dsimp only
      refine ⟨_, rfl, pw, _, _, _, rfl, rfl, SqT.of e1, a0, rfl, _, rfl, ?_⟩
      refine ite2 (fun z => absurd (V.str.inj (of_decide_eq_true z)) (by decide +kernel)) (fun _ => ?_)
      try unfold tNext
      dsimp only
      refine ⟨_, rfl, pw, _, _, _, rfl, rfl, SqT.of e1, a0, rfl, _, rfl, ?_⟩
      refine ite2 (fun _ => ?_) (fun z => absurd (decide_eq_true rfl) z)
      refine ⟨_, rfl, _, rfl, _, rfl, _, rfl, _, _, rfl, rfl, m, us, k + 1, p, R, rfl, s1 _ _ hm, me.same s1, by lia, fun v us' H2 kc hm2 me2 pl2 => ?_⟩
      refine ⟨by show 3 ≤ sizeLine; lia, fun t ht => ?_⟩
      have s3 := Same.new (o := .tup [V.int (k : Int), .str d, v]) ht
      exact q t v us' _ (fun c u e hc => s3 _ _ (kc c u (s1 _ _ e) hc)) (s3 _ _ hm2) (me2.same s3) upd_same (pl2.same s3)
    | @lk _ k d ws R h h1 h2 =>
      refine ite2 (fun z => absurd (V.str.inj (of_decide_eq_true z)) (tx_not (by intro z; cases z))) (fun _ => ?_)
      try unfold tNext
      dsimp only
      have d1 := lo.l1
      have d2 := lo.l2
      refine ⟨_, rfl, rfl, _, _, rfl, rfl, by decide +kernel, Nat.le_trans htl (by decide), fun pw hpw => ?_⟩
      rw [show Txt.partition (txL (k, Ln.lk d).2) (Str.ofString " ") = (tL, tSp, d) from pt_lk d]
      have s1 : Same H (upd H pw (.tup [.str tL, .str tSp, .str d])) := Same.new hpw
      have e1 : (upd H pw (.tup [.str tL, .str tSp, .str d])) pw = some (.tup [.str tL, .str tSp, .str d]) := upd_same
      dsimp only
      generalize (upd H pw (.tup [.str tL, .str tSp, .str d])) = H1 at s1 e1 ⊢
      have a0 : atI [V.str tL, .str tSp, .str d] ((0 : Nat) : Int) = some (.str tL) := atI_nat rfl
      have a2 : atI [V.str tL, .str tSp, .str d] ((2 : Nat) : Int) = some (.str d) := atI_nat rfl
      refine ⟨_, rfl, pw, _, _, _, rfl, rfl, SqT.of e1, a2, ?_⟩
      refine ⟨_, rfl, _, _, rfl, ⟨by lia, rfl⟩, _, _, rfl, rfl, _, rfl, ?_⟩
      rw [decide_eq_true (show (1 : Int) ≤ (d.length : Int) by lia)]
      refine iteT ?_
      refine ⟨_, _, rfl, rfl, _, rfl, ?_⟩
      rw [decide_eq_true (show (d.length : Int) ≤ 30 by lia)]
      refine iteF ?_
      try unfold tNext
      dsimp only
      refine ⟨_, rfl, pw, _, _, _, rfl, rfl, SqT.of e1, a0, rfl, _, rfl, ?_⟩
      refine ite2 (fun z => absurd (V.str.inj (of_decide_eq_true z)) (by decide +kernel)) (fun _ => ?_)
      try unfold tNext
      dsimp only
      refine ⟨_, rfl, pw, _, _, _, rfl, rfl, SqT.of e1, a0, rfl, _, rfl, ?_⟩
      refine ite2 (fun _ => ?_) (fun z => absurd (decide_eq_true rfl) z)
      refine ⟨_, rfl, _, rfl, _, rfl, _, rfl, _, _, rfl, rfl, m, us, k + 1, S, rfl, s1 _ _ hm, me.same s1, by lia, fun r ws' us' H2 kc hr hr2 hm2 me2 pl2 => ?_⟩
      have hw : isW ws := by
        have := takW_isW (k + 1) S
        rw [h] at this
        exact this
      rw [h] at me2 pl2
      intro o dx ho hdx dn
      have s3 : Same H2 (upd (upd H2 dx (.own o)) o (.ins C.l dx [])) := (Same.new hdx).trans (Same.new (by rw [upd_ne dn.symm]; exact ho))
      have e3 : (upd (upd H2 dx (.own o)) o (.ins C.l dx [])) o = some (.ins C.l dx []) := upd_same
      generalize (upd (upd H2 dx (.own o)) o (.ins C.l dx [])) = H3 at s3 e3 ⊢
      refine ⟨o, dx, r, d, ws', anP ws, rfl, e3, s3 _ _ hr2, (pl2.same s3).wy hw, an_ne hw h1, h2.1, h2.2, fun tw H4 k4 e4 etw => ⟨rfl, ?_⟩⟩
      have s24 : Same H2 H4 := fun c u e => k4 c u (s3 _ _ e) (ne_of_none e ho)
      refine ⟨by show 3 ≤ sizeLine; lia, fun t ht => ?_⟩
      have s5 := Same.new (o := .tup [V.int (k : Int), .non, .ref o]) ht
      have s25 := s24.trans s5
      exact q t (.ref o) us' _ (fun c u e hc => s25 _ _ (kc c u (s1 _ _ e) hc)) (s25 _ _ hm2) (me2.same s25) upd_same ⟨o, dx, tw, ws', rfl, s5 _ _ e4, s5 _ _ etw, pl2.same s25⟩
theorem bt_rev : bootBuiltins "reversed" = some (.type "reversed") := by decide +kernel
inductive spReadPlan (C : C3) (vs : List V) (H : Hp) (Q : VK) (E0_ : XK) : Prop
  | mk (l : Addr) (t : Pn) (c0 : vs = [.ref l]) (c1 : H l = some (.lst ((lnsP t).map V.str))) (c2 : okP true t) (c3 : wtP t ≤ 40000) (c4 : htP t ≤ 50) (c5 : ∀ (v : V) (H' : Hp), Same H H' → PlAt C H' t [v] → Q v H') : spReadPlan C vs H Q E0_
theorem tk_rev {t : Pn} {i : Nat} {x : V} (h : ((lnsP t).map V.str).reverse[i]? = some x) : ∃ tk, x = V.str (rdL tk) ∧ tk ∈ tkP t 0 ∧ (tkP t 0).reverse.drop i = tk :: (tkP t 0).reverse.drop (i + 1) := by
  rw [← tk_lns0, List.map_map, ← List.map_reverse, List.getElem?_map] at h
  obtain ⟨tk, h1, h2⟩ := Option.map_eq_some_iff.mp h
  obtain ⟨hi, e⟩ := List.getElem?_eq_some_iff.mp h1
  exact ⟨tk, h2.symm, List.mem_reverse.mp (List.mem_of_getElem? h1), by rw [List.drop_eq_getElem_cons hi, e]⟩
theorem ok_readplan {f f1 f2 : Addr} {C : C3} {fd d1 d2 : FuncData} (F : Fun K "read_plan" "read_plan" sReadPlan f fd) (T : Bl mg) (D_read_line : Df K mg "read_line" sReadLine pReadLine f1 d1) (G_read_line : FnOk P w K mg base CX0 4 f1 d1 pReadLine (spReadLine C)) (D_take_plan : Df K mg "take_plan" sTakePlan pTakePlan f2 d2) (G_take_plan : FnOk P w K mg base CX0 1 f2 d2 pTakePlan (spTakePlan C)) : FnOk P w K mg base CX0 5 f fd pReadPlan (spReadPlan C) := by
  refine F.ok scReadPlan (fun vs H Q E h => ?_) (fun cdv A outer s H vs Q E hr4 h => ?_)
  · obtain ⟨l, t, rfl, _⟩ := h
    rfl
  · obtain ⟨l, t, rfl, hl, ok, wt, ht, q⟩ := h
    have hr1 : Room 1 _ := hr4.mono (by decide)
    have hsl : sizeLine = 16777216 := sizeLine_eq
    have hln := lns_len t
    have hml : ((lnsP t).map V.str).length = wtP t := by rw [List.length_map, hln]
    have htk : (tkP t 0).reverse.length = wtP t := by rw [List.length_reverse, ← hln, ← tk_lns0, List.length_map]
    refine ⟨_, (pss_cons (ps_set (i := 1) scReadPlan.nd rfl (Or.inl rfl) (pe_lst pa_nil))
      (pss_cons (ps_for PassesOwn.never rfl (pi_revL (by rfl) T.reversed bt_rev (pa_cons (pv 0) pa_nil)) (pg_name (i := 2) scReadPlan.nd rfl (Or.inl rfl))
        (pss_one (ps_expr (pe_bm PySem.F.plainAttrs_list PySem.F.slot_list_append PySem.F.type_list_append mt_append (pv 1) (pa_cons (pe_call G_read_line hr4 (by rfl) D_read_line.m D_read_line.F.kp D_read_line.b .nil pass0 (pa_cons (pv 2) (pa_cons (pv 1) pa_nil))) pa_nil)))))
      (pss_cons (ps_set (i := 3) scReadPlan.nd rfl (Or.inl rfl) (pe_call G_take_plan hr1 (by rfl) D_take_plan.m D_take_plan.F.kp D_take_plan.b .nil pass0 (pa_cons (pv 1) (pa_cons pe_int pa_nil))))
      (pss_cons (ps_if (pt_cmpR op_gt (pe_callB call_len (by rfl) T.len PySem.boot_len (pa_cons (pv 1) pa_nil)) pe_int (nomark _)) pss_never pss_nil)
      (pss_one (ps_ret (pv 3))))))), ?_⟩
    refine ⟨by show 0 ≤ sizeLine; lia, fun m hm => ?_⟩
    have s1 : Same H (upd H m (.lst [])) := Same.new hm
    have e1 : (upd H m (.lst [])) m = some (.lst []) := upd_same
    generalize (upd H m (.lst [])) = H1 at s1 e1 ⊢
    refine ⟨_, rfl, l, _, rfl, SqL.of (s1 _ _ hl), ?_⟩
    refine for_listR (K := K) (a := l) (xs := (lnsP t).map V.str) (fun i σ H2 => ∃ (v2 v3 : Option V) (S : List Me) (us : List V), σ = [some (.ref l), some (.ref m), v2, v3] ∧ Same H H2 ∧ H2 m = some (.lst us) ∧ MeAt C H2 S us ∧ RdR S ((tkP t 0).reverse.drop i) [(0, none, t)] ∧ S.length ≤ i)
      ⟨none, none, [], [], rfl, s1, e1, rfl, by rw [List.drop_zero]; exact rd_plan ok, Nat.le_refl _⟩ (fun i σ H2 _ hh0 => by obtain ⟨_, _, _, _, _, s2, _⟩ := hh0; exact SqL.of (s2 _ _ hl)) ?_ ?_
    · rintro i x σ H2 hx ⟨v2, v3, S, us, rfl, s2, hm2, me2, rd, li⟩
      have hi := (List.getElem?_eq_some_iff.mp hx).1
      rw [List.length_reverse, hml] at hi
      obtain ⟨tk, rfl, hmem, hd⟩ := tk_rev hx
      rw [hd] at rd
      obtain ⟨lo, hk⟩ := tk_ok t true 0 ok tk hmem
      have hk' : tk.1 ≤ 0 + 0 + 2 * htP t := hk
      have hul := me2.len
      cases rd with
      | @cons _ _ e R _ _ st rd =>
      have hR := st.len
      refine ⟨_, rfl, .inl ⟨rfl, _, SqL.of hm2⟩, _, rfl, _, rfl, m, us, tk, S, R, e, rfl, hm2, me2, by lia, lo, by lia, st, fun t' v us' H3 kc hm3 me3 et pl3 => ?_⟩
      have hul3 := me3.len
      refine ⟨m, _, _, rfl, rfl, hm3, by lia, ?_⟩
      have k4 : ∀ c u, H3 c = some u → c ≠ m → (upd H3 m (.lst (us' ++ [.ref t']))) c = some u := fun c u e hc => by rw [upd_ne hc]; exact e
      have nt : t' ≠ m := ne_of et hm3 (by intro z; cases z)
      exact ⟨some (.str (rdL tk)), v3, e :: R, us' ++ [.ref t'], rfl, fun c u z => k4 c u (kc c u (s2 _ _ z) (ne_of_none z hm)) (ne_of_none z hm), upd_same, ⟨t', v, us', rfl, k4 _ _ et nt, pl3.kx k4 hm3, me3.kx k4 hm3⟩, rd, by show R.length + 1 ≤ i + 1; lia⟩
    · rintro σ H2 ⟨v2, v3, S, us, rfl, s2, hm2, me2, rd, li⟩
      rw [hml, List.drop_of_length_le (by lia)] at rd
      cases rd
      have hul := me2.len
      have hul' : us.length = 1 := hul
      refine ⟨_, rfl, m, us, 0, t, [], rfl, hm2, me2, by lia, fun v us' H3 kc hm3 me3 pl3 => ?_⟩
      have e0 : us' = [] := me3
      refine ⟨_, rfl, _, _, rfl, .inl ⟨_, SqL.of hm3, rfl⟩, _, _, rfl, rfl, _, rfl, ?_⟩
      refine ite2 (fun z => ?_) (fun _ => ?_)
      · exfalso
        have := of_decide_eq_true z
        rw [e0] at this
        exact absurd this (by decide)
      try unfold tNext
      dsimp only
      exact ⟨_, rfl, q v H3 (fun c u z => kc c u (s2 _ _ z) (ne_of_none z hm)) pl3⟩
inductive Z2 {α : Type} (R : V → α → Prop) : List V → List α → Prop
  | nil : Z2 R [] []
  | cons {v : V} {t : α} {vs : List V} {ts : List α} (h : R v t) (r : Z2 R vs ts) : Z2 R (v :: vs) (t :: ts)
theorem Z2.mono {α : Type} {R S : V → α → Prop} (m : ∀ v t, R v t → S v t) {vs : List V} {ts : List α} (h : Z2 R vs ts) : Z2 S vs ts := by
  induction h with
  | nil => exact .nil
  | cons a _ ih => exact .cons (m _ _ a) ih
theorem Z2.len {α : Type} {R : V → α → Prop} {vs : List V} {ts : List α} (h : Z2 R vs ts) : vs.length = ts.length := by
  induction h with
  | nil => rfl
  | cons _ _ ih => rw [List.length_cons, (List.length_cons), ih]
theorem Z2.at {α : Type} {R : V → α → Prop} {vs : List V} {ts : List α} (h : Z2 R vs ts) : ∀ {i : Nat} {v : V}, vs[i]? = some v → ∃ t, ts[i]? = some t ∧ R v t := by
  induction h with
  | nil => intro i v e; cases e
  | cons a _ ih =>
    intro i v e
    cases i with
    | zero => cases e; exact ⟨_, rfl, a⟩
    | succ i => exact ih e
theorem sz_pos {t : Pn} (h : okP true t) : 1 ≤ szP t := by
  cases t with
  | stop => exact Nat.le_refl _
  | dd _ _ => exact Nat.le_add_left ..
  | lk _ _ => exact Nat.le_add_left ..
  | nil => exact h.elim
  | way _ _ _ => exact h.elim
structure MV (P : Program) (w : World) (K : PySem.W.Frag) (mg : Str → Option Value) (base : Heap) (C : Addr) (x : Str) (k : Nat) (sp : Sp) : Prop where
  cl : Cls K C
  ex : ∃ (f : Addr) (fd : FuncData), Meth K C x f ∧ FnOk P w K mg base CX0 k f fd ["self"] sp ∧ Binds K fd ["self"] []
end
end K38
namespace K38
open PySem L2 Tx Rk PyProof.Rows PySem.SeqAt
open PySem.PyData (strOk)
end K38
namespace K38
open PySem L2 Tx Rk PyProof.Rows PySem.SeqAt
open PySem.PyData (strOk)
section
variable {P : Program} {w : World} {K : PySem.W.Frag} {mg : Str → Option Value} {base : Heap}
theorem two_len : tTwo.length = 2 := by decide +kernel
theorem map_snoc (xs : List Str) (y : Str) : (xs ++ [y]).map V.str = xs.map V.str ++ [.str y] := by rw [List.map_append]; rfl
end
end K38
namespace K38
open PySem L2 Tx Rk PyProof.Rows PySem.SeqAt
open PySem.PyData (strOk)
end K38
namespace K38
open PySem L2 Tx Rk PyProof.Rows PySem.SeqAt
open PySem.PyData (strOk)
section
variable {P : Program} {w : World} {K : PySem.W.Frag} {mg : Str → Option Value} {base : Heap}
noncomputable def okW : Bool → Pn → Prop
  | true, .stop => True
  | true, .dd d r => Lb d ∧ okW true r
  | true, .lk l ws => Lb l ∧ okW false ws
  | false, .nil => True
  | false, .way a p r => Lb a ∧ okW true p ∧ okW false r
  | _, _ => False
theorem okP.wk : ∀ {t : Pn} {p : Bool}, okP p t → okW p t
  | .stop, true, _ => trivial
  | .dd _ _, true, h => ⟨h.1, okP.wk h.2⟩
  | .lk _ _, true, h => ⟨h.1, okP.wk h.2.2.2⟩
  | .nil, false, _ => trivial
  | .way _ _ _, false, h => ⟨h.1, okP.wk h.2.1, okP.wk h.2.2⟩
  | .stop, false, h => h.elim
  | .dd _ _, false, h => h.elim
  | .lk _ _, false, h => h.elim
  | .nil, true, h => h.elim
  | .way _ _ _, true, h => h.elim
noncomputable def nbT (k : Nat) (X : List (Nat × Ln)) : Prop := ∀ x X', X = x :: X' → x.1 ≤ k
theorem nb_tk {k : Nat} {X : List (Nat × Ln)} (h : nbT k X) : ∀ ws : Pn, okW false ws → nbT (k + 2) (tkP ws k ++ X)
  | .nil, _ => fun x X' e => by have := h x X' e; lia
  | .way a p r, _ => fun x X' e => by
    injection e with e1 e2
    rw [← e1]
    show k + 1 ≤ k + 2
    lia
theorem tk_inj : ∀ (t b : Pn) (p : Bool) (k : Nat) (X Y : List (Nat × Ln)), okW p t → okW p b → nbT k X → nbT k Y → tkP t k ++ X = tkP b k ++ Y → t = b ∧ X = Y
  | .stop, b, true, k, X, Y, _, hb, hX, hY, e => by
    cases b with
    | stop => exact ⟨rfl, (List.cons.inj e).2⟩
    | dd d r => exact absurd (congrArg Prod.snd (List.cons.inj e).1) (by intro z; cases z)
    | lk l ws => exact absurd (congrArg Prod.snd (List.cons.inj e).1) (by intro z; cases z)
    | nil => exact hb.elim
    | way _ _ _ => exact hb.elim
  | .dd d r, b, true, k, X, Y, ht, hb, hX, hY, e => by
    cases b with
    | stop => exact absurd (congrArg Prod.snd (List.cons.inj e).1) (by intro z; cases z)
    | dd d' r' =>
      have e1 := congrArg Prod.snd (List.cons.inj e).1
      injection e1 with e1
      obtain ⟨e2, e3⟩ := tk_inj r r' true k X Y ht.2 hb.2 hX hY (List.cons.inj e).2
      exact ⟨by rw [e1, e2], e3⟩
    | lk l ws => exact absurd (congrArg Prod.snd (List.cons.inj e).1) (by intro z; cases z)
    | nil => exact hb.elim
    | way _ _ _ => exact hb.elim
  | .lk l ws, b, true, k, X, Y, ht, hb, hX, hY, e => by
    cases b with
    | stop => exact absurd (congrArg Prod.snd (List.cons.inj e).1) (by intro z; cases z)
    | dd d' r' => exact absurd (congrArg Prod.snd (List.cons.inj e).1) (by intro z; cases z)
    | lk l' ws' =>
      have e1 := congrArg Prod.snd (List.cons.inj e).1
      injection e1 with e1
      obtain ⟨e2, e3⟩ := tk_inj ws ws' false k X Y ht.2 hb.2 hX hY (List.cons.inj e).2
      exact ⟨by rw [e1, e2], e3⟩
    | nil => exact hb.elim
    | way _ _ _ => exact hb.elim
  | .nil, b, false, k, X, Y, ht, hb, hX, hY, e => by
    cases b with
    | nil => exact ⟨rfl, e⟩
    | way a p r =>
      have := hX _ _ e
      have h2 : k + 1 ≤ k := this
      lia
    | stop => exact hb.elim
    | dd _ _ => exact hb.elim
    | lk _ _ => exact hb.elim
  | .way a p r, b, false, k, X, Y, ht, hb, hX, hY, e => by
    cases b with
    | nil =>
      have := hY _ _ e.symm
      have h2 : k + 1 ≤ k := this
      lia
    | way a' p' r' =>
      have e1 := congrArg Prod.snd (List.cons.inj e).1
      injection e1 with e1
      have e4 : tkP p (k + 2) ++ (tkP r k ++ X) = tkP p' (k + 2) ++ (tkP r' k ++ Y) := by
        (rw [← List.append_assoc, ← List.append_assoc])
        exact (List.cons.inj e).2
      obtain ⟨e2, e3⟩ := tk_inj p p' true (k + 2) _ _ ht.2.1 hb.2.1 (nb_tk hX r ht.2.2) (nb_tk hY r' hb.2.2) e4
      obtain ⟨e5, e6⟩ := tk_inj r r' false k X Y ht.2.2 hb.2.2 hX hY e3
      exact ⟨by rw [e1, e2, e5], e6⟩
    | stop => exact hb.elim
    | dd _ _ => exact hb.elim
    | lk _ _ => exact hb.elim
  | .stop, _, false, _, _, _, h, _, _, _, _ => h.elim
  | .dd _ _, _, false, _, _, _, h, _, _, _, _ => h.elim
  | .lk _ _, _, false, _, _, _, h, _, _, _, _ => h.elim
  | .nil, _, true, _, _, _, h, _, _, _, _ => h.elim
  | .way _ _ _, _, true, _, _, _, h, _, _, _, _ => h.elim
noncomputable def isC : Ln → Bool
  | .case _ => true
  | _ => false
theorem tk_par : ∀ (t : Pn) (k : Nat), ∀ x ∈ tkP t k, x.1 % 2 = (k + (isC x.2).toNat) % 2
  | .stop, k, x, h => by
    rw [List.mem_singleton.mp h]
    rfl
  | .dd d r, k, x, h => by
    rcases (List.mem_cons.mp h) with e | h
    · rw [e]
      rfl
    · exact tk_par r k x h
  | .lk d r, k, x, h => by
    rcases (List.mem_cons.mp h) with e | h
    · rw [e]
      rfl
    · exact tk_par r k x h
  | .nil, _, _, h => nomatch h
  | .way a p r, k, x, h => by
    rcases (List.mem_cons.mp h) with e | h
    · rw [e]
      rfl
    · rcases (List.mem_append.mp h) with h | h
      · have := tk_par p (k + 2) x h
        lia
      · exact tk_par r k x h
noncomputable def EdS (L : List (Nat × Ln)) : Prop := ∃ (A : List (Nat × Ln)) (j : Nat), L = A ++ [(j, .stop)] ∧ ∀ x, A.getLast? = some x → x.2 ≠ .stop
theorem EdS.cons {L : List (Nat × Ln)} {x : Nat × Ln} (h : EdS L) (hx : x.2 ≠ .stop) : EdS (x :: L) := by
  obtain ⟨A, j, rfl, h⟩ := h
  refine ⟨x :: A, j, rfl, fun y hy => ?_⟩
  cases A with
  | nil =>
    cases hy
    exact hx
  | cons z A =>
    rw [List.getLast?_cons_cons] at hy
    exact h y hy
theorem tk_end : ∀ (t : Pn) (p : Bool) (k : Nat), okP p t → t ≠ .nil → EdS (tkP t k)
  | .stop, true, k, _, _ => ⟨[], k, rfl, fun x h => by cases h⟩
  | .dd d r, true, k, h, _ => (tk_end r true k h.2 (by intro z; rw [z] at h; exact h.2)).cons (by intro z; cases z)
  | .lk l ws, true, k, h, _ => (tk_end ws false k h.2.2.2 h.2.1).cons (by intro z; cases z)
  | .way a p r, false, k, h, _ => by
    cases r with
    | nil =>
      have h1 := tk_end p true (k + 2) h.2.1 (by intro z; rw [z] at h; exact h.2.1)
      have e : tkP (.way a p .nil) k = (k + 1, .case a) :: tkP p (k + 2) := by
        show (k + 1, Ln.case a) :: (tkP p (k + 2) ++ []) = _
        rw [List.append_nil]
      rw [e]
      exact h1.cons (by intro z; cases z)
    | way a' p' r' =>
      obtain ⟨A, j, e, hA⟩ := tk_end (.way a' p' r') false k h.2.2 (by intro z; cases z)
      refine ⟨(k + 1, .case a) :: (tkP p (k + 2) ++ A), j, ?_, fun x hx => hA x ?_⟩
      · show (k + 1, Ln.case a) :: (tkP p (k + 2) ++ tkP (.way a' p' r') k) = _
        rw [e]
        simp
      · cases A with
        | nil => cases e
        | cons z A =>
          rw [← List.cons_append, List.getLast?_append, List.getLast?_cons] at hx
          rw [List.getLast?_cons]
          exact hx
    | stop => exact h.2.2.elim
    | dd _ _ => exact h.2.2.elim
    | lk _ _ => exact h.2.2.elim
  | .nil, _, _, _, h => absurd rfl h
  | .stop, false, _, h, _ => h.elim
  | .dd _ _, false, _, h, _ => h.elim
  | .lk _ _, false, _, h, _ => h.elim
  | .way _ _ _, true, _, h, _ => h.elim
theorem spc_inj {a b : Nat} {r s : List Nat} (ha : a ≠ 32) (hb : b ≠ 32) : ∀ {k j : Nat}, List.replicate k 32 ++ a :: r = List.replicate j 32 ++ b :: s → k = j ∧ a = b ∧ r = s
  | 0, 0, e => ⟨rfl, (List.cons.inj e).1, (List.cons.inj e).2⟩
  | 0, j + 1, e => by
    rw [List.replicate_succ] at e
    exact absurd (List.cons.inj e).1 ha
  | k + 1, 0, e => by
    rw [List.replicate_succ] at e
    exact absurd (List.cons.inj e).1.symm hb
  | k + 1, j + 1, e => by
    rw [List.replicate_succ, List.replicate_succ] at e
    obtain ⟨h1, h2⟩ := spc_inj ha hb (k := k) (j := j) (List.cons.inj e).2
    exact ⟨by rw [h1], h2⟩
noncomputable def hdL : Ln → Nat
  | .stop => 115
  | .dd _ => 100
  | .lk _ => 108
  | .case _ => 99
noncomputable def tlL : Ln → List Nat
  | .stop => [116, 111, 112]
  | .dd d => [111, 32] ++ cs d
  | .lk l => [111, 111, 107, 32] ++ cs l
  | .case a => [97, 115, 101, 32] ++ cs a
theorem cs_tx (x : Ln) : cs (txL x) = hdL x :: tlL x := by
  cases x with
  | stop => show cs tStop = _; decide +kernel
  | dd d =>
    show cs (tDo ++ d) = _
    rw [cs_app, show cs tDo = [100, 111, 32] by decide +kernel]
    rfl
  | lk d =>
    show cs (tLook ++ d) = _
    rw [cs_app, show cs tLook = [108, 111, 111, 107, 32] by decide +kernel]
    rfl
  | case d =>
    show cs (tCas ++ d) = _
    rw [cs_app, show cs tCas = [99, 97, 115, 101, 32] by decide +kernel]
    rfl
theorem hd_ne (x : Ln) : hdL x ≠ 32 := by cases x <;> (intro z; cases z)
theorem cs_rd (x : Nat × Ln) : cs (rdL x) = List.replicate x.1 32 ++ hdL x.2 :: tlL x.2 := by
  show cs (spc x.1 ++ txL x.2) = _
  rw [cs_app, cs_spc, cs_tx]
theorem tx_inj {x y : Ln} (h : hdL x = hdL y) (h2 : tlL x = tlL y) : x = y := by
  cases x <;> cases y <;> first
    | rfl
    | (exfalso; revert h; show ¬ ((_ : Nat) = _); unfold hdL; simp; done)
    | exact congrArg _ (st_ext (List.append_cancel_left h2))
theorem rd_inj {x y : Nat × Ln} (h : rdL x = rdL y) : x = y := by
  have e := congrArg cs h
  rw [cs_rd, cs_rd] at e
  obtain ⟨h1, h2, h3⟩ := spc_inj (hd_ne _) (hd_ne _) e
  exact Prod.ext h1 (tx_inj h2 h3)
theorem rds_inj : ∀ {xs ys : List (Nat × Ln)}, xs.map rdL = ys.map rdL → xs = ys
  | [], [], _ => rfl
  | [], _ :: _, e => nomatch e
  | _ :: _, [], e => nomatch e
  | x :: xs, y :: ys, e => by
    rw [List.map_cons, List.map_cons] at e
    rw [rd_inj (List.cons.inj e).1, rds_inj (List.cons.inj e).2]
noncomputable def Bad (ys : List Str) : Prop := ∀ p, okP true p → ys ≠ lnsP p
theorem okP.ne {t : Pn} (h : okP true t) : t ≠ .nil := by
  intro z
  rw [z] at h
  exact h
theorem bad_nil : Bad [] := fun p h e => by
  obtain ⟨A, j, e1, _⟩ := tk_end p true 0 h h.ne
  rw [← tk_lns0, e1] at e
  exact absurd (congrArg List.length e) (by simp)
theorem bad_snoc {t : Pn} (h : okP true t) (z : Str) : Bad (lnsP t ++ [z]) := fun p hp e => by
  obtain ⟨A, j, e1, hA⟩ := tk_end p true 0 hp hp.ne
  obtain ⟨B, i, e2, _⟩ := tk_end t true 0 h h.ne
  rw [← tk_lns0, ← tk_lns0, e1, List.map_append] at e
  have e3 := rds_inj (List.append_inj_left' e rfl)
  refine hA (i, .stop) ?_ rfl
  rw [← e3, e2, List.getLast?_append]
  rfl
theorem bad_init {t : Pn} (h : okP true t) : Bad (lnsP t).dropLast := fun p hp e => by
  obtain ⟨A, j, e1, _⟩ := tk_end p true 0 hp hp.ne
  obtain ⟨B, i, e2, hB⟩ := tk_end t true 0 h h.ne
  rw [← tk_lns0, ← tk_lns0, e2, List.map_append, List.map_singleton, List.dropLast_concat] at e
  have e3 := rds_inj e
  refine hB (j, .stop) ?_ rfl
  rw [e3, e1, List.getLast?_append]
  rfl
theorem bad_bent {b : Pn} (h : okW true b) (n : ¬ okP true b) : Bad (lnsP b) := fun p hp e => by
  rw [← tk_lns0, ← tk_lns0] at e
  have e1 := rds_inj e
  obtain ⟨e2, _⟩ := tk_inj b p true 0 [] [] h hp.wk (fun x X' z => nomatch z) (fun x X' z => nomatch z) (by rw [e1])
  exact n (e2 ▸ hp)
noncomputable def GdL (z : Str) : Prop := ∃ x : Nat × Ln, z = rdL x ∧ lnOk x.2 ∧ x.1 % 2 = (isC x.2).toNat
theorem gd_of {t : Pn} (h : okP true t) {z : Str} (hz : z ∈ lnsP t) : GdL z := by
  rw [← tk_lns0] at hz
  obtain ⟨x, hx, rfl⟩ := List.mem_map.mp hz
  have h2 := tk_par t 0 x hx
  refine ⟨x, rfl, (tk_ok t true 0 h x hx).1, ?_⟩
  rw [Nat.zero_add] at h2
  rw [h2]
  cases isC x.2 <;> rfl
theorem bad_at {ys : List Str} {z : Str} (h : z ∈ ys) (n : ¬ GdL z) : Bad ys := fun p hp e => n (gd_of hp (e ▸ h))
theorem no_blank {x : Nat × Ln} (h : x.1 % 2 = (isC x.2).toNat) : ¬ GdL (rdL (x.1 + 1, x.2)) := fun ⟨y, e, _, h2⟩ => by
  have e2 := rd_inj e
  rw [← e2] at h2
  have h3 : (x.1 + 1) % 2 = (isC x.2).toNat := h2
  lia
theorem no_first {k a : Nat} {r : List Nat} {z : Str} (e : cs z = List.replicate k 32 ++ a :: r) (h32 : a ≠ 32) (h1 : a ≠ 115) (h2 : a ≠ 100) (h3 : a ≠ 108) (h4 : a ≠ 99) : ¬ GdL z := fun ⟨y, e1, _, _⟩ => by
  rw [e1, cs_rd] at e
  obtain ⟨_, h, _⟩ := spc_inj (hd_ne _) h32 e
  cases hy : y.2 with
  | stop => rw [hy] at h; exact h1 h.symm
  | dd _ => rw [hy] at h; exact h2 h.symm
  | lk _ => rw [hy] at h; exact h3 h.symm
  | case _ => rw [hy] at h; exact h4 h.symm
theorem no_name {k : Nat} {x : Ln} {z : Str} (e : z = spc k ++ txL x) (hx : ∀ m, x = .dd m ∨ x = .lk m ∨ x = .case m → ¬ Lb m) (hs : x ≠ .stop) : ¬ GdL z := fun ⟨y, e1, h, _⟩ => by
  have e2 : rdL (k, x) = rdL y := e.symm.trans e1
  have e3 := rd_inj e2
  rw [← e3] at h
  cases x with
  | stop => exact hs rfl
  | dd m => exact hx m (.inl rfl) h
  | lk m => exact hx m (.inr (.inl rfl)) h
  | case m => exact hx m (.inr (.inr rfl)) h
theorem no_stop {k : Nat} {z : Str} {c : Nat} {r : List Nat} (e : cs z = List.replicate k 32 ++ [115, 116, 111, 112] ++ c :: r) : ¬ GdL z := fun ⟨y, e1, _, _⟩ => by
  rw [e1, cs_rd] at e
  have e0 : List.replicate y.1 32 ++ hdL y.2 :: tlL y.2 = List.replicate k 32 ++ 115 :: [116, 111, 112, c] ++ r := by
    rw [e]
    simp
  rw [List.append_assoc] at e0
  obtain ⟨_, h1, h2⟩ := spc_inj (hd_ne _) (show (115 : Nat) ≠ 32 by decide) e0
  cases hy : y.2 with
  | stop =>
    rw [hy] at h2
    exact absurd (congrArg List.length h2) (by show ¬ (3 = (([116, 111, 112, c] ++ r : List Nat)).length); simp)
  | dd _ => rw [hy] at h1; exact absurd h1 (by show ¬ ((100 : Nat) = 115); decide)
  | lk _ => rw [hy] at h1; exact absurd h1 (by show ¬ ((108 : Nat) = 115); decide)
  | case _ => rw [hy] at h1; exact absurd h1 (by show ¬ ((99 : Nat) = 115); decide)
noncomputable abbrev pLLines : List Str := ["_law_tree_here"]
noncomputable abbrev nLLines : List Str := ["_law_tree_here", "_law_lines_here", "_law_answer", "_law_rest", "_law_line"]
theorem scLLines : FnScope nLLines pLLines (defScope sLLines) := ⟨rfl, rfl, rfl, by decide +kernel, rfl, by decide +kernel, by decide +kernel⟩
theorem ht_pos {t : Pn} (h : okW true t) : 1 ≤ htP t := by
  cases t with
  | stop => exact Nat.le_refl _
  | dd _ _ => exact Nat.le_add_left ..
  | lk _ _ => exact Nat.le_add_left ..
  | nil => exact h.elim
  | way _ _ _ => exact h.elim
theorem lns_short : ∀ (t : Pn) (p : Bool), okW p t → ∀ y ∈ lnsP t, y.length ≤ (if p = true then 42 else 44) + 2 * htP t
  | .stop, true, _, y, hy => by
    rw [List.mem_singleton.mp hy]
    exact Nat.le_trans (show tStop.length ≤ 42 by decide +kernel) (Nat.le_add_right ..)
  | .dd d r, true, h, y, hy => by
    rcases (List.mem_cons.mp hy) with e | hy
    · have := h.1.l2
      rw [e, sz_app, show tDo.length = 3 by decide +kernel]
      show _ ≤ 42 + 2 * _
      lia
    · have h1 : y.length ≤ 42 + 2 * htP r := lns_short r true h.2 y hy
      show _ ≤ 42 + 2 * (htP r + 1)
      lia
  | .lk l ws, true, h, y, hy => by
    rcases (List.mem_cons.mp hy) with e | hy
    · have := h.1.l2
      rw [e, sz_app, show tLook.length = 5 by decide +kernel]
      show _ ≤ 42 + 2 * _
      lia
    · have h1 : y.length ≤ 44 + 2 * htP ws := lns_short ws false h.2 y hy
      show _ ≤ 42 + 2 * (htP ws + 1)
      lia
  | .nil, false, _, _, hy => nomatch hy
  | .way a p r, false, h, y, hy => by
    have hm : htP p ≤ htP (.way a p r) ∧ htP r ≤ htP (.way a p r) := ⟨Nat.le_max_left .., Nat.le_max_right ..⟩
    show _ ≤ 44 + 2 * _
    rcases (List.mem_cons.mp hy) with e | hy
    · have := h.1.l2
      rw [e, sz_app, show tCase.length = 6 by decide +kernel]
      lia
    · rcases (List.mem_append.mp hy) with hy | hy
      · obtain ⟨z, hz, rfl⟩ := List.mem_map.mp hy
        have h1 : z.length ≤ 42 + 2 * htP p := lns_short p true h.2.1 z hz
        rw [sz_app, two_len]
        lia
      · have h1 : y.length ≤ 44 + 2 * htP r := lns_short r false h.2.2 y hy
        lia
  | .stop, false, h, _, _ => h.elim
  | .dd _ _, false, h, _, _ => h.elim
  | .lk _ _, false, h, _, _ => h.elim
  | .nil, true, h, _, _ => h.elim
  | .way _ _ _, true, h, _, _ => h.elim
inductive spLLines (n : Nat) (vs : List V) (H : Hp) (Q : VK) (E0_ : XK) : Prop
  | mk (v : V) (t : Pn) (c0 : vs = [v]) (c1 : TrAt H t [v]) (c2 : okW true t) (c3 : htP t ≤ n) (c4 : n ≤ 100) (c5 : wtP t ≤ 40000) (c6 : ∀ (r : Addr) (H' : Hp), Same H H' → H r = none → H' r = some (.lst ((lnsP t).map V.str)) → Q (.ref r) H') : spLLines n vs H Q E0_
theorem fn_none {f : Addr} {fd : FuncData} {k : Nat} {ps : List Str} {sp : Sp} (h : ∀ vs H Q E, ¬ sp vs H Q E) : FnOk P w K mg base CX0 k f fd ps sp := ⟨fun vs H Q E z => absurd z (h vs H Q E), fun _ _ _ H _ _ vs Q E _ _ _ _ z => absurd z (h vs H Q E)⟩
noncomputable def wyL : Pn → List (Str × Pn)
  | .way a p r => (a, p) :: wyL r
  | _ => []
noncomputable def lnW (x : Str × Pn) : List Str := (tCase ++ x.1) :: (lnsP x.2).map (tTwo ++ ·)
noncomputable def lnWs (xs : List (Str × Pn)) : List Str := (xs.map lnW).flatten
theorem lnWs_snoc (xs : List (Str × Pn)) (x : Str × Pn) : lnWs (xs ++ [x]) = lnWs xs ++ lnW x := by
  unfold lnWs
  rw [List.map_append, List.flatten_append]
  simp
theorem lns_ways : ∀ {ws : Pn}, okW false ws → lnsP ws = lnWs (wyL ws)
  | .nil, _ => rfl
  | .way a p r, h => by
    show (tCase ++ a) :: ((lnsP p).map (tTwo ++ ·) ++ lnsP r) = lnW (a, p) ++ lnWs (wyL r)
    rw [lns_ways h.2.2]
    rfl
noncomputable def WtV (H : Hp) (n m : Nat) (v : V) (x : Str × Pn) : Prop := ∃ (t : Addr) (u : V), v = .ref t ∧ H t = some (.tup [.str x.1, u]) ∧ TrAt H x.2 [u] ∧ Lb x.1 ∧ okW true x.2 ∧ htP x.2 ≤ n ∧ wtP x.2 ≤ m
theorem WtV.same {H H' : Hp} {n m : Nat} (s : Same H H') (v : V) (x : Str × Pn) : WtV H n m v x → WtV H' n m v x := fun ⟨t, u, e, h, tr, z⟩ => ⟨t, u, e, s _ _ h, tr.same s, z⟩
theorem ways_at {H : Hp} {n m : Nat} : ∀ {ws : Pn} {us : List V}, okW false ws → htP ws ≤ n → wtP ws ≤ m → TrAt H ws us → Z2 (WtV H n m) us (wyL ws)
  | .nil, us, _, _, _, e => by
    rw [show us = [] from e]
    exact .nil
  | .way a p r, us, h, hh, hw, ⟨t, v, us', e, h1, h2, h3⟩ => by
    rw [e]
    have hh' : max (htP p) (htP r) ≤ n := hh
    have hw' : wtP p + wtP r + 1 ≤ m := hw
    have hm := Nat.max_le.mp hh'
    have z1 : wtP p ≤ m := by lia
    have z2 : wtP r ≤ m := by lia
    exact .cons ⟨t, v, rfl, h1, h2, h.1, h.2.1, hm.1, z1⟩ (ways_at h.2.2 hm.2 z2 h3)
theorem lnWs_le : ∀ {ws : Pn} (i : Nat), okW false ws → (lnWs ((wyL ws).take i)).length ≤ wtP ws
  | .nil, i, _ => by
    show (lnWs (List.take i [])).length ≤ 0
    rw [List.take_nil]
    exact Nat.le_refl _
  | .way a p r, 0, _ => Nat.zero_le _
  | .way a p r, i + 1, h => by
    have h1 := lnWs_le (ws := r) i h.2.2
    have h2 := lns_len p
    show (lnW (a, p) ++ lnWs ((wyL r).take i)).length ≤ wtP p + wtP r + 1
    rw [List.length_append]
    show ((lnsP p).map (tTwo ++ ·)).length + 1 + _ ≤ _
    rw [List.length_map, h2]
    lia
theorem ok_llines {f : Addr} {fd : FuncData} (F : Fun K "_law_lines" "_law_lines" sLLines f fd) (D_l_lines : Df K mg "_law_lines" sLLines pLLines f fd) : ∀ n : Nat, FnOk P w K mg base CX0 (1 + n) f fd pLLines (spLLines n)
  | 0 => fn_none fun vs H Q E h => by
    obtain ⟨v, t, _, _, ok, h0, _⟩ := h
    have := ht_pos ok
    lia
  | n + 1 => by
    have G_l_lines := ok_llines F D_l_lines n
    refine F.ok (k := 1 + n) scLLines (fun vs H Q E h => ?_) (fun cdv A outer s H vs Q E hrN h => ?_)
    · obtain ⟨v, t, rfl, _⟩ := h
      rfl
    · obtain ⟨v, t, rfl, tr, ok, hn, hn2, wt, q⟩ := h
      have hsl : sizeLine = 16777216 := sizeLine_eq
      refine ⟨_, (pss_cons (ps_if (pt_cmpR op_eq (pe_ix ix_tup (pv 0) pe_int (fun _ _ => rfl)) pe_str (nomark _)) (pss_one (ps_ret (pe_lst (pa_cons pe_str pa_nil)))) pss_nil)
      (pss_cons (ps_if (pt_cmpR op_eq (pe_ix ix_tup (pv 0) pe_int (fun _ _ => rfl)) pe_str (nomark _)) (pss_one (ps_ret (pe_op op_cat (pe_lst (pa_cons (pe_op op_add_str pe_str (pe_ix ix_tup (pv 0) pe_int (fun _ _ => rfl))) pa_nil)) (pe_call G_l_lines hrN (by rfl) D_l_lines.m D_l_lines.F.kp D_l_lines.b .nil pass0 (pa_cons (pe_ix ix_tup (pv 0) pe_int (fun _ _ => rfl)) pa_nil))))) pss_nil)
      (pss_cons (ps_set (i := 1) scLLines.nd rfl (Or.inl rfl) (pe_lst (pa_cons (pe_op op_add_str pe_str (pe_ix ix_tup (pv 0) pe_int (fun _ _ => rfl))) pa_nil)))
      (pss_cons (ps_for PassesOwn.never rfl (pi_list (pe_ix ix_tup (pv 0) pe_int (fun _ _ => rfl))) (pg_tup rfl (pgs_cons (pg_name (i := 2) scLLines.nd rfl (Or.inl rfl)) (pgs_cons (pg_name (i := 3) scLLines.nd rfl (Or.inl rfl)) pgs_nil)))
        (pss_cons (ps_expr (pe_bm PySem.F.plainAttrs_list PySem.F.slot_list_append PySem.F.type_list_append mt_append (pv 1) (pa_cons (pe_op op_add_str pe_str (pv 2)) pa_nil)))
      (pss_one (ps_for PassesOwn.never rfl (pi_list (pe_call G_l_lines hrN (by rfl) D_l_lines.m D_l_lines.F.kp D_l_lines.b .nil pass0 (pa_cons (pv 3) pa_nil))) (pg_name (i := 4) scLLines.nd rfl (Or.inl rfl))
        (pss_one (ps_expr (pe_bm PySem.F.plainAttrs_list PySem.F.slot_list_append PySem.F.type_list_append mt_append (pv 1) (pa_cons (pe_op op_add_str pe_str (pv 4)) pa_nil))))))))
      (pss_one (ps_ret (pv 1))))))), ?_⟩
      cases t with
      | nil => exact ok.elim
      | way _ _ _ => exact ok.elim
      | stop =>
        obtain ⟨a, e, h⟩ := tr
        cases e
        refine ⟨_, rfl, a, _, _, _, rfl, rfl, SqT.of h, atI_nat (j := 0) (v := V.str tStop) rfl, rfl, _, rfl, ?_⟩
        refine ite2 (fun _ => ?_) (fun z => absurd (decide_eq_true rfl) z)
        exact ⟨by show 1 ≤ sizeLine; lia, fun r hr => q r _ (Same.new hr) hr upd_same⟩
      | dd d r =>
        obtain ⟨a, v', e, h, tr'⟩ := tr
        cases e
        have a0 : atI [V.str (Str.ofString "do"), .str d, v'] ((0 : Nat) : Int) = some (.str (Str.ofString "do")) := atI_nat rfl
        have a1 : atI [V.str (Str.ofString "do"), .str d, v'] ((1 : Nat) : Int) = some (.str d) := atI_nat rfl
        have a2 : atI [V.str (Str.ofString "do"), .str d, v'] ((2 : Nat) : Int) = some v' := atI_nat rfl
        refine ⟨_, rfl, a, _, _, _, rfl, rfl, SqT.of h, a0, rfl, _, rfl, ?_⟩
        refine ite2 (fun z => absurd (V.str.inj (of_decide_eq_true z)) (by decide +kernel)) (fun _ => ?_)
        try unfold tNext
        dsimp only
        refine ⟨_, rfl, a, _, _, _, rfl, rfl, SqT.of h, a0, rfl, _, rfl, ?_⟩
        refine ite2 (fun _ => ?_) (fun z => absurd (decide_eq_true rfl) z)
        have l2 := ok.1.l2
        refine ⟨_, rfl, a, _, _, _, rfl, rfl, SqT.of h, a1, _, _, rfl, rfl, by show tDo.length + d.length ≤ _; rw [show tDo.length = 3 by decide +kernel]; lia, by show 1 ≤ sizeLine; lia, fun l1 hl1 => ?_⟩
        have s1 : Same H (upd H l1 (.lst [.str (tDo ++ d)])) := Same.new hl1
        have e1 : (upd H l1 (.lst [.str (tDo ++ d)])) l1 = some (.lst [.str (tDo ++ d)]) := upd_same
        generalize (upd H l1 (.lst [.str (tDo ++ d)])) = H1 at s1 e1 ⊢
        have hw' : wtP r + 1 ≤ 40000 := wt
        have hh' : htP r + 1 ≤ n + 1 := hn
        have hln := lns_len r
        refine ⟨_, rfl, a, _, _, _, rfl, rfl, SqT.of (s1 _ _ h), a2, v', r, rfl, tr'.same s1, ok.2, by lia, by lia, by lia, fun g H2 s2 hg eg => ?_⟩
        refine ⟨l1, g, _, _, rfl, rfl, s2 _ _ e1, eg, ?_, fun z hz => ?_⟩
        · show 1 + ((lnsP r).map V.str).length ≤ _
          rw [List.length_map, hln]
          lia
        · have s3 := s1.trans s2
          exact q z _ (s3.trans (Same.new hz)) (s3.free hz) upd_same
      | lk l ws =>
        obtain ⟨a, u, us, e, h, hu, tr'⟩ := tr
        cases e
        have a0 : atI [V.str (Str.ofString "look"), .str l, .ref u] ((0 : Nat) : Int) = some (.str (Str.ofString "look")) := atI_nat rfl
        have a1 : atI [V.str (Str.ofString "look"), .str l, .ref u] ((1 : Nat) : Int) = some (.str l) := atI_nat rfl
        have a2 : atI [V.str (Str.ofString "look"), .str l, .ref u] ((2 : Nat) : Int) = some (.ref u) := atI_nat rfl
        refine ⟨_, rfl, a, _, _, _, rfl, rfl, SqT.of h, a0, rfl, _, rfl, ?_⟩
        refine ite2 (fun z => absurd (V.str.inj (of_decide_eq_true z)) (by decide +kernel)) (fun _ => ?_)
        try unfold tNext
        dsimp only
        refine ⟨_, rfl, a, _, _, _, rfl, rfl, SqT.of h, a0, rfl, _, rfl, ?_⟩
        refine ite2 (fun z => absurd (V.str.inj (of_decide_eq_true z)) (by decide +kernel)) (fun _ => ?_)
        try unfold tNext
        dsimp only
        have l2 := ok.1.l2
        have hw' : wtP ws + 1 ≤ 40000 := wt
        have hh' : htP ws + 1 ≤ n + 1 := hn
        have c6 : tCase.length = 6 := by decide +kernel
        have c2 : tTwo.length = 2 := two_len
        refine ⟨_, rfl, a, _, _, _, rfl, rfl, SqT.of h, a1, _, _, rfl, rfl, by show tLook.length + l.length ≤ _; rw [show tLook.length = 5 by decide +kernel]; lia, by show 1 ≤ sizeLine; lia, fun r hr => ?_⟩
        have s1 : Same H (upd H r (.lst [.str (tLook ++ l)])) := Same.new hr
        have e1 : (upd H r (.lst [.str (tLook ++ l)])) r = some (.lst ([tLook ++ l].map V.str)) := upd_same
        generalize (upd H r (.lst [.str (tLook ++ l)])) = H1 at s1 e1 ⊢
        have wa := ways_at (n := n) (m := 40000) ok.2 (by lia) (by lia) tr'
        have hul := wa.len
        have ew := lns_ways ok.2
        refine ⟨_, rfl, a, _, _, _, rfl, rfl, SqT.of (s1 _ _ h), a2, u, rfl, ⟨_, SqL.of (s1 _ _ hu)⟩, ?_⟩
        refine for_list (K := K) (a := u) (xs := us) (fun i σ H2 => ∃ (v2 v3 v4 : Option V), σ = [some (.ref a), some (.ref r), v2, v3, v4] ∧ Same H H2 ∧ H2 r = some (.lst (((tLook ++ l) :: lnWs ((wyL ws).take i)).map V.str)))
          ⟨none, none, none, rfl, s1, e1⟩ (fun i σ H2 _ hh0 => by obtain ⟨_, _, _, _, s2, _⟩ := hh0; exact SqL.of (s2 _ _ hu)) ?_ ?_
        · rintro i y σ H2 hy ⟨v2, v3, v4, rfl, s2, e2⟩
          obtain ⟨x, hx, t', v', rfl, ht, tr2, lb, ok2, hn3, hw3⟩ := (wa.mono (WtV.same s2)).at hy
          have la := lb.l2
          have hlw := lnWs_le i ok.2
          have hm2 : (((tLook ++ l) :: lnWs ((wyL ws).take i)).map V.str).length ≤ 40000 := by
            rw [List.length_map, List.length_cons]
            lia
          refine ⟨t', _, rfl, SqT.of ht, rfl, _, _, rfl, _, _, rfl, rfl, ?_⟩
          refine ⟨_, rfl, .inl ⟨rfl, _, SqL.of e2⟩, _, rfl, _, _, rfl, rfl, by show tCase.length + x.1.length ≤ _; lia, ?_⟩
          refine ⟨r, _, _, rfl, rfl, e2, by lia, ?_⟩
          rw [← map_snoc]
          generalize hA : (tLook ++ l) :: lnWs ((wyL ws).take i) = A at e2 hm2 ⊢
          have k3 : ∀ c u, H2 c = some u → c ≠ r → (upd H2 r (.lst ((A ++ [tCase ++ x.1]).map V.str))) c = some u := fun c u e hc => by rw [upd_ne hc]; exact e
          have e3 : (upd H2 r (.lst ((A ++ [tCase ++ x.1]).map V.str))) r = some (.lst ((A ++ [tCase ++ x.1]).map V.str)) := upd_same
          have s3 : Same H (upd H2 r (.lst ((A ++ [tCase ++ x.1]).map V.str))) := fun c u e => k3 c u (s2 _ _ e) (ne_of_none e hr)
          generalize (upd H2 r (.lst ((A ++ [tCase ++ x.1]).map V.str))) = H3 at k3 e3 s3 ⊢
          obtain ⟨x', hx', t'', v'', ez, ht3, tr3, _⟩ := (wa.mono (WtV.same s3)).at hy
          have ex : x' = x := Option.some.inj (hx'.symm.trans hx)
          subst ex
          cases ez
          have ev : v'' = v' := by
            have h9 := k3 _ _ ht (ne_of ht e2 (by intro z; cases z))
            rw [ht3] at h9
            injection h9 with h9
            injection h9 with h9
            injection h9 with _ h9
            injection h9 with h9 _
          subst ev
          refine ⟨_, rfl, v'', x'.2, rfl, tr3, ok2, hn3, by lia, hw3, fun g H4 s4 hg eg => ?_⟩
          have gr : g ≠ r := (ne_of_none e3 hg).symm
          have hln := lns_len x'.2
          refine ⟨g, rfl, ⟨_, SqL.of eg⟩, ?_⟩
          refine for_list (K := K) (a := g) (xs := (lnsP x'.2).map V.str) (fun j σ H5 => ∃ (v4 : Option V), σ = [some (.ref a), some (.ref r), some (.str x'.1), some v'', v4] ∧ (∀ c u, H4 c = some u → c ≠ r → H5 c = some u) ∧ H5 r = some (.lst ((A ++ [tCase ++ x'.1] ++ ((lnsP x'.2).take j).map (tTwo ++ ·)).map V.str)))
            ⟨v4, rfl, fun c u e _ => e, by rw [List.take_zero, List.map_nil, List.append_nil]; exact s4 _ _ e3⟩ (fun j σ H5 _ hh0 => by obtain ⟨_, _, k5, _⟩ := hh0; exact SqL.of (k5 _ _ eg gr)) ?_ ?_
          · rintro j y σ H5 hy ⟨v4, rfl, k5, e5⟩
            rw [List.getElem?_map] at hy
            obtain ⟨z, hz, rfl⟩ := Option.map_eq_some_iff.mp hy
            obtain ⟨hj, ez⟩ := List.getElem?_eq_some_iff.mp hz
            have hzl : z.length ≤ 42 + 2 * htP x'.2 := lns_short _ true ok2 z (List.mem_of_getElem? hz)
            have hAl : A.length ≤ 40000 := by rw [List.length_map] at hm2; exact hm2
            refine ⟨_, rfl, .inl ⟨rfl, _, SqL.of e5⟩, _, rfl, _, _, rfl, rfl, by show tTwo.length + z.length ≤ _; lia, ?_⟩
            refine ⟨r, _, _, rfl, rfl, e5, ?_, ?_⟩
            · rw [List.length_map, List.length_append, List.length_append, List.length_map, List.length_take]
              show A.length + 1 + _ < _
              lia
            · rw [← map_snoc]
              refine ⟨_, rfl, fun c u e hc => by rw [upd_ne hc]; exact k5 c u e hc, ?_⟩
              rw [upd_same, List.take_succ_eq_append_getElem hj, ez]
              refine congrArg (fun q => some (HO.lst (List.map V.str q))) ?_
              rw [List.map_append, ← List.append_assoc]
              rfl
          · rintro σ H5 ⟨v4, rfl, k5, e5⟩
            rw [List.length_map, List.take_length] at e5
            refine ⟨_, _, _, rfl, fun c u e => k5 c u (s4 _ _ (s3 _ _ e)) (ne_of_none e hr), ?_⟩
            obtain ⟨hi, ei⟩ := List.getElem?_eq_some_iff.mp hx
            rw [e5, List.take_succ_eq_append_getElem hi, ei, lnWs_snoc, ← hA, List.append_assoc]
            rfl
        · rintro σ H2 ⟨v2, v3, v4, rfl, s2, e2⟩
          refine ⟨_, rfl, q r H2 s2 hr ?_⟩
          rw [hul, List.take_length, ← ew] at e2
          exact e2
structure Nm (H : Hp) (t : Addr) (D L A : List Str) : Prop where
  got : ∃ d l e : Addr, H t = some (.tup [.ref d, .ref l, .ref e]) ∧ H d = some (.lst (D.map V.str)) ∧ H l = some (.lst (L.map V.str)) ∧ H e = some (.lst (A.map V.str))
  d3 : D.length = 3
  l2 : L.length = 2
  a3 : A.length = 3
  db : ∀ x ∈ D, Lb x
  lb : ∀ x ∈ L, Lb x
  ab : ∀ x ∈ A, Lb x
  nd : A.Nodup
theorem Nm.same {H H' : Hp} {t : Addr} {D L A : List Str} (h : Nm H t D L A) (s : Same H H') : Nm H' t D L A := by
  obtain ⟨⟨d, l, e, h1, h2, h3, h4⟩, a1, a2, a3, a4, a5, a6, a7⟩ := h
  exact ⟨⟨d, l, e, s _ _ h1, s _ _ h2, s _ _ h3, s _ _ h4⟩, a1, a2, a3, a4, a5, a6, a7⟩
noncomputable def fw (H H' : Hp) : Hp := fun c => match H c with
  | none => H' c
  | some _ => none
theorem fw_at {H H' : Hp} {c : Addr} (h : H c = none) : fw H H' c = H' c := by
  unfold fw
  rw [h]
theorem fw_some {H H' : Hp} {c : Addr} {u : HO} (e : fw H H' c = some u) : H c = none ∧ H' c = some u := by
  unfold fw at e
  cases h : H c with
  | none =>
    rw [h] at e
    exact ⟨rfl, e⟩
  | some _ =>
    rw [h] at e
    cases e
theorem fw_le {H H' : Hp} : Same (fw H H') H' := fun _ _ e => (fw_some e).2
theorem fw_mono {H H' J J' : Hp} (h1 : ∀ c, H c = none → J c = none) (h2 : ∀ c u, H c = none → H' c = some u → J' c = some u) : Same (fw H H') (fw J J') := fun c u e => by
  obtain ⟨h, e'⟩ := fw_some e
  rw [fw_at (h1 c h)]
  exact h2 c u h e'
theorem TrAt.put {H : Hp} {t : Addr} {a : Str} {v : V} {p : Pn} (h1 : H t = some (.tup [.str a, v])) (h2 : TrAt H p [v]) : ∀ {pre : List (Str × Pn)} {us : List V}, TrAt H (ofL pre .nil) us → TrAt H (ofL (pre ++ [(a, p)]) .nil) (us ++ [.ref t])
  | [], us, e => by
    rw [show us = [] from e]
    exact ⟨t, v, [], rfl, h1, h2, rfl⟩
  | x :: r, us, ⟨t', v', us', e, z1, z2, z3⟩ => by
    rw [e]
    exact ⟨t', v', us' ++ [.ref t], rfl, z1, z2, TrAt.put h1 h2 z3⟩
theorem ofL_ok : ∀ {pre : List (Str × Pn)}, (∀ x ∈ pre, Lb x.1 ∧ okP true x.2) → okP false (ofL pre .nil)
  | [], _ => trivial
  | x :: r, h => ⟨(h x List.mem_cons_self).1, (h x List.mem_cons_self).2, ofL_ok fun y hy => h y (List.mem_cons_of_mem _ hy)⟩
theorem ofL_an : ∀ pre : List (Str × Pn), anP (ofL pre .nil) = pre.map (·.1)
  | [] => rfl
  | x :: r => congrArg (x.1 :: ·) (ofL_an r)
theorem ofL_ht {n : Nat} : ∀ {pre : List (Str × Pn)}, (∀ x ∈ pre, htP x.2 ≤ n) → htP (ofL pre .nil) ≤ n
  | [], _ => Nat.zero_le _
  | x :: r, h => Nat.max_le.mpr ⟨h x List.mem_cons_self, ofL_ht fun y hy => h y (List.mem_cons_of_mem _ hy)⟩
theorem ofL_wt {m : Nat} : ∀ {pre : List (Str × Pn)}, (∀ x ∈ pre, wtP x.2 ≤ m) → wtP (ofL pre .nil) ≤ pre.length * (m + 1)
  | [], _ => Nat.zero_le _
  | x :: r, h => by
    have h1 := h x List.mem_cons_self
    have h2 := ofL_wt (pre := r) fun y hy => h y (List.mem_cons_of_mem _ hy)
    show wtP x.2 + wtP (ofL r .nil) + 1 ≤ (r.length + 1) * (m + 1)
    rw [Nat.add_mul]
    lia
theorem getD_ne {A : List Str} (h3 : A.length = 3) (nd : A.Nodup) {p q : Nat} (hp : p < 3) (hq : q < 3) (n : p ≠ q) : A.getD p Str.empty ≠ A.getD q Str.empty := by
  intro e
  rw [List.getD_eq_getElem?_getD, List.getD_eq_getElem?_getD, List.getElem?_eq_getElem (show p < A.length by lia), List.getElem?_eq_getElem (show q < A.length by lia)] at e
  have h := List.pairwise_iff_getElem.mp nd
  rcases Nat.lt_or_gt_of_ne n with l | l
  · exact h p q (by lia) (by lia) l e
  · exact h q p (by lia) (by lia) l e.symm
noncomputable def tuA (A : List Str) (tn m : Nat) : Str := A.getD ((tn + m) % 3) Str.empty
theorem tu_nodup {A : List Str} (h3 : A.length = 3) (nd : A.Nodup) (tn : Nat) {i : Nat} (hi : i ≤ 3) : ((List.range i).map (tuA A tn)).Nodup := by
  refine List.pairwise_map.mpr (List.pairwise_lt_range.imp_of_mem fun {a b} ha hb h => ?_)
  have ha' := List.mem_range.mp ha
  have hb' := List.mem_range.mp hb
  exact getD_ne h3 nd (by lia) (by lia) (by lia)
theorem getD_at {A : List Str} {i : Nat} (h : i < A.length) : atI (A.map V.str) (i : Int) = some (.str (A.getD i Str.empty)) ∧ A.getD i Str.empty ∈ A := by
  have e : A.getD i Str.empty = A[i] := by rw [List.getD_eq_getElem?_getD, List.getElem?_eq_getElem h]; rfl
  rw [e]
  exact ⟨atI_nat (by rw [List.getElem?_map, List.getElem?_eq_getElem h]; rfl), List.getElem_mem h⟩
noncomputable def cK (k : Nat) : Nat := if k < 1 then 54 else if k < 4 then 18 else if k < 13 then 6 else 2
noncomputable def cD (k : Nat) : Nat := if k < 1 then 18 else if k < 4 then 6 else 2
theorem ck_dn {k i d w : Nat} (hi : i ≤ 2) (h : w ≤ cK (3 * k + 1 + i) * d + 1) : w ≤ cD k * d + 1 := by
  have h1 : cK (3 * k + 1 + i) ≤ cD k := by
    unfold cK cD
    repeat' split
    all_goals lia
  have := Nat.mul_le_mul_right d h1
  lia
theorem ck_do {k d w : Nat} (h : w ≤ cD k * d + 1) : w + 1 ≤ cK k * (d + 1) + 1 := by
  have h1 : cD k ≤ cK k ∧ 1 ≤ cK k := by
    unfold cK cD
    split <;> (try split) <;> (try split) <;> lia
  have h2 := Nat.mul_le_mul_right d h1.1
  rw [Nat.mul_add]
  lia
theorem ck_lk {k d m : Nat} (h3 : m ≤ 3) (h13 : 13 ≤ k → m = 1) : m * (cD k * d + 1 + 1) + 1 ≤ cK k * (d + 1) + 1 := by
  have h1 : m * (cD k * d + 1 + 1) ≤ (if k < 13 then 3 else 1) * (cD k * d + 1 + 1) := Nat.mul_le_mul_right _ (by split <;> lia)
  revert h1
  unfold cK cD
  split <;> (try split) <;> (try split) <;> (try split) <;> intro h1 <;> lia
theorem ck_8 {d w : Nat} (hd : d ≤ 8) (h : w ≤ cK 0 * d + 1) : w ≤ 500 := by
  have : cK 0 = 54 := rfl
  rw [this] at h
  lia
theorem tree_k {k d i : Nat} (hi : i ≤ 2) (h : (k + 2) * 3 ^ (d + 1) ≤ 13122) : (3 * k + 1 + i + 2) * 3 ^ d ≤ 13122 := by
  have h1 : (3 * k + 1 + i + 2) * 3 ^ d ≤ (3 * (k + 2)) * 3 ^ d := Nat.mul_le_mul_right _ (by lia)
  have h2 : (k + 2) * 3 ^ (d + 1) = (3 * (k + 2)) * 3 ^ d := by rw [Nat.pow_succ, Nat.mul_comm 3 (k + 2), Nat.mul_assoc, Nat.mul_comm 3]
  lia
theorem tree_k0 {k d : Nat} (h : (k + 2) * 3 ^ d ≤ 13122) : k < 13122 := by
  have h1 : (k + 2) * 1 ≤ (k + 2) * 3 ^ d := Nat.mul_le_mul_left _ (Nat.pow_pos (by decide))
  lia
inductive spNames (K : PySem.W.Frag) (vs : List V) (H : Hp) (Q : VK) (E0_ : XK) : Prop
  | mk (a : Addr) (ns : List Int) (c0 : vs = [.ref a]) (c1 : SqL K H a (ns.map V.int)) (c2 : ns.length ≤ 63) (c3 : ∀ (t : Addr) (D L A : List Str) (H' : Hp), Same H H' → Nm H' t D L A → Q (.ref t) H') : spNames K vs H Q E0_
inductive spTree (K : PySem.W.Frag) (n : Nat) (vs : List V) (H : Hp) (Q : VK) (E0_ : XK) : Prop
  | mk (a : Addr) (ns : List Int) (k d : Nat) (t : Addr) (D L A : List Str) (c0 : vs = [.ref a, .int (k : Int), .int (d : Int), .ref t]) (c1 : SqL K H a (ns.map V.int)) (c2 : ns.length ≤ 63) (c3 : (k + 2) * 3 ^ d ≤ 13122) (c4 : d < n) (c5 : Nm H t D L A) (c6 : ∀ (v : V) (p : Pn) (H' : Hp), Same H H' → TrAt (fw H H') p [v] → okP true p → htP p ≤ d + 1 → wtP p ≤ cK k * d + 1 → Q v H') : spTree K n vs H Q E0_
inductive spRow (K : PySem.W.Frag) (vs : List V) (H : Hp) (Q : VK) (E0_ : XK) : Prop
  | mk (a : Addr) (ns : List Int) (c : Int) (t : Addr) (D L A : List Str) (c0 : vs = [.ref a, .int c, .ref t]) (c1 : SqL K H a (ns.map V.int)) (c2 : ns.length ≤ 63) (c3 : 0 ≤ c) (c4 : c ≤ 40) (c5 : Nm H t D L A) (c6 : ∀ (v : V) (p : Pn) (H' : Hp), Same H H' → TrAt H' p [v] → okP true p → htP p ≤ 41 → wtP p ≤ 500 → Q v H') : spRow K vs H Q E0_
inductive spDrawn (K : PySem.W.Frag) (vs : List V) (H : Hp) (Q : VK) (E0_ : XK) : Prop
  | mk (a : Addr) (ns : List Int) (t : Addr) (D L A : List Str) (c0 : vs = [.ref a, .ref t]) (c1 : SqL K H a (ns.map V.int)) (c2 : ns.length ≤ 63) (c3 : Nm H t D L A) (c4 : ∀ (v : V) (p : Pn) (H' : Hp), Same H H' → TrAt H' p [v] → okP true p → htP p ≤ 41 → wtP p ≤ 500 → Q v H') : spDrawn K vs H Q E0_
noncomputable abbrev pNames : List Str := ["_law_script"]
noncomputable abbrev nNames : List Str := ["_law_script"]
theorem scNames : FnScope nNames pNames (defScope sNames) := ⟨rfl, rfl, rfl, by decide +kernel, rfl, by decide +kernel, by decide +kernel⟩
noncomputable abbrev pLDeep : List Str := ["_law_script", "_law_k", "_law_prime", "_law_many"]
noncomputable abbrev nLDeep : List Str := ["_law_script", "_law_k", "_law_prime", "_law_many", "_law_mixed"]
theorem scLDeep : FnScope nLDeep pLDeep (defScope sLDeep) := ⟨rfl, rfl, rfl, by decide +kernel, rfl, by decide +kernel, by decide +kernel⟩
noncomputable abbrev pLTree : List Str := ["_law_script", "_law_k", "_law_deep_here", "_law_words_here"]
noncomputable abbrev nLTree : List Str := ["_law_script", "_law_k", "_law_deep_here", "_law_words_here", "_law_way", "_law_many", "_law_turn", "_law_ways", "_law_m", "_law_rest"]
theorem scLTree : FnScope nLTree pLTree (defScope sLTree) := ⟨rfl, rfl, rfl, by decide +kernel, rfl, by decide +kernel, by decide +kernel⟩
noncomputable abbrev pLRowOfDos : List Str := ["_law_script", "_law_count", "_law_words_here"]
noncomputable abbrev nLRowOfDos : List Str := ["_law_script", "_law_count", "_law_words_here", "_law_tree_here", "_law_k"]
theorem scLRowOfDos : FnScope nLRowOfDos pLRowOfDos (defScope sLRowOfDos) := ⟨rfl, rfl, rfl, by decide +kernel, rfl, by decide +kernel, by decide +kernel⟩
noncomputable abbrev pLDrawnTree : List Str := ["_law_script", "_law_words_here"]
noncomputable abbrev nLDrawnTree : List Str := ["_law_script", "_law_words_here"]
theorem scLDrawnTree : FnScope nLDrawnTree pLDrawnTree (defScope sLDrawnTree) := ⟨rfl, rfl, rfl, by decide +kernel, rfl, by decide +kernel, by decide +kernel⟩
theorem ok_names {f f1 : Addr} {fd d1 : FuncData} (F : Fun K "_law_names" "_law_names" sNames f fd) (D_l_words : Df K mg "_law_words" sLWords pLWords f1 d1) (G_l_words : FnOk P w K mg base CX0 3 f1 d1 pLWords (spWords K)) : FnOk P w K mg base CX0 4 f fd pNames (spNames K) := by
  refine F.ok scNames (fun vs H Q E h => ?_) (fun cdv A outer s H vs Q E hr3 h => ?_)
  · obtain ⟨a, ns, rfl, _⟩ := h
    rfl
  · obtain ⟨a, ns, rfl, hS, hn, q⟩ := h
    have hsl : sizeLine = 16777216 := sizeLine_eq
    refine ⟨_, (pss_one (ps_ret (pe_tup (pa_cons (pe_call G_l_words hr3 (by rfl) D_l_words.m D_l_words.F.kp D_l_words.b .nil pass0 (pa_cons (pv 0) (pa_cons pe_int (pa_cons pe_str pa_nil)))) (pa_cons (pe_call G_l_words hr3 (by rfl) D_l_words.m D_l_words.F.kp D_l_words.b .nil pass0 (pa_cons (pv 0) (pa_cons pe_int (pa_cons pe_str pa_nil)))) (pa_cons (pe_call G_l_words hr3 (by rfl) D_l_words.m D_l_words.F.kp D_l_words.b .nil pass0 (pa_cons (pv 0) (pa_cons pe_int (pa_cons pe_str pa_nil)))) pa_nil)))))), ?_⟩
    refine ⟨_, rfl, a, ns, _, _, rfl, hS, hn, by decide, by decide, by decide +kernel, by decide +kernel, fun l1 H1 s1 f1 e1 => ?_⟩
    refine ⟨_, rfl, a, ns, _, _, rfl, s1.seq hS, hn, by decide, by decide, by decide +kernel, by decide +kernel, fun l2 H2 s2 f2 e2 => ?_⟩
    have s02 := s1.trans s2
    refine ⟨_, rfl, a, ns, _, _, rfl, s02.seq hS, hn, by decide, by decide, by decide +kernel, by decide +kernel, fun l3 H3 s3 f3 e3 => ?_⟩
    have s03 := s02.trans s3
    refine ⟨by show 3 ≤ sizeLine; lia, fun t ht => ?_⟩
    have s4 := Same.new (o := .tup [V.ref l1, .ref l2, .ref l3]) ht
    have c1 : ∀ c ∈ cs (Str.ofString "abc"), c < 128 := by decide +kernel
    have c2 : ∀ c ∈ cs (Str.ofString "de"), c < 128 := by decide +kernel
    have c3 : ∀ c ∈ cs (Str.ofString "pqr"), c < 128 := by decide +kernel
    have n1 : (cs (Str.ofString "abc")).length = 3 := by decide +kernel
    have n2 : (cs (Str.ofString "de")).length = 2 := by decide +kernel
    have n3 : (cs (Str.ofString "pqr")).length = 3 := by decide +kernel
    have nd : (cs (Str.ofString "pqr")).Nodup := by decide +kernel
    have lb : ∀ (l : List Nat) (k : Int), (∀ c ∈ l, c < 128) → ∀ x ∈ l.map (wdS ns k), Lb x := fun l k hl x hx => by
      obtain ⟨c, hc, rfl⟩ := List.mem_map.mp hx
      exact wdS_lb ns k (hl c hc)
    exact q t _ _ _ _ (s03.trans s4) ⟨⟨l1, l2, l3, upd_same, s4 _ _ (s3 _ _ (s2 _ _ e1)), s4 _ _ (s3 _ _ e2), s4 _ _ e3⟩, by rw [List.length_map, n1], by rw [List.length_map, n2], by rw [List.length_map, n3], lb _ _ c1, lb _ _ c2, lb _ _ c3, wdS_nodup nd⟩
theorem ok_deep {f f1 : Addr} {fd d1 : FuncData} (F : Fun K "_law_deep" "_law_deep" sLDeep f fd) (D_l_cell : Df K mg "_law_cell" sLCell pLCell f1 d1) (G_l_cell : FnOk P w K mg base CX0 1 f1 d1 pLCell (spCell K)) : FnOk P w K mg base CX0 2 f fd pLDeep (spDraw K) := by
  refine F.ok scLDeep (fun vs H Q E h => ?_) (fun cdv A outer s H vs Q E hr1 h => ?_)
  · obtain ⟨a, ns, k, p, m, rfl, _⟩ := h
    rfl
  · obtain ⟨a, ns, k, p, m, rfl, hS, hn, k0, k1, p0, m0, q⟩ := h
    refine ⟨_, (pss_cons (ps_set (i := 4) scLDeep.nd rfl (Or.inl rfl) (pe_op op_mod (pe_op op_add (pe_op op_add (pe_op op_mul (pe_call G_l_cell hr1 (by rfl) D_l_cell.m D_l_cell.F.kp D_l_cell.b .nil pass0 (pa_cons (pv 0) (pa_cons (pe_op op_mod (pe_op op_add (pe_op op_mul pe_int (pv 1)) pe_int) pe_int) pa_nil))) pe_int) (pe_op op_mul (pe_op op_mul pe_int (pv 1)) (pv 1))) pe_int) (pv 2)))
      (pss_one (ps_ret (pe_op op_mod (pe_op op_mod (pe_op op_mul (pv 4) pe_int) pe_int) (pv 3))))), ?_⟩
    refine ⟨_, rfl, _, rfl, _, _, rfl, rfl, .inl ⟨by decide, by decide⟩, _, _, rfl, rfl, _, _, rfl, rfl, (by show (0 : Int) < _; decide), a, ns, _, rfl, hS, hn, Int.emod_nonneg _ (by decide), ?_⟩
    refine ⟨_, _, rfl, rfl, .inr ⟨by decide, by decide⟩, _, rfl, _, _, rfl, rfl, .inl ⟨by decide, by decide⟩, _, rfl, _, _, rfl, rfl, .inl ⟨by lia, by lia⟩, _, _, rfl, rfl, _, _, rfl, rfl, _, rfl, _, _, rfl, rfl, p0, ?_⟩
    exact ⟨_, rfl, _, _, rfl, rfl, .inr ⟨by decide, by decide⟩, _, _, rfl, rfl, (by show (0 : Int) < _; decide), _, rfl, _, _, rfl, rfl, m0, q _ (Int.emod_nonneg _ (by lia)) (Int.emod_lt_of_pos _ m0)⟩
theorem ok_tree {f f1 : Addr} {fd d1 : FuncData} (F : Fun K "_law_tree" "_law_tree" sLTree f fd) (T : Bl mg) (D_l_tree : Df K mg "_law_tree" sLTree pLTree f fd) (D_l_deep : Df K mg "_law_deep" sLDeep pLDeep f1 d1) (G_l_deep : FnOk P w K mg base CX0 2 f1 d1 pLDeep (spDraw K)) : ∀ n : Nat, FnOk P w K mg base CX0 (3 + n) f fd pLTree (spTree K n)
  | 0 => fn_none fun vs H Q E h => by
    obtain ⟨_, _, _, d, _, _, _, _, _, _, _, _, h0, _⟩ := h
    exact absurd h0 (Nat.not_lt_zero _)
  | n + 1 => by
    have G_l_tree := ok_tree F T D_l_tree D_l_deep G_l_deep n
    refine F.ok (k := 3 + n) scLTree (fun vs H Q E h => ?_) (fun cdv A outer s H vs Q E hrN h => ?_)
    · obtain ⟨a, ns, k, d, t, D, L, A, rfl, _⟩ := h
      rfl
    · obtain ⟨a, ns, k, d, t, D, L, A', rfl, hS, hn, hk, hd, nm, q⟩ := h
      have hr2 : Room 2 _ := hrN.mono (by lia)
      have hsl : sizeLine = 16777216 := sizeLine_eq
      have hk0 := tree_k0 hk
      refine ⟨_, (pss_cons (ps_set (i := 4) scLTree.nd rfl (Or.inl rfl) (pe_call G_l_deep hr2 (by rfl) D_l_deep.m D_l_deep.F.kp D_l_deep.b .nil pass0 (pa_cons (pv 0) (pa_cons (pv 1) (pa_cons pe_int (pa_cons pe_int pa_nil))))))
      (pss_cons (ps_if (PW.pt (pw_or (pt_cmpR op_eq (pv 2) pe_int (nomark _)) (pw_or1 (pt_cmpR op_eq (pv 4) pe_int (nomark _))))) (pss_one (ps_ret (pe_tup (pa_cons pe_str pa_nil)))) pss_nil)
      (pss_cons (ps_if (pt_cmpR op_lt (pv 4) pe_int (nomark _)) (pss_one (ps_ret (pe_tup (pa_cons pe_str (pa_cons (pe_ix ix_list (pe_ix ix_tup (pv 3) pe_int (fun _ _ => rfl)) (pe_call G_l_deep hr2 (by rfl) D_l_deep.m D_l_deep.F.kp D_l_deep.b .nil pass0 (pa_cons (pv 0) (pa_cons (pv 1) (pa_cons pe_int (pa_cons pe_int pa_nil))))) (fun _ _ => rfl)) (pa_cons (pe_call G_l_tree hrN (by rfl) D_l_tree.m D_l_tree.F.kp D_l_tree.b .nil pass0 (pa_cons (pv 0) (pa_cons (pe_op op_add (pe_op op_mul pe_int (pv 1)) pe_int) (pa_cons (pe_op op_sub (pv 2) pe_int) (pa_cons (pv 3) pa_nil))))) pa_nil)))))) pss_nil)
      (pss_cons (ps_set (i := 5) scLTree.nd rfl (Or.inl rfl) pe_int)
      (pss_cons (ps_if (pt_cmpR op_lt (pv 1) pe_int (nomark _)) (pss_one (ps_set (i := 5) scLTree.nd rfl (Or.inl rfl) (pe_op op_add pe_int (pe_call G_l_deep hr2 (by rfl) D_l_deep.m D_l_deep.F.kp D_l_deep.b .nil pass0 (pa_cons (pv 0) (pa_cons (pv 1) (pa_cons pe_int (pa_cons pe_int pa_nil)))))))) pss_nil)
      (pss_cons (ps_set (i := 6) scLTree.nd rfl (Or.inl rfl) (pe_call G_l_deep hr2 (by rfl) D_l_deep.m D_l_deep.F.kp D_l_deep.b .nil pass0 (pa_cons (pv 0) (pa_cons (pv 1) (pa_cons pe_int (pa_cons pe_int pa_nil))))))
      (pss_cons (ps_set (i := 7) scLTree.nd rfl (Or.inl rfl) (pe_lst pa_nil))
      (pss_cons (ps_for PassesOwn.never rfl (pi_range1 (by rfl) T.range (pa_cons (pv 5) pa_nil)) (pg_name (i := 8) scLTree.nd rfl (Or.inl rfl))
        (pss_cons (ps_set (i := 9) scLTree.nd rfl (Or.inl rfl) (pe_call G_l_tree hrN (by rfl) D_l_tree.m D_l_tree.F.kp D_l_tree.b .nil pass0 (pa_cons (pv 0) (pa_cons (pe_op op_add (pe_op op_add (pe_op op_mul pe_int (pv 1)) pe_int) (pv 8)) (pa_cons (pe_op op_sub (pv 2) pe_int) (pa_cons (pv 3) pa_nil))))))
      (pss_one (ps_expr (pe_bm PySem.F.plainAttrs_list PySem.F.slot_list_append PySem.F.type_list_append mt_append (pv 7) (pa_cons (pe_tup (pa_cons (pe_ix ix_list (pe_ix ix_tup (pv 3) pe_int (fun _ _ => rfl)) (pe_op op_mod (pe_op op_add (pv 6) (pv 8)) pe_int) (fun _ _ => rfl)) (pa_cons (pv 9) pa_nil))) pa_nil))))))
      (pss_one (ps_ret (pe_tup (pa_cons pe_str (pa_cons (pe_ix ix_list (pe_ix ix_tup (pv 3) pe_int (fun _ _ => rfl)) (pe_call G_l_deep hr2 (by rfl) D_l_deep.m D_l_deep.F.kp D_l_deep.b .nil pass0 (pa_cons (pv 0) (pa_cons (pv 1) (pa_cons pe_int (pa_cons pe_int pa_nil))))) (fun _ _ => rfl)) (pa_cons (pv 7) pa_nil)))))))))))))), ?_⟩
      have stopQ : ∀ x : Addr, H x = none → Q (.ref x) (upd H x (.tup [.str tStop])) := fun x hx => q (.ref x) .stop _ (Same.new hx) ⟨x, rfl, by rw [fw_at hx]; exact upd_same⟩ trivial (Nat.le_add_left ..) (Nat.le_add_left ..)
      refine ⟨_, rfl, _, rfl, a, ns, _, _, _, rfl, hS, hn, by lia, by lia, by decide, by decide, fun wy w0 w5 => ?_⟩
      refine ⟨_, rfl, rfl, _, rfl, ?_⟩
      refine ite2 (fun _ => ?_) (fun hd0 => ?_)
      · refine iteT ?_
        exact ⟨by show 1 ≤ sizeLine; lia, stopQ⟩
      refine ⟨_, rfl, rfl, _, rfl, ?_⟩
      refine ite2 (fun _ => ?_) (fun _ => ?_)
      · exact ⟨by show 1 ≤ sizeLine; lia, stopQ⟩
      try unfold tNext
      dsimp only
      obtain ⟨d', rfl⟩ : ∃ d', d = d' + 1 := by
        cases d with
        | zero => exact absurd (decide_eq_true rfl) hd0
        | succ d' => exact ⟨d', rfl⟩
      have ed : (((d' + 1 : Nat) : Int) - 1) = (d' : Int) := by lia
      obtain ⟨dl, ll, al, ht, hdl, hll, hal⟩ := nm.got
      have t0 : atI [V.ref dl, .ref ll, .ref al] ((0 : Nat) : Int) = some (.ref dl) := atI_nat rfl
      have t1 : atI [V.ref dl, .ref ll, .ref al] ((1 : Nat) : Int) = some (.ref ll) := atI_nat rfl
      have t2 : atI [V.ref dl, .ref ll, .ref al] ((2 : Nat) : Int) = some (.ref al) := atI_nat rfl
      refine ⟨_, rfl, _, _, rfl, rfl, _, rfl, ?_⟩
      refine ite2 (fun _ => ?_) (fun _ => ?_)
      · refine ⟨_, rfl, t, _, _, _, rfl, rfl, SqT.of ht, t0, _, rfl, _, rfl, a, ns, _, _, _, rfl, hS, hn, by lia, by lia, by decide, by decide, fun r r0 r3 => ?_⟩
        obtain ⟨i, rfl⟩ : ∃ i : Nat, (i : Int) = r := ⟨r.toNat, Int.toNat_of_nonneg r0⟩
        obtain ⟨g1, g2⟩ := getD_at (A := D) (i := i) (by have := nm.d3; lia)
        refine ⟨dl, _, _, _, rfl, rfl, SqL.of hdl, g1, ?_⟩
        refine ⟨_, rfl, _, rfl, _, _, rfl, rfl, .inl ⟨by decide, by decide⟩, _, _, rfl, rfl, _, rfl, _, _, rfl, rfl, _, rfl, ?_⟩
        refine ⟨a, ns, 3 * k + 1 + 0, d', t, D, L, A', ?_, hS, hn, tree_k (by decide) hk, by lia, nm, fun v p H1 s1 tr ok hh hw => ?_⟩
        · rw [ed, show (3 : Int) * (k : Int) + 1 = ((3 * k + 1 + 0 : Nat) : Int) by lia]
          rfl
        refine ⟨by show 3 ≤ sizeLine; lia, fun x hx => ?_⟩
        refine q (.ref x) (.dd (D.getD i Str.empty) p) _ (s1.trans (Same.new hx)) ⟨x, v, rfl, ?_, tr.same (fw_mono (fun _ z => z) fun c u _ e => Same.new hx _ _ e)⟩ ⟨nm.db _ g2, ok⟩ (Nat.succ_le_succ hh) (ck_do (ck_dn (by decide) hw))
        rw [fw_at (s1.free hx)]
        exact upd_same
      try unfold tNext
      dsimp only
      refine seq_genG (fun σ' H' => σ' = [some (.ref a), some (.int (k : Int)), some (.int ((d' + 1 : Nat) : Int)), some (.ref t), some (.int wy), some (.int 1), none, none, none, none] ∧ H = H') ?_ (fun N hN => hN _ _ ⟨rfl, rfl⟩)
      · rintro σ' H' ⟨rfl, rfl⟩
        refine seq_gen (fun σ' H' => ∃ mm : Nat, σ' = [some (.ref a), some (.int (k : Int)), some (.int ((d' + 1 : Nat) : Int)), some (.ref t), some (.int wy), some (.int (mm : Int)), none, none, none, none] ∧ H' = H ∧ 1 ≤ mm ∧ mm ≤ 3 ∧ (13 ≤ k → mm = 1)) ?_ (fun N hN => ?_)
        · rintro σ' H' ⟨mm, rfl, rfl, m1, m3, m13⟩
          refine ⟨_, rfl, _, rfl, a, ns, _, _, _, rfl, hS, hn, by lia, by lia, by decide, by decide, fun tn0 n0 n3 => ?_⟩
          obtain ⟨tn, rfl⟩ : ∃ i : Nat, (i : Int) = tn0 := ⟨tn0.toNat, Int.toNat_of_nonneg n0⟩
          refine ⟨by show 0 ≤ sizeLine; lia, fun r hr => ?_⟩
          have s1 : Same H' (upd H' r (.lst [])) := Same.new hr
          have e1 : (upd H' r (.lst [])) r = some (.lst []) := upd_same
          have n1 : ∀ c, (upd H' r (.lst [])) c = none → H' c = none ∧ c ≠ r := fun c z => ⟨s1.free z, fun e => by rw [e, e1] at z; cases z⟩
          generalize (upd H' r (.lst [])) = H1 at s1 e1 n1 ⊢
          refine ⟨_, rfl, _, rfl, by lia, by lia, for_range (n := mm) (fun i σ H2 => ∃ (v8 v9 : Option V) (us : List V) (pre : List (Str × Pn)), σ = [some (.ref a), some (.int (k : Int)), some (.int ((d' + 1 : Nat) : Int)), some (.ref t), some (.int wy), some (.int (mm : Int)), some (.int (tn : Int)), some (.ref r), v8, v9] ∧
            Same H' H2 ∧ H2 r = some (.lst us) ∧ (∀ c u, H1 c = some u → c ≠ r → H2 c = some u) ∧ TrAt (fw H1 H2) (ofL pre .nil) us ∧ us.length = i ∧ pre.map (·.1) = (List.range i).map (tuA A' tn) ∧ (∀ x ∈ pre, Lb x.1 ∧ okP true x.2) ∧ (∀ x ∈ pre, htP x.2 ≤ d' + 1) ∧ (∀ x ∈ pre, wtP x.2 ≤ cD k * d' + 1))
            ⟨none, none, [], [], rfl, s1, e1, (fun _ _ e _ => e), rfl, rfl, rfl, (fun _ h => nomatch h), (fun _ h => nomatch h), (fun _ h => nomatch h)⟩ ?_ ?_⟩
          · rintro i σ H2 hi ⟨v8, v9, us, pre, rfl, s2, e2, k2, tr2, ul, pn, po, ph, pw⟩
            have hS2 := s2.seq hS
            have hi' : i < mm := hi
            refine ⟨_, rfl, _, rfl, _, _, rfl, rfl, .inl ⟨by decide, by decide⟩, _, _, rfl, rfl, _, rfl, _, _, rfl, rfl, _, rfl, _, _, rfl, rfl, _, rfl, ?_⟩
            refine ⟨a, ns, 3 * k + 1 + i, d', t, D, L, A', ?_, hS2, hn, tree_k (by lia) hk, by lia, nm.same s2, fun v p H3 s3 tr ok hh hw => ?_⟩
            · rw [ed, show (3 : Int) * (k : Int) + 1 + (0 + (i : Int)) = ((3 * k + 1 + i : Nat) : Int) by lia]
              rfl
            have e3 := s3 _ _ e2
            have s03 := s2.trans s3
            obtain ⟨g1, g2⟩ := getD_at (A := A') (i := (tn + i) % 3) (by have := nm.a3; lia)
            have g1' : atI (A'.map V.str) (((tn : Int) + (0 + (i : Int))) % 3) = some (.str (tuA A' tn i)) := by
              rw [show ((tn : Int) + (0 + (i : Int))) % 3 = (((tn + i) % 3 : Nat) : Int) by lia]
              exact g1
            refine ⟨_, rfl, .inl ⟨rfl, _, SqL.of e3⟩, _, rfl, t, _, _, _, rfl, rfl, SqT.of (s03 _ _ ht), t2, _, rfl, _, rfl, _, _, rfl, rfl, _, _, rfl, rfl, (by show (0 : Int) < _; decide), al, _, _, _, rfl, rfl, SqL.of (s03 _ _ hal), g1', _, rfl, by show 2 ≤ sizeLine; lia, fun x hx => ?_⟩
            have s4 : Same H3 (upd H3 x (.tup [.str (tuA A' tn i), v])) := Same.new hx
            have e4 : (upd H3 x (.tup [.str (tuA A' tn i), v])) x = some (.tup [.str (tuA A' tn i), v]) := upd_same
            generalize (upd H3 x (.tup [.str (tuA A' tn i), v])) = H4 at s4 e4 ⊢
            have er4 := s4 _ _ e3
            have xr : x ≠ r := ne_of e4 er4 (by intro z; cases z)
            refine ⟨r, _, _, rfl, rfl, er4, by lia, ?_⟩
            have k5 : ∀ c u, H4 c = some u → c ≠ r → (upd H4 r (.lst (us ++ [.ref x]))) c = some u := fun c u e hc => by rw [upd_ne hc]; exact e
            have e5 : (upd H4 r (.lst (us ++ [.ref x]))) r = some (.lst (us ++ [.ref x])) := upd_same
            generalize (upd H4 r (.lst (us ++ [.ref x]))) = H5 at k5 e5 ⊢
            have k25 : ∀ c u, H2 c = some u → c ≠ r → H5 c = some u := fun c u e hc => k5 c u (s4 _ _ (s3 _ _ e)) hc
            have n2 : ∀ c, H2 c = none → H1 c = none := fun c z => by
              cases h : H1 c with
              | none => rfl
              | some u =>
                exfalso
                by_cases hc : c = r
                · rw [hc, e2] at z
                  cases z
                · rw [k2 c u h hc] at z
                  cases z
            have x1 : H1 x = none := n2 x (s3.free hx)
            refine ⟨_, _, us ++ [.ref x], pre ++ [(tuA A' tn i, p)], rfl, fun c u e => k25 c u (s2 _ _ e) (ne_of_none e hr), e5, fun c u e hc => k25 c u (k2 c u e hc) hc, ?_, by rw [List.length_append, ul]; rfl, ?_, fun y hy => ?_, fun y hy => ?_, fun y hy => ?_⟩
            · refine TrAt.put ?_ (tr.same (fw_mono n2 fun c u z e => k5 c u (s4 _ _ e) fun w => ?_)) (tr2.same (fw_mono (fun _ z => z) fun c u z e => k25 c u e (n1 c z).2))
              · rw [fw_at x1]
                exact k5 _ _ e4 xr
              · rw [w, e2] at z
                cases z
            · rw [List.map_append, pn, List.range_succ, List.map_append]
              rfl
            · rcases (List.mem_append.mp hy) with z | z
              · exact po y z
              · rw [List.mem_singleton.mp z]
                exact ⟨nm.ab _ g2, ok⟩
            · rcases (List.mem_append.mp hy) with z | z
              · exact ph y z
              · rw [List.mem_singleton.mp z]
                exact hh
            · rcases (List.mem_append.mp hy) with z | z
              · exact pw y z
              · rw [List.mem_singleton.mp z]
                exact ck_dn (by lia) hw
          · rintro σ H2 ⟨v8, v9, us, pre, rfl, s2, e2, k2, tr2, ul, pn, po, ph, pw⟩
            have hpl : pre.length = mm := by
              have := congrArg List.length pn
              rw [List.length_map, List.length_map, List.length_range] at this
              exact this
            refine ⟨_, rfl, t, _, _, _, rfl, rfl, SqT.of (s2 _ _ ht), t1, _, rfl, _, rfl, a, ns, _, _, _, rfl, s2.seq hS, hn, by lia, by lia, by decide, by decide, fun j j0 j2 => ?_⟩
            obtain ⟨i, rfl⟩ : ∃ i : Nat, (i : Int) = j := ⟨j.toNat, Int.toNat_of_nonneg j0⟩
            obtain ⟨g1, g2⟩ := getD_at (A := L) (i := i) (by have := nm.l2; lia)
            refine ⟨ll, _, _, _, rfl, rfl, SqL.of (s2 _ _ hll), g1, _, rfl, by show 3 ≤ sizeLine; lia, fun x hx => ?_⟩
            have hx0 := s2.free hx
            have s3 : Same H2 (upd H2 x (.tup [.str (Str.ofString "look"), .str (L.getD i Str.empty), .ref r])) := Same.new hx
            have e3 : (upd H2 x (.tup [.str (Str.ofString "look"), .str (L.getD i Str.empty), .ref r])) x = some (.tup [.str (Str.ofString "look"), .str (L.getD i Str.empty), .ref r]) := upd_same
            have wt := ofL_wt (pre := pre) pw
            have wt2 := ck_lk (k := k) (d := d') m3 m13
            rw [hpl] at wt
            refine q (.ref x) (.lk (L.getD i Str.empty) (ofL pre .nil)) _ (s2.trans s3) ⟨x, r, us, rfl, by rw [fw_at hx0]; exact e3, by rw [fw_at hr]; exact s3 _ _ e2, tr2.same (fw_mono (fun c z => (n1 c z).1) fun c u _ e => s3 _ _ e)⟩ ⟨nm.lb _ g2, ?_, ⟨?_, ?_⟩, ofL_ok po⟩ (Nat.succ_le_succ (ofL_ht ph)) (by show wtP (ofL pre .nil) + 1 ≤ _; lia)
            · cases pre with
              | nil =>
                have : (0 : Nat) = mm := hpl
                lia
              | cons y r' => intro z; cases z
            · rw [ofL_an, pn]
              exact tu_nodup nm.a3 nm.nd tn m3
            · rw [ofL_an, List.length_map, hpl]
              lia
        · refine ⟨_, rfl, _, _, rfl, rfl, _, rfl, ?_⟩
          refine ite2 (fun hk13 => ?_) (fun _ => ?_)
          · have hk13' := of_decide_eq_true hk13
            refine ⟨_, rfl, _, rfl, a, ns, _, _, _, rfl, hS, hn, by lia, by lia, by decide, by decide, fun r r0 r3 => ⟨_, _, rfl, rfl, ?_⟩⟩
            obtain ⟨i, rfl⟩ : ∃ i : Nat, (i : Int) = r := ⟨r.toNat, Int.toNat_of_nonneg r0⟩
            exact hN _ _ ⟨1 + i, by rw [show (1 : Int) + (i : Int) = ((1 + i : Nat) : Int) by lia]; rfl, rfl, by lia, by lia, by lia⟩
          · exact hN _ _ ⟨1, rfl, rfl, by decide, by decide, fun _ => rfl⟩
theorem ok_row {f f1 : Addr} {fd d1 : FuncData} (F : Fun K "_law_row_of_dos" "_law_row_of_dos" sLRowOfDos f fd) (T : Bl mg) (D_l_deep : Df K mg "_law_deep" sLDeep pLDeep f1 d1) (G_l_deep : FnOk P w K mg base CX0 2 f1 d1 pLDeep (spDraw K)) : FnOk P w K mg base CX0 3 f fd pLRowOfDos (spRow K) := by
  refine F.ok scLRowOfDos (fun vs H Q E h => ?_) (fun cdv A outer s H vs Q E hr2 h => ?_)
  · obtain ⟨a, ns, c, t, D, L, A, rfl, _⟩ := h
    rfl
  · obtain ⟨a, ns, c, t, D, L, A', rfl, hS, hn, c0, c40, nm, q⟩ := h
    have hsl : sizeLine = 16777216 := sizeLine_eq
    obtain ⟨dl, ll, al, ht, hdl, hll, hal⟩ := nm.got
    have t0 : atI [V.ref dl, .ref ll, .ref al] ((0 : Nat) : Int) = some (.ref dl) := atI_nat rfl
    refine ⟨_, (pss_cons (ps_set (i := 3) scLRowOfDos.nd rfl (Or.inl rfl) (pe_tup (pa_cons pe_str pa_nil)))
      (pss_cons (ps_for PassesOwn.never rfl (pi_range1 (by rfl) T.range (pa_cons (pv 1) pa_nil)) (pg_name (i := 4) scLRowOfDos.nd rfl (Or.inl rfl))
        (pss_one (ps_set (i := 3) scLRowOfDos.nd rfl (Or.inl rfl) (pe_tup (pa_cons pe_str (pa_cons (pe_ix ix_list (pe_ix ix_tup (pv 2) pe_int (fun _ _ => rfl)) (pe_call G_l_deep hr2 (by rfl) D_l_deep.m D_l_deep.F.kp D_l_deep.b .nil pass0 (pa_cons (pv 0) (pa_cons (pv 4) (pa_cons pe_int (pa_cons pe_int pa_nil))))) (fun _ _ => rfl)) (pa_cons (pv 3) pa_nil)))))))
      (pss_one (ps_ret (pv 3))))), ?_⟩
    refine ⟨by show 1 ≤ sizeLine; lia, fun x hx => ?_⟩
    refine ⟨_, rfl, _, rfl, by lia, by lia, for_range (n := c.toNat) (fun i σ H2 => ∃ (v4 : Option V) (v : V) (p : Pn), σ = [some (.ref a), some (.int c), some (.ref t), some v, v4] ∧ Same H H2 ∧ TrAt H2 p [v] ∧ okP true p ∧ htP p = i + 1 ∧ wtP p = i + 1)
      ⟨none, .ref x, .stop, rfl, Same.new hx, ⟨x, rfl, upd_same⟩, trivial, rfl, rfl⟩ ?_ ?_⟩
    · rintro i σ H2 hi ⟨v4, v, p, rfl, s2, tr, ok, hh, hw⟩
      have hi' : i < c.toNat := hi
      refine ⟨_, rfl, t, _, _, _, rfl, rfl, SqT.of (s2 _ _ ht), t0, _, rfl, _, rfl, a, ns, _, _, _, rfl, s2.seq hS, hn, by lia, by lia, by decide, by decide, fun r r0 r3 => ?_⟩
      obtain ⟨j, rfl⟩ : ∃ i : Nat, (i : Int) = r := ⟨r.toNat, Int.toNat_of_nonneg r0⟩
      obtain ⟨g1, g2⟩ := getD_at (A := D) (i := j) (by have := nm.d3; lia)
      refine ⟨dl, _, _, _, rfl, rfl, SqL.of (s2 _ _ hdl), g1, _, rfl, by show 3 ≤ sizeLine; lia, fun y hy => ?_⟩
      exact ⟨_, .ref y, .dd (D.getD j Str.empty) p, rfl, s2.trans (Same.new hy), ⟨y, v, rfl, upd_same, tr.same (Same.new hy)⟩, ⟨nm.db _ g2, ok⟩, congrArg (· + 1) hh, congrArg (· + 1) hw⟩
    · rintro σ H2 ⟨v4, v, p, rfl, s2, tr, ok, hh, hw⟩
      exact ⟨_, rfl, q v p H2 s2 tr ok (by lia) (by lia)⟩
theorem ok_drawn {f f1 f2 f3 : Addr} {fd d1 d2 d3 : FuncData} (F : Fun K "_law_drawn_tree" "_law_drawn_tree" sLDrawnTree f fd) (D_l_draw : Df K mg "_law_draw" sLDraw pLDraw f1 d1) (G_l_draw : FnOk P w K mg base CX0 2 f1 d1 pLDraw (spDraw K)) (D_l_row_of_dos : Df K mg "_law_row_of_dos" sLRowOfDos pLRowOfDos f2 d2) (G_l_row_of_dos : FnOk P w K mg base CX0 3 f2 d2 pLRowOfDos (spRow K))
    (D_l_tree : Df K mg "_law_tree" sLTree pLTree f3 d3) (G_l_tree : FnOk P w K mg base CX0 12 f3 d3 pLTree (spTree K 9)) : FnOk P w K mg base CX0 13 f fd pLDrawnTree (spDrawn K) := by
  refine F.ok scLDrawnTree (fun vs H Q E h => ?_) (fun cdv A outer s H vs Q E hrN h => ?_)
  · obtain ⟨a, ns, t, D, L, A, rfl, _⟩ := h
    rfl
  · obtain ⟨a, ns, t, D, L, A', rfl, hS, hn, nm, q⟩ := h
    have hr2 : Room 2 _ := hrN.mono (by decide)
    have hr3 : Room 3 _ := hrN.mono (by decide)
    refine ⟨_, (pss_cons (ps_if (pt_cmpR op_eq (pe_call G_l_draw hr2 (by rfl) D_l_draw.m D_l_draw.F.kp D_l_draw.b .nil pass0 (pa_cons (pv 0) (pa_cons pe_int (pa_cons pe_int (pa_cons pe_int pa_nil))))) pe_int (nomark _)) (pss_one (ps_ret (pe_call G_l_row_of_dos hr3 (by rfl) D_l_row_of_dos.m D_l_row_of_dos.F.kp D_l_row_of_dos.b .nil pass0 (pa_cons (pv 0) (pa_cons (pe_call G_l_draw hr2 (by rfl) D_l_draw.m D_l_draw.F.kp D_l_draw.b .nil pass0 (pa_cons (pv 0) (pa_cons pe_int (pa_cons pe_int (pa_cons pe_int pa_nil))))) (pa_cons (pv 1) pa_nil)))))) pss_nil)
      (pss_one (ps_ret (pe_call G_l_tree hrN (by rfl) D_l_tree.m D_l_tree.F.kp D_l_tree.b .nil pass0 (pa_cons (pv 0) (pa_cons pe_int (pa_cons (pe_call G_l_draw hr2 (by rfl) D_l_draw.m D_l_draw.F.kp D_l_draw.b .nil pass0 (pa_cons (pv 0) (pa_cons pe_int (pa_cons pe_int (pa_cons pe_int pa_nil))))) (pa_cons (pv 1) pa_nil)))))))), ?_⟩
    refine ⟨_, rfl, a, ns, _, _, _, rfl, hS, hn, by decide, by decide, by decide, by decide, fun r r0 r1 => ⟨rfl, _, rfl, ?_⟩⟩
    refine ite2 (fun _ => ?_) (fun _ => ?_)
    · refine ⟨_, rfl, _, rfl, a, ns, _, _, _, rfl, hS, hn, by decide, by decide, by decide, by decide, fun c c0 c1 => ⟨_, rfl, ?_⟩⟩
      exact ⟨a, ns, c, t, D, L, A', rfl, hS, hn, c0, by lia, nm, q⟩
    · try unfold tNext
      dsimp only
      refine ⟨_, rfl, _, rfl, a, ns, _, _, _, rfl, hS, hn, by decide, by decide, by decide, by decide, fun d d0 d9 => ⟨_, rfl, ?_⟩⟩
      obtain ⟨d, rfl⟩ : ∃ i : Nat, (i : Int) = d := ⟨d.toNat, Int.toNat_of_nonneg d0⟩
      have hd : d ≤ 8 := by lia
      have hp : 3 ^ d ≤ 3 ^ 8 := Nat.pow_le_pow_right (by decide) hd
      have hp8 : 3 ^ 8 = 6561 := by decide
      refine ⟨a, ns, 0, d, t, D, L, A', rfl, hS, hn, by lia, by lia, nm, fun v p H' s tr ok hh hw => q v p H' s (tr.same fw_le) ok (by lia) (ck_8 hd hw)⟩
noncomputable def PyV (C : C3) (H : Hp) (v : V) (x : Str × Pn) : Prop := ∃ (t : Addr) (p : V), v = .ref t ∧ H t = some (.tup [.str x.1, p]) ∧ PlAt C H x.2 [p] ∧ okP true x.2
theorem PyV.same {C : C3} {H H' : Hp} (s : Same H H') (v : V) (x : Str × Pn) : PyV C H v x → PyV C H' v x := fun ⟨t, p, e, h, pl, ok⟩ => ⟨t, p, e, s _ _ h, pl.same s, ok⟩
theorem plan_at {C : C3} {H : Hp} : ∀ {ws : Pn} {us : List V}, okP false ws → PlAt C H ws us → Z2 (PyV C H) us (wyL ws)
  | .nil, us, _, e => by
    rw [show us = [] from e]
    exact .nil
  | .way a p r, us, h, ⟨t, v, us', e, h1, h2, h3⟩ => by
    rw [e]
    exact .cons ⟨t, v, rfl, h1, h2, h.2.1⟩ (plan_at h.2.2 h3)
theorem wy_an : ∀ ws : Pn, (wyL ws).length = (anP ws).length
  | .way a p r => congrArg (· + 1) (wy_an r)
  | .nil => rfl
  | .stop => rfl
  | .dd _ _ => rfl
  | .lk _ _ => rfl
theorem is_self (C : Addr) : PySem.W.isIn K (.ref C) C = true := by
  unfold PySem.W.isIn
  simp
theorem ne_no {a : V} (h : (!decide (a = a)) = true) : False := by
  rw [decide_eq_true rfl] at h
  cases h
structure IsA (K : PySem.W.Frag) (C : C3) (CP : Addr) : Prop where
  s : PySem.W.isIn K (.ref C.s) CP = true
  d : PySem.W.isIn K (.ref C.d) CP = true
  l : PySem.W.isIn K (.ref C.l) CP = true
noncomputable def VWy (C : C3) (a : Addr) (sp : Sp) : Prop := a = C.l ∧ sp = spLkWays C.l
inductive spIs (C : C3) (n : Nat) (vs : List V) (H : Hp) (Q : VK) (E0_ : XK) : Prop
  | mk (p v : V) (t : Pn) (c0 : vs = [p, v]) (c1 : PlAt C H t [p]) (c2 : TrAt H t [v]) (c3 : okP true t) (c4 : htP t ≤ n) (c5 : ∀ H', Same H H' → Q (.bl true) H') : spIs C n vs H Q E0_
inductive spWaysAre (C : C3) (n : Nat) (vs : List V) (H : Hp) (Q : VK) (E0_ : XK) : Prop
  | mk (r u : Addr) (ws : Pn) (us us' : List V) (c0 : vs = [.ref r, .ref u]) (c1 : H r = some (.lst us)) (c2 : H u = some (.lst us')) (c3 : PlAt C H ws us) (c4 : TrAt H ws us') (c5 : okP false ws) (c6 : htP ws ≤ n) (c7 : (anP ws).length ≤ 1000) (c8 : ∀ H', Same H H' → Q (.bl true) H') : spWaysAre C n vs H Q E0_
noncomputable abbrev pLIs : List Str := ["_law_plan", "_law_tree_here"]
noncomputable abbrev nLIs : List Str := ["_law_plan", "_law_tree_here"]
theorem scLIs : FnScope nLIs pLIs (defScope sLIs) := ⟨rfl, rfl, rfl, by decide +kernel, rfl, by decide +kernel, by decide +kernel⟩
noncomputable abbrev pLWaysAre : List Str := ["_law_told", "_law_ways"]
noncomputable abbrev nLWaysAre : List Str := ["_law_told", "_law_ways", "_law_k"]
theorem scLWaysAre : FnScope nLWaysAre pLWaysAre (defScope sLWaysAre) := ⟨rfl, rfl, rfl, by decide +kernel, rfl, by decide +kernel, by decide +kernel⟩
theorem ok_waysare {f f1 : Addr} {C : C3} {n : Nat} {fd d1 : FuncData} (F : Fun K "_law_ways_are" "_law_ways_are" sLWaysAre f fd) (T : Bl mg) (D_l_is : Df K mg "_law_is" sLIs pLIs f1 d1) (G_l_is : FnOk P w K mg base CX0 (1 + 2 * n) f1 d1 pLIs (spIs C n)) : FnOk P w K mg base CX0 (2 + 2 * n) f fd pLWaysAre (spWaysAre C n) := by
  rw [show 2 + 2 * n = (1 + 2 * n) + 1 by lia]
  refine F.ok scLWaysAre (fun vs H Q E h => ?_) (fun cdv A outer s H vs Q E hrI h => ?_)
  · obtain ⟨r, u, ws, us, us', rfl, _⟩ := h
    rfl
  · obtain ⟨r, u, ws, us, us', rfl, hr, hu, pl, tr, ok, hn, hl, q⟩ := h
    have hsl : sizeLine = 16777216 := sizeLine_eq
    have zp := plan_at ok pl
    have zt := ways_at (n := n) (m := wtP ws) ok.wk hn (Nat.le_refl _) tr
    have l1 := zp.len
    have l2 := zt.len
    have l3 := wy_an ws
    refine ⟨_, (pss_cons (ps_if (PW.pt (pw_or (pt_not (pt_val (pe_callB call_isiL (by rfl) T.isi bt_isi (pa_cons (pv 0) (pa_cons (pe_bltn (v := .ty "list") (by rfl) T.list bt_list rfl) pa_nil))))) (pw_or1 (pt_cmpR op_ne (pe_callB call_len (by rfl) T.len PySem.boot_len (pa_cons (pv 0) pa_nil)) (pe_callB call_len (by rfl) T.len PySem.boot_len (pa_cons (pv 1) pa_nil)) (nomark _))))) (pss_one (ps_ret pe_bl)) pss_nil)
      (pss_cons (ps_for PassesOwn.never rfl (pi_range1 (by rfl) T.range (pa_cons (pe_callB call_len (by rfl) T.len PySem.boot_len (pa_cons (pv 1) pa_nil)) pa_nil)) (pg_name (i := 2) scLWaysAre.nd rfl (Or.inl rfl))
        (pss_cons (ps_if (PW.pt (pw_or (pt_not (pt_val (pe_callB call_isiT (by rfl) T.isi bt_isi (pa_cons (pe_ix ix_list (pv 0) (pv 2) (fun _ _ => rfl)) (pa_cons (pe_bltn (v := .ty "tuple") (by rfl) T.tuple bt_tuple rfl) pa_nil))))) (pw_or (pt_cmpR op_ne (pe_callB call_len (by rfl) T.len PySem.boot_len (pa_cons (pe_ix ix_list (pv 0) (pv 2) (fun _ _ => rfl)) pa_nil)) pe_int (nomark _)) (pw_or1 (pt_not (pt_val (pe_callB call_isiS (by rfl) T.isi bt_isi (pa_cons (pe_ix ix_tup (pe_ix ix_list (pv 0) (pv 2) (fun _ _ => rfl)) pe_int (fun _ _ => rfl)) (pa_cons (pe_bltn (v := .ty "str") (by rfl) T.str bt_str rfl) pa_nil))))))))) (pss_one (ps_ret pe_bl)) pss_nil)
      (pss_one (ps_if (PW.pt (pw_or (pt_cmpR op_ne (pe_ix ix_tup (pe_ix ix_list (pv 0) (pv 2) (fun _ _ => rfl)) pe_int (fun _ _ => rfl)) (pe_ix ix_tup (pe_ix ix_list (pv 1) (pv 2) (fun _ _ => rfl)) pe_int (fun _ _ => rfl)) (nomark _)) (pw_or1 (pt_not (pt_val (pe_call G_l_is hrI (by rfl) D_l_is.m D_l_is.F.kp D_l_is.b .nil pass0 (pa_cons (pe_ix ix_tup (pe_ix ix_list (pv 0) (pv 2) (fun _ _ => rfl)) pe_int (fun _ _ => rfl)) (pa_cons (pe_ix ix_tup (pe_ix ix_list (pv 1) (pv 2) (fun _ _ => rfl)) pe_int (fun _ _ => rfl)) pa_nil)))))))) (pss_one (ps_ret pe_bl)) pss_nil))))
      (pss_one (ps_ret pe_bl)))), ?_⟩
    refine ⟨_, rfl, r, _, rfl, hr, _, rfl, ?_⟩
    refine iteF ?_
    refine ⟨_, rfl, _, _, rfl, .inl ⟨_, SqL.of hr, rfl⟩, _, rfl, _, _, rfl, .inl ⟨_, SqL.of hu, rfl⟩, rfl, _, rfl, ?_⟩
    refine ite2 (fun z => ?_) (fun _ => ?_)
    · exfalso
      rw [l1, l2] at z
      exact ne_no z
    try unfold tNext
    dsimp only
    refine ⟨_, rfl, _, _, rfl, .inl ⟨_, SqL.of hu, rfl⟩, _, rfl, by lia, by lia, for_range (n := us'.length) (fun i σ H2 => ∃ v2 : Option V, σ = [some (.ref r), some (.ref u), v2] ∧ Same H H2) ⟨none, rfl, Same.refl _⟩ ?_ ?_⟩
    · rintro i σ H2 hi ⟨v2, rfl, s2⟩
      have hi' : i < us'.length := hi
      have hy1 : us[i]? = some us[i] := List.getElem?_eq_getElem (by lia)
      have hy2 : us'[i]? = some us'[i] := List.getElem?_eq_getElem hi'
      obtain ⟨x, hx, t, p, e1, ht, plx, okx⟩ := (zp.mono (PyV.same s2)).at hy1
      obtain ⟨x', hx', t', p', e2, ht', trx, _, _, hnx, _⟩ := (zt.mono (WtV.same s2)).at hy2
      have ex : x' = x := Option.some.inj (hx'.symm.trans hx)
      subst ex
      have i1 : atI us (0 + (i : Int)) = some (.ref t) := by
        rw [Int.zero_add]
        exact atI_nat (hy1.trans (by rw [e1]))
      have i2 : atI us' (0 + (i : Int)) = some (.ref t') := by
        rw [Int.zero_add]
        exact atI_nat (hy2.trans (by rw [e2]))
      have p0 : atI [V.str x'.1, p] ((0 : Nat) : Int) = some (.str x'.1) := atI_nat rfl
      have p1 : atI [V.str x'.1, p] ((1 : Nat) : Int) = some p := atI_nat rfl
      have q0 : atI [V.str x'.1, p'] ((0 : Nat) : Int) = some (.str x'.1) := atI_nat rfl
      have q1 : atI [V.str x'.1, p'] ((1 : Nat) : Int) = some p' := atI_nat rfl
      have hr2 := s2 _ _ hr
      have hu2 := s2 _ _ hu
      refine ⟨_, rfl, _, rfl, r, _, _, _, rfl, rfl, SqL.of hr2, i1, t, _, rfl, ht, _, rfl, ?_⟩
      refine iteF ?_
      refine ⟨_, rfl, _, rfl, r, _, _, _, rfl, rfl, SqL.of hr2, i1, _, _, rfl, .inr ⟨_, SqT.of ht, rfl⟩, rfl, _, rfl, ?_⟩
      refine ite2 (fun z => (ne_no z).elim) (fun _ => ?_)
      refine ⟨_, rfl, _, rfl, r, _, _, _, rfl, rfl, SqL.of hr2, i1, t, _, _, _, rfl, rfl, SqT.of ht, p0, _, rfl, _, rfl, ?_⟩
      refine iteF ?_
      try unfold tNext
      dsimp only
      refine ⟨_, rfl, _, rfl, r, _, _, _, rfl, rfl, SqL.of hr2, i1, t, _, _, _, rfl, rfl, SqT.of ht, p0, _, rfl, _, rfl, u, _, _, _, rfl, rfl, SqL.of hu2, i2, t', _, _, _, rfl, rfl, SqT.of ht', q0, rfl, _, rfl, ?_⟩
      refine ite2 (fun z => (ne_no z).elim) (fun _ => ?_)
      refine ⟨_, rfl, _, rfl, r, _, _, _, rfl, rfl, SqL.of hr2, i1, t, _, _, _, rfl, rfl, SqT.of ht, p1, _, rfl, _, rfl, u, _, _, _, rfl, rfl, SqL.of hu2, i2, t', _, _, _, rfl, rfl, SqT.of ht', q1, ?_⟩
      refine ⟨p, p', x'.2, rfl, plx, trx, okx, hnx, fun H3 s3 => ⟨_, rfl, ?_⟩⟩
      refine iteF ?_
      exact ⟨_, rfl, s2.trans s3⟩
    · rintro σ H2 ⟨v2, rfl, s2⟩
      exact q H2 s2
theorem ok_is {f f1 : Addr} {C : C3} {CP : Addr} {fd d1 : FuncData} (F : Fun K "_law_is" "_law_is" sLIs f fd) (T : Bl mg) (I : IsA K C CP) (LD : ClD K C.d) (LL : ClL K C.l) (mP : mg "Plan" = some (.ref CP)) (mS : mg "Stop" = some (.ref C.s)) (mD : mg "Do" = some (.ref C.d)) (mL : mg "Look" = some (.ref C.l)) (GW : MV P w K mg base C.l "ways" 1 (spLkWays C.l))
    (D_l_is : Df K mg "_law_is" sLIs pLIs f fd) (GWA : ∀ n : Nat, FnOk P w K mg base CX0 (1 + 2 * n) f fd pLIs (spIs C n) → FnOk P w K mg base CX0 (2 + 2 * n) f1 d1 pLWaysAre (spWaysAre C n)) (D_l_ways_are : Df K mg "_law_ways_are" sLWaysAre pLWaysAre f1 d1) : ∀ n : Nat, FnOk P w K mg base CX0 (1 + 2 * n) f fd pLIs (spIs C n)
  | 0 => fn_none fun vs H Q E h => by
    obtain ⟨_, _, t, _, _, _, ok, h0, _⟩ := h
    have := ht_pos ok.wk
    lia
  | n + 1 => by
    have G_l_is := ok_is F T I LD LL mP mS mD mL GW D_l_is GWA D_l_ways_are n
    have G_l_ways_are := GWA n G_l_is
    rw [show 1 + 2 * (n + 1) = (2 + 2 * n) + 1 by lia]
    refine F.ok scLIs (fun vs H Q E h => ?_) (fun cdv A outer s H vs Q E hrM h => ?_)
    · obtain ⟨p, v, t, rfl, _⟩ := h
      rfl
    · obtain ⟨p, v, t, rfl, pl, tr, ok, hn, q⟩ := h
      have hrI : Room (1 + 2 * n) _ := hrM.mono (by lia)
      have hr1 : Room 1 _ := hrM.mono (by lia)
      have hV_ways : ∀ C' sp, VWy C C' sp → ∃ (k : Nat) (f : Addr) (fd : FuncData) (ps : List Str), Cls K C' ∧ Meth K C' "ways" f ∧ FnOk P w K mg base CX0 k f fd ps sp ∧ Room k _ ∧ Binds K fd ps [] := fun C' sp hv => by
        obtain ⟨rfl, rfl⟩ := hv
        obtain ⟨f', fd', m', g', b'⟩ := GW.ex
        exact ⟨1, f', fd', ["self"], GW.cl, m', g', hr1, b'⟩
      refine ⟨_, (pss_cons (ps_if (pt_not (pt_val (pe_callB call_isiC (by rfl) T.isi bt_isi (pa_cons (pv 0) (pa_cons (pe_glob (v := .ref CP) (by rfl) mP rfl) pa_nil))))) (pss_one (ps_ret pe_bl)) pss_nil)
      (pss_cons (ps_if (pt_cmpR op_eq (pe_ix ix_tup (pv 1) pe_int (fun _ _ => rfl)) pe_str (nomark _)) (pss_one (ps_ret (pe_callB call_isiC (by rfl) T.isi bt_isi (pa_cons (pv 0) (pa_cons (pe_glob (v := .ref C.s) (by rfl) mS rfl) pa_nil))))) pss_nil)
      (pss_cons (ps_if (pt_cmpR op_eq (pe_ix ix_tup (pv 1) pe_int (fun _ _ => rfl)) pe_str (nomark _)) (pss_cons (ps_if (PW.pt (pw_or (pt_not (pt_val (pe_callB call_isiC (by rfl) T.isi bt_isi (pa_cons (pv 0) (pa_cons (pe_glob (v := .ref C.d) (by rfl) mD rfl) pa_nil))))) (pw_or (pt_not (pt_val (pe_callB call_isiS (by rfl) T.isi bt_isi (pa_cons (pe_fld (pv 0) rfl) (pa_cons (pe_bltn (v := .ty "str") (by rfl) T.str bt_str rfl) pa_nil))))) (pw_or1 (pt_cmpR op_ne (pe_fld (pv 0) rfl) (pe_ix ix_tup (pv 1) pe_int (fun _ _ => rfl)) (nomark _)))))) (pss_one (ps_ret pe_bl)) pss_nil)
      (pss_one (ps_ret (pe_call G_l_is hrI (by rfl) D_l_is.m D_l_is.F.kp D_l_is.b .nil pass0 (pa_cons (pe_fld (pv 0) rfl) (pa_cons (pe_ix ix_tup (pv 1) pe_int (fun _ _ => rfl)) pa_nil)))))) pss_nil)
      (pss_cons (ps_if (PW.pt (pw_or (pt_not (pt_val (pe_callB call_isiC (by rfl) T.isi bt_isi (pa_cons (pv 0) (pa_cons (pe_glob (v := .ref C.l) (by rfl) mL rfl) pa_nil))))) (pw_or (pt_not (pt_val (pe_callB call_isiS (by rfl) T.isi bt_isi (pa_cons (pe_fld (pv 0) rfl) (pa_cons (pe_bltn (v := .ty "str") (by rfl) T.str bt_str rfl) pa_nil))))) (pw_or1 (pt_cmpR op_ne (pe_fld (pv 0) rfl) (pe_ix ix_tup (pv 1) pe_int (fun _ _ => rfl)) (nomark _)))))) (pss_one (ps_ret pe_bl)) pss_nil)
      (pss_one (ps_ret (pe_call G_l_ways_are hrM (by rfl) D_l_ways_are.m D_l_ways_are.F.kp D_l_ways_are.b .nil pass0 (pa_cons (pe_methV (pv 0) hV_ways) (pa_cons (pe_ix ix_tup (pv 1) pe_int (fun _ _ => rfl)) pa_nil))))))))), ?_⟩
      cases t with
      | nil => exact ok.elim
      | way _ _ _ => exact ok.elim
      | stop =>
        obtain ⟨o, dx, e, ho⟩ := pl
        cases e
        obtain ⟨a, e, ha⟩ := tr
        cases e
        refine ⟨_, rfl, o, _, _, dx, _, rfl, ho, I.s, _, rfl, ?_⟩
        refine iteF ?_
        try unfold tNext
        dsimp only
        refine ⟨_, rfl, a, _, _, _, rfl, rfl, SqT.of ha, atI_nat (j := 0) (v := V.str tStop) rfl, rfl, _, rfl, ?_⟩
        refine ite2 (fun _ => ?_) (fun z => absurd (decide_eq_true rfl) z)
        exact ⟨_, rfl, o, _, _, dx, _, rfl, ho, is_self _, q H (Same.refl _)⟩
      | dd d r =>
        obtain ⟨o, dx, v', e, ho, pl'⟩ := pl
        cases e
        obtain ⟨a, u', e, ha, tr'⟩ := tr
        cases e
        have a0 : atI [V.str (Str.ofString "do"), .str d, u'] ((0 : Nat) : Int) = some (.str (Str.ofString "do")) := atI_nat rfl
        have a1 : atI [V.str (Str.ofString "do"), .str d, u'] ((1 : Nat) : Int) = some (.str d) := atI_nat rfl
        have a2 : atI [V.str (Str.ofString "do"), .str d, u'] ((2 : Nat) : Int) = some u' := atI_nat rfl
        have hh' : htP r + 1 ≤ n + 1 := hn
        refine ⟨_, rfl, o, _, _, dx, _, rfl, ho, I.d, _, rfl, ?_⟩
        refine iteF ?_
        try unfold tNext
        dsimp only
        refine ⟨_, rfl, a, _, _, _, rfl, rfl, SqT.of ha, a0, rfl, _, rfl, ?_⟩
        refine ite2 (fun z => absurd (V.str.inj (of_decide_eq_true z)) (by decide +kernel)) (fun _ => ?_)
        try unfold tNext
        dsimp only
        refine ⟨_, rfl, a, _, _, _, rfl, rfl, SqT.of ha, a0, rfl, _, rfl, ?_⟩
        refine ite2 (fun _ => ?_) (fun z => absurd (decide_eq_true rfl) z)
        refine ⟨_, rfl, o, _, _, dx, _, rfl, ho, is_self _, _, rfl, ?_⟩
        refine iteF ?_
        refine ⟨_, rfl, o, C.d, dx, _, _, rfl, ho, LD.cl, LD.n1, fDo_d d v', _, rfl, _, rfl, ?_⟩
        refine iteF ?_
        refine ⟨_, rfl, o, C.d, dx, _, _, rfl, ho, LD.cl, LD.n1, fDo_d d v', _, rfl, a, _, _, _, rfl, rfl, SqT.of ha, a1, rfl, _, rfl, ?_⟩
        refine ite2 (fun z => (ne_no z).elim) (fun _ => ?_)
        try unfold tNext
        dsimp only
        exact ⟨_, rfl, o, C.d, dx, _, _, rfl, ho, LD.cl, LD.n2, fDo_r d v', _, rfl, a, _, _, _, rfl, rfl, SqT.of ha, a2, v', u', r, rfl, pl', tr', ok.2, by lia, q⟩
      | lk l ws =>
        obtain ⟨o, dx, u, us, e, ho, hu, pl'⟩ := pl
        cases e
        obtain ⟨a, x, us', e, ha, hx, tr'⟩ := tr
        cases e
        have a0 : atI [V.str (Str.ofString "look"), .str l, .ref x] ((0 : Nat) : Int) = some (.str (Str.ofString "look")) := atI_nat rfl
        have a1 : atI [V.str (Str.ofString "look"), .str l, .ref x] ((1 : Nat) : Int) = some (.str l) := atI_nat rfl
        have a2 : atI [V.str (Str.ofString "look"), .str l, .ref x] ((2 : Nat) : Int) = some (.ref x) := atI_nat rfl
        have hh' : htP ws + 1 ≤ n + 1 := hn
        refine ⟨_, rfl, o, _, _, dx, _, rfl, ho, I.l, _, rfl, ?_⟩
        refine iteF ?_
        try unfold tNext
        dsimp only
        refine ⟨_, rfl, a, _, _, _, rfl, rfl, SqT.of ha, a0, rfl, _, rfl, ?_⟩
        refine ite2 (fun z => absurd (V.str.inj (of_decide_eq_true z)) (by decide +kernel)) (fun _ => ?_)
        try unfold tNext
        dsimp only
        refine ⟨_, rfl, a, _, _, _, rfl, rfl, SqT.of ha, a0, rfl, _, rfl, ?_⟩
        refine ite2 (fun z => absurd (V.str.inj (of_decide_eq_true z)) (by decide +kernel)) (fun _ => ?_)
        try unfold tNext
        dsimp only
        refine ⟨_, rfl, o, _, _, dx, _, rfl, ho, is_self _, _, rfl, ?_⟩
        refine iteF ?_
        refine ⟨_, rfl, o, C.l, dx, _, _, rfl, ho, LL.cl, LL.n1, fLk_l l _, _, rfl, _, rfl, ?_⟩
        refine iteF ?_
        refine ⟨_, rfl, o, C.l, dx, _, _, rfl, ho, LL.cl, LL.n1, fLk_l l _, _, rfl, a, _, _, _, rfl, rfl, SqT.of ha, a1, rfl, _, rfl, ?_⟩
        refine ite2 (fun z => (ne_no z).elim) (fun _ => ?_)
        try unfold tNext
        dsimp only
        refine ⟨_, rfl, o, C.l, dx, _, _, rfl, ho, rfl, ⟨rfl, rfl⟩, o, dx, u, l, us, rfl, ho, hu, fun g hg => ?_⟩
        have s1 : Same H (upd H g (.lst us)) := Same.new hg
        refine ⟨_, rfl, a, _, _, _, rfl, rfl, SqT.of (s1 _ _ ha), a2, ?_⟩
        exact ⟨g, x, ws, us, us', rfl, upd_same, s1 _ _ hx, pl'.same s1, tr'.same s1, ok.2.2.2, by lia, ok.2.2.1.2, fun H' s' => q H' (s1.trans s')⟩
theorem layP_map : ∀ {xs : List Str}, (∀ x ∈ xs, strOk x = true) → PyData.canLayAll0 (xs.map PyData.str) = true
  | [], _ => by rw [List.map_nil, PyData.canLayAll0]
  | x :: xs, h => by
    rw [List.map_cons, PyData.canLayAll0, layP_map fun y hy => h y (List.mem_cons_of_mem _ hy), PyData.canLay0, h x List.mem_cons_self]
    rfl
theorem deepP_map : ∀ xs : List Str, PyData.depthAll (xs.map PyData.str) ≤ 0
  | [] => by rw [List.map_nil, PyData.depthAll]; exact Nat.zero_le _
  | x :: xs => by
    have h2 := deepP_map xs
    rw [List.map_cons, PyData.depthAll, PyData.depth]
    lia
theorem shP {xs : List Str} (h : ∀ x ∈ xs, strOk x = true) : shaped (.list (xs.map PyData.str)) = true := by
  unfold shaped
  have h2 := deepP_map xs
  rw [PyData.canLay0, layP_map h, PyData.depth, decide_eq_true (by lia)]
  rfl
structure Er (K : PySem.W.Frag) (mg : Str → Option Value) (G NN : Addr) : Prop where
  mG : mg "GropeError" = some (.ref G)
  mN : mg "NoPlan" = some (.ref NN)
  oG : PySem.W.excIn K G bmV "ValueError.__new__" = true
  oN : PySem.W.excIn K NN bmV "ValueError.__new__" = true
  sub : mroIn K NN G = true
noncomputable def OutC (H : Hp) (E : XK) (NN : Addr) : Prop := ∀ (b : Addr) (H' : Hp), Same H H' → H' b = none → E (.ref b) (some NN) H'
noncomputable def OutM (H : Hp) (m : Addr) (E : XK) (NN : Addr) : Prop := ∀ (b : Addr) (H' : Hp), (∀ c u, H c = some u → c ≠ m → H' c = some u) → H' b = none → E (.ref b) (some NN) H'
noncomputable def MeOk (e : Me) : Prop := okP true e.2.2 ∧ ∀ a, e.2.1 = some a → Lb a
noncomputable def rnT (e : Me) : List (Nat × Ln) := match e.2.1 with
  | none => tkP e.2.2 e.1
  | some a => (e.1, .case a) :: tkP e.2.2 (e.1 + 1)
noncomputable def rnS : List Me → List (Nat × Ln)
  | [] => []
  | e :: S => rnT e ++ rnS S
theorem takW_rn (k : Nat) : ∀ S : List Me, rnS S = tkP (takW (k + 1) S).1 k ++ rnS (takW (k + 1) S).2
  | [] => rfl
  | (j, none, p) :: S => rfl
  | (j, some a, p) :: S => by
    by_cases h : j = k + 1
    · subst h
      rw [takW_yes]
      have ih := takW_rn k S
      show ((k + 1, Ln.case a) :: tkP p (k + 2)) ++ rnS S = ((k + 1, Ln.case a) :: (tkP p (k + 2) ++ tkP (takW (k + 1) S).1 k)) ++ rnS (takW (k + 1) S).2
      rw [ih, List.cons_append, List.cons_append, List.append_assoc]
    · rw [takW_ne h]
      rfl
theorem takW_mo (k : Nat) : ∀ S : List Me, (∀ e ∈ S, MeOk e) → okP false (takW k S).1 ∧ (∀ e ∈ (takW k S).2, MeOk e) ∧ (anP (takW k S).1).length + (takW k S).2.length ≤ S.length
  | [], _ => ⟨trivial, (fun _ h => nomatch h), Nat.le_refl _⟩
  | (j, none, p) :: S, h => ⟨trivial, h, by show 0 + (S.length + 1) ≤ S.length + 1; lia⟩
  | (j, some a, p) :: S, h => by
    by_cases hj : j = k
    · subst hj
      rw [takW_yes]
      obtain ⟨h1, h2, h3⟩ := takW_mo j S fun e he => h e (List.mem_cons_of_mem _ he)
      have h0 := h _ List.mem_cons_self
      exact ⟨⟨h0.2 a rfl, h0.1, h1⟩, h2, by show (anP (takW j S).1).length + 1 + (takW j S).2.length ≤ S.length + 1; lia⟩
    · rw [takW_ne hj]
      exact ⟨trivial, h, by show 0 + (S.length + 1) ≤ S.length + 1; lia⟩
theorem lst_nil (k : Nat) : Txt.lstripChars (spc k) tSp = Str.empty := by
  have e1 : (spc k).cps.toList = List.replicate k 32 := cs_spc k
  have tw : ∀ k : Nat, (List.replicate k 32).takeWhile tSp.cps.contains = List.replicate k 32 := fun k => by
    induction k with
    | zero => rfl
    | succ k ih => rw [List.replicate_succ, List.takeWhile_cons, sp_has, ih]; rfl
  have lo : stripLo tSp.cps.contains true (spc k) = k := by
    show ((spc k).cps.toList.takeWhile _).length = k
    rw [e1, tw, List.length_replicate]
  have hi : stripHi tSp.cps.contains false (spc k) k = (spc k).length := rfl
  unfold Txt.lstripChars Txt.stripBy
  by_cases hs : stripSame tSp.cps.contains true false (spc k) = true
  · rw [if_pos hs]
    unfold stripSame at hs
    rw [lo, Bool.and_eq_true, beq_iff_eq] at hs
    rw [hs.1]
    rfl
  · rw [if_neg hs]
    unfold stripped
    rw [lo, hi, spc_len]
    refine st_ext ?_
    show ((spc k).cps.extract k k).toList = []
    rw [Array.toList_extract]
    simp [List.extract]
theorem ln_split (y : Str) : ∃ (k : Nat) (x : Str), y = spc k ++ x ∧ Txt.lstripChars y tSp = x ∧ (cs x = [] ∨ ∃ c r, cs x = c :: r ∧ c ≠ 32) := by
  have go : ∀ l : List Nat, ∃ (k : Nat) (r : List Nat), l = List.replicate k 32 ++ r ∧ (r = [] ∨ ∃ c s, r = c :: s ∧ c ≠ 32) := fun l => by
    induction l with
    | nil => exact ⟨0, [], rfl, .inl rfl⟩
    | cons c l ih =>
      by_cases hc : c = 32
      · obtain ⟨k, r, e, h⟩ := ih
        exact ⟨k + 1, r, by rw [e, hc, List.replicate_succ]; rfl, h⟩
      · exact ⟨0, c :: l, rfl, .inr ⟨c, l, rfl, hc⟩⟩
  obtain ⟨k, r, e, h⟩ := go (cs y)
  have ey : y = spc k ++ ⟨r.toArray⟩ := st_ext (by rw [cs_app, cs_spc]; exact e)
  refine ⟨k, ⟨r.toArray⟩, ey, ?_, h⟩
  rcases h with h | ⟨c, s, h, hc⟩
  · subst h
    have e2 : y = spc k := st_ext (by rw [e, List.append_nil]; rfl)
    rw [e2]
    exact lst_nil k
  · rw [ey]
    exact lst_spc (c := c) (r := s) h hc
theorem pt_any (x : Str) : ∃ w s n : Str, Txt.partition x tSp = (w, s, n) ∧ (n.length = 0 ∨ x = w ++ (tSp ++ n)) := by
  have go : ∀ l : List Nat, 32 ∉ l ∨ ∃ A B, l = A ++ 32 :: B ∧ 32 ∉ A := fun l => by
    induction l with
    | nil => exact .inl (fun h => nomatch h)
    | cons c l ih =>
      by_cases hc : c = 32
      · exact .inr ⟨[], l, by rw [hc]; rfl, fun h => nomatch h⟩
      · rcases ih with h | ⟨A, B, e, h⟩
        · exact .inl fun z => by
            rcases (List.mem_cons.mp z) with z | z
            · exact hc z.symm
            · exact h z
        · exact .inr ⟨c :: A, B, by rw [e]; rfl, fun z => by
            rcases (List.mem_cons.mp z) with z | z
            · exact hc z.symm
            · exact h z⟩
  rcases go (cs x) with h | ⟨A, B, e, h⟩
  · rcases partition_whole x tSp with ⟨hp, _⟩ | ⟨i, hp, hi, _⟩
    · exact ⟨_, _, _, hp, .inl rfl⟩
    · have es : tSp = ⟨#[32]⟩ := st_ext (by decide +kernel)
      rw [es] at hi
      exact absurd (List.mem_of_getElem? ((StrLaws.subAt_one x 32 i).mp hi)) h
  · have ex : x = ⟨A.toArray⟩ ++ (tSp ++ ⟨B.toArray⟩) := st_ext (by
      rw [cs_app, cs_app, show cs tSp = [32] by decide +kernel, e]
      rfl)
    exact ⟨_, _, _, part_sp ex h, .inr ex⟩
theorem ddN (ps : List Str) : ∀ i, i ≤ ps.length → (SK.dd (kAt (ps.map (Sum.inr : Str → Key))) i).length ≤ i ∧ ((SK.dd (kAt (ps.map (Sum.inr : Str → Key))) i).length = i → SK.dd (kAt (ps.map (Sum.inr : Str → Key))) i = (ps.take i).map Sum.inr ∧ (ps.take i).Nodup)
  | 0, _ => ⟨Nat.le_refl _, fun _ => ⟨rfl, List.nodup_nil⟩⟩
  | i + 1, h => by
    obtain ⟨l, e⟩ := ddN ps i (by lia)
    have hi : i < ps.length := h
    have ev : kAt (ps.map (Sum.inr : Str → Key)) i = Sum.inr ps[i] := by simp [kAt, List.getD, hi]
    have htk : ps.take (i + 1) = ps.take i ++ [ps[i]] := List.take_succ_eq_append_getElem hi
    by_cases hm : (Sum.inr ps[i] : Key) ∈ SK.dd (kAt (ps.map (Sum.inr : Str → Key))) i
    · have ed : SK.dd (kAt (ps.map (Sum.inr : Str → Key))) (i + 1) = SK.dd (kAt (ps.map (Sum.inr : Str → Key))) i := by
        rw [SK.dd, ev, if_pos hm]
      rw [ed]
      exact ⟨by lia, fun z => by lia⟩
    · have ed : SK.dd (kAt (ps.map (Sum.inr : Str → Key))) (i + 1) = SK.dd (kAt (ps.map (Sum.inr : Str → Key))) i ++ [Sum.inr ps[i]] := by
        rw [SK.dd, ev, if_neg hm]
      rw [ed, List.length_append]
      refine ⟨by simp; lia, fun z => ?_⟩
      obtain ⟨e1, e2⟩ := e (by simp at z; lia)
      rw [htk, List.map_append, e1]
      rw [e1] at hm
      exact ⟨rfl, nd_snoc e2 fun z => hm (List.mem_map_of_mem z)⟩
inductive spBTake (C : C3) (NN : Addr) (vs : List V) (H : Hp) (Q : VK) (E : XK) : Prop
  | mk (m : Addr) (us : List V) (k : Nat) (S : List Me) (c0 : vs = [.ref m, .int (k : Int)]) (c1 : H m = some (.lst us)) (c2 : MeAt C H S us) (c3 : us.length ≤ 1000000) (c4 : (∀ e ∈ S, MeOk e)) (c5 : OutM H m E NN) (c6 : ∀ (p : Pn) (R : List Me) (v : V) (us' : List V) (H' : Hp), S = (k, none, p) :: R → (∀ c u, H c = some u → c ≠ m → H' c = some u) → H' m = some (.lst us') → MeAt C H' R us' → PlAt C H' p [v] → Q v H') : spBTake C NN vs H Q E
inductive spBCheck (NN : Addr) (vs : List V) (H : Hp) (Q : VK) (E : XK) : Prop
  | mk (t : Addr) (us : List V) (as : List Str) (c0 : vs = [.ref t]) (c1 : H t = some (.tup us)) (c2 : WyAt H us as) (c3 : as.length ≤ 1000) (c4 : OutC H E NN) (c5 : ∀ H' : Hp, Same H H' → as ≠ [] → as.Nodup → Q .non H') : spBCheck NN vs H Q E
inductive spBLkInit (C NN : Addr) (vs : List V) (H : Hp) (Q : VK) (E : XK) : Prop
  | mk (x dx u : Addr) (l : Str) (us : List V) (as : List Str) (c0 : vs = [.ref x, .str l, .ref u]) (c1 : H x = some (.ins C dx [])) (c2 : H u = some (.lst us)) (c3 : WyAt H us as) (c4 : as.length ≤ 1000) (c5 : OutC H E NN) (c6 : ∀ (tw : Addr) (H' : Hp), (∀ c u, H c = some u → c ≠ x → H' c = some u) → H' x = some (.ins C dx (fLk l (.ref tw))) → H' tw = some (.tup us) → as ≠ [] → as.Nodup → Q .non H') : spBLkInit C NN vs H Q E
inductive spBLine (C : C3) (NN : Addr) (vs : List V) (H : Hp) (Q : VK) (E : XK) : Prop
  | mk (m : Addr) (us : List V) (y : Str) (S : List Me) (c0 : vs = [.str y, .ref m]) (c1 : H m = some (.lst us)) (c2 : MeAt C H S us) (c3 : us.length ≤ 1000) (c4 : (∀ e ∈ S, MeOk e)) (c5 : Sm y) (c6 : y.length ≤ 300) (c7 : OutM H m E NN) (c8 : ∀ (t : Addr) (v : V) (us' : List V) (e : Me) (R : List Me) (x : Nat × Ln) (H' : Hp), (∀ c u, H c = some u → c ≠ m → H' c = some u) → H' m = some (.lst us') → MeAt C H' R us' → H' t = some (.tup [.int (e.1 : Int), oS e.2.1, v]) → PlAt C H' e.2.2 [v] → MeOk e → (∀ e ∈ R, MeOk e) → R.length ≤ S.length → y = rdL x → x :: rnS S = rnS (e :: R) → Q (.ref t) H') : spBLine C NN vs H Q E
inductive spBPlan (NN : Addr) (vs : List V) (H : Hp) (Q : VK) (E : XK) : Prop
  | mk (l : Addr) (ys : List Str) (c0 : vs = [.ref l]) (c1 : H l = some (.lst (ys.map V.str))) (c2 : ys.length ≤ 1000) (c3 : (∀ y ∈ ys, Sm y ∧ y.length ≤ 300)) (c4 : Bad ys) (c5 : OutC H E NN) : spBPlan NN vs H Q E
theorem ok_btake {f G NN : Addr} {C : C3} {fd : FuncData} (F : Fun K "take_plan" "take_plan" sTakePlan f fd) (T : Bl mg) (R' : Er K mg G NN) : FnOk P w K mg base (CXe P w) 1 f fd pTakePlan (spBTake C NN) := by
  refine F.okE scTakePlan (fun vs H Q E h => ?_) (fun cdv A outer s H vs Q E hr h => ?_)
  · obtain ⟨m, us, k, S, rfl, _⟩ := h
    rfl
  · obtain ⟨m, us, k, S, rfl, hm, me, ml, mo, out, q⟩ := h
    have hsl : sizeLine = 16777216 := sizeLine_eq
    have hun := hr.units
    refine ⟨_, (pss_cons (ps_if (PW.pt (pw_or (pt_cmpR op_eq (pe_callB call_len (by rfl) T.len PySem.boot_len (pa_cons (pv 0) pa_nil)) pe_int (nomark _)) (pw_or1 (pt_cmpR (op_neD hun) (pe_slice sl_tup (pe_ix ix_list (pv 0) (pe_un un_neg pe_int) (fun _ _ => rfl)) po_none (po_some pe_int)) (pe_tup (pa_cons (pv 1) (pa_cons pe_non pa_nil))) (nomark _))))) (pss_one (ps_raise R'.oN (by rfl) R'.mN (pa_cons pe_str pa_nil))) pss_nil)
      (pss_one (ps_ret (pe_ix ix_tup (pe_bm0 PySem.F.plainAttrs_list PySem.F.slot_list_pop PySem.F.type_list_pop mt_pop (pv 0)) pe_int (fun _ _ => rfl))))), ?_⟩
    refine ⟨_, rfl, _, _, rfl, .inl ⟨_, SqL.of hm, rfl⟩, rfl, _, rfl, ?_⟩
    cases S with
    | nil =>
      have e0 : us = [] := me
      refine ite2 (fun _ => ?_) (fun z => absurd (decide_eq_true (by rw [e0]; rfl)) z)
      refine iteT ?_
      exact ⟨by show 1 ≤ 1000; decide, fun b hb => out b H (fun c u e _ => e) hb⟩
    | cons e S' =>
      obtain ⟨j, o, p⟩ := e
      have hmo := mo _ List.mem_cons_self
      obtain ⟨t, v, us', rfl, ht, pl, me'⟩ := me
      have hl : (us' ++ [V.ref t]).length = us'.length + 1 := by rw [List.length_append]; rfl
      refine ite2 (fun z => ?_) (fun _ => ?_)
      · exfalso
        have h9 := V.int.inj (of_decide_eq_true z)
        lia
      refine ⟨_, rfl, _, rfl, m, _, _, _, rfl, rfl, SqL.of hm, atI_last, ?_⟩
      refine ⟨_, rfl, t, _, rfl, SqT.of ht, (fun z => absurd z.2 (by show ¬ (HT.sIx 3 3 (some 2) = 3); decide)), fun p1 hp1 => ?_⟩
      have hc : cutV [V.int (j : Int), oS o, v] none (some 2) = [V.int (j : Int), oS o] := rfl
      rw [hc]
      have s1 : Same H (upd H p1 (.tup [V.int (j : Int), oS o])) := Same.new hp1
      have e1 : (upd H p1 (.tup [V.int (j : Int), oS o])) p1 = some (.tup [V.int (j : Int), oS o]) := upd_same
      generalize (upd H p1 (.tup [V.int (j : Int), oS o])) = H1 at s1 e1 ⊢
      refine ⟨_, rfl, by show 2 ≤ sizeLine; lia, fun p2 hp2 => ?_⟩
      have s2 : Same H1 (upd H1 p2 (.tup [V.int (k : Int), .non])) := Same.new hp2
      have e2 : (upd H1 p2 (.tup [V.int (k : Int), .non])) p2 = some (.tup [V.int (k : Int), .non]) := upd_same
      generalize (upd H1 p2 (.tup [V.int (k : Int), .non])) = H2 at s2 e2 ⊢
      have s02 := s1.trans s2
      have sh : ∀ i : Int, PySem.SeqAt.shaped (.tuple [.int i, .none]) = true := fun i => by
        unfold shaped
        simp [PyData.canLay0, PyData.canLayAll0, PyData.depth, PyData.depthAll]
      cases o with
      | some a =>
        have sha : PySem.SeqAt.shaped (.tuple [.int (j : Int), .str a]) = true := by
          have := (hmo.2 a rfl).sm.ok
          unfold shaped
          simp [PyData.canLay0, PyData.canLayAll0, PyData.depth, PyData.depthAll, this]
        refine ⟨_, _, .tup (s2 _ _ e1) (.cons (.int _) (.cons (.str _) .nil)), .tup e2 (.cons (.int _) (.cons .non .nil)), sha, sh _, _, rfl, ?_⟩
        rw [show PyData.eqv (.tuple [.int (j : Int), .str a]) (.tuple [.int (k : Int), .none]) = false by simp [PyData.eqv, PyData.eqvAll]]
        refine iteT ?_
        exact ⟨by show 1 ≤ 1000; decide, fun b hb => out b H2 (fun c u e _ => s02 _ _ e) hb⟩
      | none =>
        refine ⟨_, _, .tup (s2 _ _ e1) (.cons (.int _) (.cons .non .nil)), .tup e2 (.cons (.int _) (.cons .non .nil)), sh _, sh _, _, rfl, ?_⟩
        by_cases hj : j = k
        · subst hj
          rw [eqv_refl _ (canLay_of_shaped (sh _))]
          refine iteF ?_
          try unfold tNext
          dsimp only
          have hm2 := s02 _ _ hm
          have ht2 := s02 _ _ ht
          have nt : t ≠ m := ne_of ht hm (by intro z; cases z)
          have hg : (us' ++ [V.ref t])[(us' ++ [V.ref t]).length - 1]? = some (.ref t) := by
            rw [hl, Nat.add_sub_cancel, List.getElem?_append_right (Nat.le_refl _), Nat.sub_self]
            rfl
          refine ⟨_, rfl, .inl ⟨rfl, _, SqL.of hm2⟩, m, _, _, rfl, rfl, hm2, hg, ?_⟩
          rw [List.dropLast_concat]
          have kc : ∀ c u, H2 c = some u → c ≠ m → (upd H2 m (.lst us')) c = some u := fun c u e hc => by rw [upd_ne hc]; exact e
          have hm3 : (upd H2 m (.lst us')) m = some (.lst us') := upd_same
          generalize (upd H2 m (.lst us')) = H3 at kc hm3 ⊢
          have kc0 : ∀ c u, H c = some u → c ≠ m → H3 c = some u := fun c u e hc => kc c u (s02 _ _ e) hc
          have at2 : atI [V.int (j : Int), oS none, v] ((2 : Nat) : Int) = some v := atI_nat rfl
          refine ⟨t, _, _, _, rfl, rfl, SqT.of (kc _ _ ht2 nt), at2, ?_⟩
          exact q p S' v us' H3 rfl kc0 hm3 (me'.kx kc0 hm) (pl.kx kc0 hm)
        · have hj' : ¬ (j : Int) = (k : Int) := by lia
          rw [show PyData.eqv (.tuple [.int (j : Int), .none]) (.tuple [.int (k : Int), .none]) = false by simp [PyData.eqv, PyData.eqvAll]; exact hj']
          refine iteT ?_
          exact ⟨by show 1 ≤ 1000; decide, fun b hb => out b H2 (fun c u e _ => s02 _ _ e) hb⟩
theorem ok_bcheck {f G NN : Addr} {fd : FuncData} (F : Fun K "check_ways" "check_ways" sCheckWays f fd) (T : Bl mg) (R' : Er K mg G NN) : FnOk P w K mg base (CXe P w) 1 f fd pCheckWays (spBCheck NN) := by
  refine F.okE scCheckWays (fun vs H Q E h => ?_) (fun cdv A outer s H vs Q E hr h => ?_)
  · obtain ⟨t, us, as, rfl, _⟩ := h
    rfl
  · obtain ⟨t, us, as, rfl, ht, wy, ml, out, q⟩ := h
    have hsl : sizeLine = 16777216 := sizeLine_eq
    have hul := wy.len
    refine ⟨_, (pss_cons (ps_lc (i := 1) (N := ["way"]) (sc := defScope sCheckWays) (own := ["way"]) (fr := []) (js := []) scCheckWays.nd rfl rfl ⟨rfl, rfl, rfl, rfl, by decide +kernel, by decide +kernel, by decide +kernel, rfl, by decide +kernel⟩ rfl (pi_tup (pv 0)) (fun _ _ _ _ => pg_name (i := 0) (show List.Nodup (["way"] : List Str) by decide +kernel) rfl (Or.inl rfl)) (fun _ _ _ _ => pif_nil) (fun _ _ _ _ => (pe_ix (ix_tupK K rfl) (pv 0) pe_int (fun _ _ => rfl))))
      (pss_cons (ps_if (pt_cmpR op_eq (pe_callB call_len (by rfl) T.len PySem.boot_len (pa_cons (pv 1) pa_nil)) pe_int (nomark _)) (pss_one (ps_raise R'.oN (by rfl) R'.mN (pa_cons pe_str pa_nil))) pss_nil)
      (pss_one (ps_if (pt_cmpR op_lt (pe_callB call_lenS (by rfl) T.len PySem.boot_len (pa_cons (pe_callTy (call_setK rfl) (by rfl) T.set bt_set (pa_cons (pv 1) pa_nil)) pa_nil)) (pe_callB call_len (by rfl) T.len PySem.boot_len (pa_cons (pv 1) pa_nil)) (nomark _)) (pss_one (ps_raise R'.oN (by rfl) R'.mN (pa_cons pe_str pa_nil))) pss_nil)))), ?_⟩
    refine ⟨_, rfl, t, rfl, ⟨_, SqT.of ht⟩, fun D hD => ?_⟩
    refine lcJ (n := us.length) (fun i ys H4 => ys = (as.take i).map V.str ∧ Same H H4 ∧ H4 D = some (.lst ys)) ⟨rfl, Same.new hD, upd_same⟩
      (fun i ys H4 hi hh0 => by obtain ⟨_, s4, _⟩ := hh0; exact ⟨_, us[i], SqT.of (s4 _ _ ht), by simp [hi]⟩) (fun ys H4 hh0 => by obtain ⟨_, s4, _⟩ := hh0; exact ⟨_, SqT.of (s4 _ _ ht), by simp⟩) ?_ ?_
    · rintro i ys H4 y H5 hi ⟨rfl, s4, e4⟩ ⟨rfl, hy⟩
      refine lc_yes ?_
      obtain ⟨a, a', v, ha, rfl, et⟩ := wy.at (hy _ (SqT.of (s4 _ _ ht)))
      have at0 : atI [V.str a, v] ((0 : Nat) : Int) = some (.str a) := atI_nat rfl
      refine ⟨_, rfl, a', _, _, _, rfl, rfl, SqT.of (s4 _ _ et), at0, _, e4, by simp only [List.length_map, List.length_take]; lia, ?_, s4.put hD, upd_same⟩
      obtain ⟨hi2, e⟩ := List.getElem?_eq_some_iff.mp ha
      rw [List.take_succ_eq_append_getElem hi2, List.map_append, e]
      rfl
    rintro ys H4 ⟨rfl, s4, e4⟩
    rw [hul, List.take_length] at e4
    have hml : (as.map V.str).length = as.length := List.length_map ..
    refine ⟨_, rfl, _, _, rfl, .inl ⟨_, SqL.of e4, rfl⟩, rfl, _, rfl, ?_⟩
    refine ite2 (fun z => ?_) (fun z0 => ?_)
    · exact ⟨by show 1 ≤ 1000; decide, fun b hb => out b H4 s4 hb⟩
    try unfold tNext
    dsimp only
    have hne : as ≠ [] := fun z => z0 (decide_eq_true (by rw [z]; rfl))
    have ek : as.map V.str = (as.map (Sum.inr : Str → Key)).map kV := by
      rw [List.map_map]
      rfl
    obtain ⟨dl, de⟩ := ddN as as.length (Nat.le_refl _)
    have hks : (as.map (Sum.inr : Str → Key)).length = as.length := List.length_map ..
    refine ⟨_, rfl, D, as.map Sum.inr, rfl, SqL.of (by rw [← ek]; exact e4), by lia, fun st' hst' => ?_⟩
    have s5 : Same H4 (upd H4 st' (setO P w st' (SK.dd (kAt (as.map (Sum.inr : Str → Key))) (as.map (Sum.inr : Str → Key)).length).length)) := Same.new hst'
    refine ⟨st', _, rfl, upd_same, _, rfl, _, _, rfl, .inl ⟨_, SqL.of (s5 _ _ e4), rfl⟩, _, _, rfl, rfl, _, rfl, ?_⟩
    rw [hks, hml]
    rw [hks] at s5
    refine ite2 (fun z => ?_) (fun z => ?_)
    · exact ⟨by show 1 ≤ 1000; decide, fun b hb => out b _ (s4.trans s5) hb⟩
    have hnd : as.Nodup := by
      have h1 : (SK.dd (kAt (as.map (Sum.inr : Str → Key))) as.length).length = as.length := by
        rcases Nat.lt_or_ge (SK.dd (kAt (as.map (Sum.inr : Str → Key))) as.length).length as.length with h | h
        · exact absurd (decide_eq_true (by lia)) z
        · lia
      have := (de h1).2
      rw [List.take_length] at this
      exact this
    exact q _ (s4.trans s5) hne hnd
theorem ok_blkinit {f f1 C NN : Addr} {fd d1 : FuncData} (F : Fun K "__init__" "Look.__init__" sLookInit f fd) (LL : ClL K C) (T : Bl mg) (D_check_ways : Df K mg "check_ways" sCheckWays pCheckWays f1 d1) (G_check_ways : FnOk P w K mg base (CXe P w) 1 f1 d1 pCheckWays (spBCheck NN)) : FnOk P w K mg base (CXe P w) 2 f fd pLookInit (spBLkInit C NN) := by
  refine F.okE scLookInit (fun vs H Q E h => ?_) (fun cdv A outer s H vs Q E hr1 h => ?_)
  · obtain ⟨x, dx, u, l, us, as, rfl, _⟩ := h
    rfl
  · obtain ⟨x, dx, u, l, us, as, rfl, hx, hu, wy, ml, out, q⟩ := h
    have hsl : sizeLine = 16777216 := sizeLine_eq
    have hul := wy.len
    refine ⟨_, (pss_cons (ps_set (i := 3) scLookInit.nd rfl (Or.inl rfl) (pe_callTy call_tuple_of (by rfl) T.tuple bt_tuple (pa_cons (pe_lc (N := ["way"]) (sc := defScope sLookInit) (own := ["way"]) (fr := []) (js := []) ⟨rfl, rfl, rfl, rfl, by decide +kernel, by decide +kernel, by decide +kernel, rfl, by decide +kernel⟩ rfl (pi_list (pv 2)) (fun _ _ _ _ => pg_name (i := 0) (show List.Nodup (["way"] : List Str) by decide +kernel) rfl (Or.inl rfl)) (fun _ _ _ _ => pif_nil) (fun _ _ _ _ => (pe_callTy (call_tupK K rfl) (by rfl) T.tuple bt_tuple (pa_cons (pv 0) pa_nil)))) pa_nil)))
      (pss_cons (ps_expr (pe_call G_check_ways hr1 (by rfl) D_check_ways.m D_check_ways.F.kp D_check_ways.b .nil passE (pa_cons (pv 3) pa_nil)))
      (pss_cons (ps_fld (pv 0) (pv 1) rfl)
      (pss_one (ps_fld (pv 0) (pv 3) rfl))))), ?_⟩
    refine ⟨_, rfl, u, rfl, ⟨_, SqL.of hu⟩, fun D hD => ?_⟩
    refine lcJ (n := us.length) (fun i ys H4 => ys = us.take i ∧ Same H H4 ∧ H4 D = some (.lst ys)) ⟨rfl, Same.new hD, upd_same⟩
      (fun i ys H4 hi hh0 => by obtain ⟨_, s4, _⟩ := hh0; exact ⟨_, us[i], SqL.of (s4 _ _ hu), by simp [hi]⟩) (fun ys H4 hh0 => by obtain ⟨_, s4, _⟩ := hh0; exact ⟨_, SqL.of (s4 _ _ hu), by simp⟩) ?_ ?_
    · rintro i ys H4 y H5 hi ⟨rfl, s4, e4⟩ ⟨rfl, hy⟩
      refine lc_yes ?_
      have hyu := hy _ (SqL.of (s4 _ _ hu))
      obtain ⟨a, a', v, ha, rfl, et⟩ := wy.at hyu
      refine ⟨_, rfl, a', _, rfl, .inr ⟨SqT.of (s4 _ _ et), ?_⟩⟩
      refine ⟨_, e4, by rw [List.length_take]; lia, ?_, s4.put hD, upd_same⟩
      obtain ⟨hi2, e⟩ := List.getElem?_eq_some_iff.mp hyu
      rw [List.take_succ_eq_append_getElem hi2, e]
    rintro ys H4 ⟨rfl, s4, e4⟩
    rw [List.take_length] at e4
    refine ⟨D, _, rfl, .inl ⟨SqL.of e4, fun tw htw => ?_⟩⟩
    have s5 : Same H4 (upd H4 tw (.tup us)) := Same.new htw
    have e5 : (upd H4 tw (.tup us)) tw = some (.tup us) := upd_same
    generalize (upd H4 tw (.tup us)) = H5 at s5 e5 ⊢
    have s05 := s4.trans s5
    refine ⟨_, rfl, tw, us, as, rfl, e5, wy.same s05, ml, fun b H' s' hb => out b H' (s05.trans s') hb, fun H6 s6 ne nd => ?_⟩
    have s06 := s05.trans s6
    have hx6 := s06 _ _ hx
    have e6 := s6 _ _ e5
    have nx : tw ≠ x := ne_of e6 hx6 (by intro z; cases z)
    refine ⟨_, rfl, _, rfl, x, C, dx, [], rfl, hx6, LL.cl, LL.n1, by show 0 < 1000; decide, ?_⟩
    refine ⟨_, rfl, _, rfl, x, C, dx, _, rfl, upd_same, LL.cl, LL.n2, by show 1 < 1000; decide, ?_⟩
    refine q tw _ (fun c u e hc => by rw [upd_ne hc, upd_ne hc]; exact s06 _ _ e) ?_ (by rw [upd_ne nx, upd_ne nx]; exact e6) ne nd
    rw [upd_same]
    rfl
theorem ok_bline {f f1 f2 fD fL G NN : Addr} {C : C3} {fd d1 d2 dD dL : FuncData} (F : Fun K "read_line" "read_line" sReadLine f fd) (T : Bl mg) (R' : Er K mg G NN) (Mn : ∃ t, mg "MOST_SIGNS" = some (.int 30 t)) (OS : MkO K C.s) (mS : mg "Stop" = some (.ref C.s)) (MD : L2.Mk K C.d fD) (mD : mg "Do" = some (.ref C.d)) (bD : Binds K dD ["self", "deed", "rest"] []) (GD : FnOk P w K mg base CX0 1 fD dD pDoInit (spDoInit C.d))
    (ML : L2.Mk K C.l fL) (mL : mg "Look" = some (.ref C.l)) (bL : Binds K dL ["self", "look", "ways"] []) (GL : FnOk P w K mg base (CXe P w) 2 fL dL pLookInit (spBLkInit C.l NN)) (D_take_plan : Df K mg "take_plan" sTakePlan pTakePlan f1 d1) (G_take_plan : FnOk P w K mg base (CXe P w) 1 f1 d1 pTakePlan (spBTake C NN)) (D_take_ways : Df K mg "take_ways" sTakeWays pTakeWays f2 d2) (G_take_ways : FnOk P w K mg base CX0 1 f2 d2 pTakeWays (spTakeWays C)) : FnOk P w K mg base (CXe P w) 4 f fd pReadLine (spBLine C NN) := by
  obtain ⟨t1, m1⟩ := Mn
  refine F.okE scReadLine (fun vs H Q E h => ?_) (fun cdv A outer s H vs Q E hr3 h => ?_)
  · obtain ⟨m, us, y, S, rfl, _⟩ := h
    rfl
  · obtain ⟨m, us, y, S, rfl, hm, me, ml, mo, sm, yl, out, q⟩ := h
    have hr2 : Room 2 _ := hr3.mono (by decide)
    have hr1 : Room 1 _ := hr3.mono (by decide)
    have hsl : sizeLine = 16777216 := sizeLine_eq
    have hun := hr3.units
    have hul := me.len
    have rp : Rp y := sm.rp yl
    obtain ⟨k, x, ey, est, _⟩ := ln_split y
    have hxl : y.length = k + x.length := by rw [ey, sz_app, spc_len]
    refine ⟨_, (pss_cons (ps_set (i := 2) scReadLine.nd rfl (Or.inl rfl) (pe_bm PySem.F.plainAttrs_str PySem.F.slot_str_lstrip PySem.F.type_str_lstrip mt_lstrip (pv 0) (pa_cons pe_str pa_nil)))
      (pss_cons (ps_set (i := 3) scReadLine.nd rfl (Or.inl rfl) (pe_op op_sub (pe_callB call_len (by rfl) T.len PySem.boot_len (pa_cons (pv 0) pa_nil)) (pe_callB call_len (by rfl) T.len PySem.boot_len (pa_cons (pv 2) pa_nil))))
      (pss_cons (ps_if (pt_cmpR op_eq (pv 2) pe_str (nomark _)) (pss_one (ps_ret (pe_tup (pa_cons (pv 3) (pa_cons pe_non (pa_cons (pe_makeO OS.ma OS.hi OS.so OS.kp (by rfl) mS) pa_nil)))))) pss_nil)
      (pss_cons (ps_set (i := 4) scReadLine.nd rfl (Or.inl rfl) (pe_bm PySem.F.plainAttrs_str PySem.F.slot_str_partition PySem.F.type_str_partition mt_partition (pv 2) (pa_cons pe_str pa_nil)))
      (pss_cons (ps_set (i := 5) scReadLine.nd rfl (Or.inl rfl) (pe_ix ix_tup (pv 4) pe_int (fun _ _ => rfl)))
      (pss_cons (ps_if (pt_not (pt_chain op_le op_le pe_int (pe_callB call_len (by rfl) T.len PySem.boot_len (pa_cons (pv 5) pa_nil)) (pe_glob (v := .int 30) (by rfl) m1 ⟨_, rfl⟩))) (pss_one (ps_raise R'.oN (by rfl) R'.mN (pa_cons (pe_fstrR (pv 0) (by decide +kernel)) pa_nil))) pss_nil)
      (pss_cons (ps_if (pt_cmpR op_eq (pe_ix ix_tup (pv 4) pe_int (fun _ _ => rfl)) pe_str (nomark _)) (pss_one (ps_ret (pe_tup (pa_cons (pv 3) (pa_cons pe_non (pa_cons (pe_make MD GD hr2 (by rfl) mD bD .nil pass0 (pa_cons (pv 5) (pa_cons (pe_call G_take_plan hr1 (by rfl) D_take_plan.m D_take_plan.F.kp D_take_plan.b .nil passE (pa_cons (pv 1) (pa_cons (pv 3) pa_nil))) pa_nil))) pa_nil)))))) pss_nil)
      (pss_cons (ps_if (pt_cmpR op_eq (pe_ix ix_tup (pv 4) pe_int (fun _ _ => rfl)) pe_str (nomark _)) (pss_one (ps_ret (pe_tup (pa_cons (pv 3) (pa_cons pe_non (pa_cons (pe_make ML GL hr3 (by rfl) mL bL .nil passE (pa_cons (pv 5) (pa_cons (pe_call G_take_ways hr1 (by rfl) D_take_ways.m D_take_ways.F.kp D_take_ways.b .nil pass0 (pa_cons (pv 1) (pa_cons (pe_op op_add (pv 3) pe_int) pa_nil))) pa_nil))) pa_nil)))))) pss_nil)
      (pss_cons (ps_if (pt_cmpR op_eq (pe_ix ix_tup (pv 4) pe_int (fun _ _ => rfl)) pe_str (nomark _)) (pss_one (ps_ret (pe_tup (pa_cons (pv 3) (pa_cons (pv 5) (pa_cons (pe_call G_take_plan hr1 (by rfl) D_take_plan.m D_take_plan.F.kp D_take_plan.b .nil passE (pa_cons (pv 1) (pa_cons (pe_op op_add (pv 3) pe_int) pa_nil))) pa_nil)))))) pss_nil)
      (pss_one (ps_raise R'.oN (by rfl) R'.mN (pa_cons (pe_fstrR (pv 0) (by decide +kernel)) pa_nil)))))))))))), ?_⟩
    refine ⟨_, rfl, rfl, _, _, rfl, rfl, by lia, ?_⟩
    rw [show Txt.lstripChars y (Str.ofString " ") = x from est]
    refine ⟨_, rfl, _, _, rfl, ⟨by lia, rfl⟩, _, rfl, _, _, rfl, ⟨by lia, rfl⟩, _, _, rfl, rfl, ?_⟩
    rw [show (y.length : Int) - (x.length : Int) = (k : Int) by lia]
    refine ⟨_, rfl, rfl, _, rfl, ?_⟩
    refine ite2 (fun z => ?_) (fun _ => ?_)
    · have ex : x = tStop := V.str.inj (of_decide_eq_true z)
      refine ⟨_, rfl, fun o dx ho hdx dn => ?_⟩
      have s1 : Same H (upd (upd H dx (.own o)) o (.ins C.s dx [])) := (Same.new hdx).trans (Same.new (by rw [upd_ne dn.symm]; exact ho))
      have e1 : (upd (upd H dx (.own o)) o (.ins C.s dx [])) o = some (.ins C.s dx []) := upd_same
      generalize (upd (upd H dx (.own o)) o (.ins C.s dx [])) = H1 at s1 e1 ⊢
      refine ⟨by show 3 ≤ sizeLine; lia, fun t ht => ?_⟩
      have s2 := Same.new (o := .tup [V.int (k : Int), .non, .ref o]) ht
      have s02 := s1.trans s2
      exact q t (.ref o) us (k, none, .stop) S (k, .stop) _ (fun c u e _ => s02 _ _ e) (s02 _ _ hm) (me.same s02) upd_same ⟨o, dx, rfl, s2 _ _ e1⟩ ⟨trivial, fun a z => by cases z⟩ mo (Nat.le_refl _) (by rw [ey, ex]; rfl) rfl
    try unfold tNext
    dsimp only
    obtain ⟨wd, sp, n, ept, hn⟩ := pt_any x
    have hnl : n.length ≤ 300 := by
      rcases hn with h | h
      · lia
      · have := congrArg Str.length h
        rw [sz_app, sz_app] at this
        lia
    refine ⟨_, rfl, rfl, _, _, rfl, rfl, by decide +kernel, by lia, fun pw hpw => ?_⟩
    rw [show Txt.partition x (Str.ofString " ") = (wd, sp, n) from ept]
    dsimp only
    have s1 : Same H (upd H pw (.tup [.str wd, .str sp, .str n])) := Same.new hpw
    have e1 : (upd H pw (.tup [.str wd, .str sp, .str n])) pw = some (.tup [.str wd, .str sp, .str n]) := upd_same
    generalize (upd H pw (.tup [.str wd, .str sp, .str n])) = H1 at s1 e1 ⊢
    have a0 : atI [V.str wd, .str sp, .str n] ((0 : Nat) : Int) = some (.str wd) := atI_nat rfl
    have a2 : atI [V.str wd, .str sp, .str n] ((2 : Nat) : Int) = some (.str n) := atI_nat rfl
    have fin : ∀ b, H1 b = none → E (.ref b) (some NN) H1 := fun b hb => out b H1 (fun c u e _ => s1 _ _ e) hb
    refine ⟨_, rfl, pw, _, _, _, rfl, rfl, SqT.of e1, a2, ?_⟩
    refine ⟨_, rfl, _, _, rfl, ⟨by lia, rfl⟩, _, _, rfl, rfl, _, rfl, ?_⟩
    refine ite2 (fun h1 => ?_) (fun h1 => ?_)
    rotate_left
    · refine ⟨_, rfl, ?_⟩
      refine iteT ?_
      exact ⟨_, rfl, y, rfl, rp, by show 1 ≤ 1000; decide, fin⟩
    have h1' : (1 : Int) ≤ (n.length : Int) := of_decide_eq_true h1
    refine ⟨_, _, rfl, rfl, _, rfl, ?_⟩
    by_cases h30 : n.length ≤ 30
    rotate_left
    · rw [decide_eq_false (show ¬ (n.length : Int) ≤ 30 by lia)]
      refine iteT ?_
      exact ⟨_, rfl, y, rfl, rp, by show 1 ≤ 1000; decide, fin⟩
    rw [decide_eq_true (show (n.length : Int) ≤ 30 by lia)]
    refine iteF ?_
    try unfold tNext
    dsimp only
    have ex : x = wd ++ (tSp ++ n) := hn.resolve_left (by lia)
    have lb : Lb n := ⟨by lia, h30, fun c hc => sm c (by rw [ey, ex, cs_app, cs_app, cs_app]; exact List.mem_append_right _ (List.mem_append_right _ (List.mem_append_right _ hc)))⟩
    refine ⟨_, rfl, pw, _, _, _, rfl, rfl, SqT.of e1, a0, rfl, _, rfl, ?_⟩
    refine ite2 (fun z => ?_) (fun _ => ?_)
    · have ew : wd = tD := V.str.inj (of_decide_eq_true z)
      refine ⟨_, rfl, _, rfl, _, rfl, _, rfl, m, us, k, S, rfl, s1 _ _ hm, me.same s1, by lia, mo, fun b H' kc hb => out b H' (fun c u e hc => kc c u (s1 _ _ e) hc) hb, fun p R v us' H2 eS kc hm2 me2 pl2 => ?_⟩
      intro o dx ho hdx dn
      have s3 : Same H2 (upd (upd H2 dx (.own o)) o (.ins C.d dx [])) := (Same.new hdx).trans (Same.new (by rw [upd_ne dn.symm]; exact ho))
      have e3 : (upd (upd H2 dx (.own o)) o (.ins C.d dx [])) o = some (.ins C.d dx []) := upd_same
      generalize (upd (upd H2 dx (.own o)) o (.ins C.d dx [])) = H3 at s3 e3 ⊢
      refine ⟨o, dx, n, v, rfl, e3, fun H4 k4 e4 => ⟨rfl, ?_⟩⟩
      have s24 : Same H2 H4 := fun c u e => k4 c u (s3 _ _ e) (ne_of_none e ho)
      refine ⟨by show 3 ≤ sizeLine; lia, fun t ht => ?_⟩
      have s5 := Same.new (o := .tup [V.int (k : Int), .non, .ref o]) ht
      have s25 := s24.trans s5
      subst eS
      exact q t (.ref o) us' (k, none, .dd n p) R (k, .dd n) _ (fun c u e hc => s25 _ _ (kc c u (s1 _ _ e) hc)) (s25 _ _ hm2) (me2.same s25) upd_same ⟨o, dx, v, rfl, s5 _ _ e4, pl2.same s25⟩ ⟨⟨lb, (mo _ List.mem_cons_self).1⟩, fun a z => by cases z⟩ (fun e he => mo e (List.mem_cons_of_mem _ he)) (Nat.le_succ _) (by rw [ey, ex, ew, ← tx_do]; rfl) rfl
    try unfold tNext
    dsimp only
    refine ⟨_, rfl, pw, _, _, _, rfl, rfl, SqT.of e1, a0, rfl, _, rfl, ?_⟩
    refine ite2 (fun z => ?_) (fun _ => ?_)
    · have ew : wd = tL := V.str.inj (of_decide_eq_true z)
      obtain ⟨t1', t2', t3'⟩ := takW_mo (k + 1) S mo
      have t4' := takW_rn k S
      refine ⟨_, rfl, _, rfl, _, rfl, _, rfl, _, _, rfl, rfl, m, us, k + 1, S, rfl, s1 _ _ hm, me.same s1, by lia, fun r ws' us' H2 kc hr hr2 hm2 me2 pl2 => ?_⟩
      have hw := takW_isW (k + 1) S
      intro o dx ho hdx dn
      have s3 : Same H2 (upd (upd H2 dx (.own o)) o (.ins C.l dx [])) := (Same.new hdx).trans (Same.new (by rw [upd_ne dn.symm]; exact ho))
      have e3 : (upd (upd H2 dx (.own o)) o (.ins C.l dx [])) o = some (.ins C.l dx []) := upd_same
      generalize (upd (upd H2 dx (.own o)) o (.ins C.l dx [])) = H3 at s3 e3 ⊢
      refine ⟨o, dx, r, n, ws', anP (takW (k + 1) S).1, rfl, e3, s3 _ _ hr2, (pl2.same s3).wy hw, by lia, fun b H' s' hb => out b H' (fun c u e hc => s' _ _ (s3 _ _ (kc c u (s1 _ _ e) hc))) hb, fun tw H4 k4 e4 etw ne nd => ⟨rfl, ?_⟩⟩
      have s24 : Same H2 H4 := fun c u e => k4 c u (s3 _ _ e) (ne_of_none e ho)
      refine ⟨by show 3 ≤ sizeLine; lia, fun t ht => ?_⟩
      have s5 := Same.new (o := .tup [V.int (k : Int), .non, .ref o]) ht
      have s25 := s24.trans s5
      refine q t (.ref o) us' (k, none, .lk n (takW (k + 1) S).1) (takW (k + 1) S).2 (k, .lk n) _ (fun c u e hc => s25 _ _ (kc c u (s1 _ _ e) hc)) (s25 _ _ hm2) (me2.same s25) upd_same ⟨o, dx, tw, ws', rfl, s5 _ _ e4, s5 _ _ etw, pl2.same s25⟩ ⟨⟨lb, fun z => ne (by rw [z]; rfl), ⟨nd, by lia⟩, t1'⟩, fun a z => by cases z⟩ t2' (by lia) (by rw [ey, ex, ew, ← tx_lk]; rfl) ?_
      rw [t4']
      rfl
    try unfold tNext
    dsimp only
    refine ⟨_, rfl, pw, _, _, _, rfl, rfl, SqT.of e1, a0, rfl, _, rfl, ?_⟩
    refine ite2 (fun z => ?_) (fun _ => ?_)
    · have ew : wd = tCa := V.str.inj (of_decide_eq_true z)
      refine ⟨_, rfl, _, rfl, _, rfl, _, rfl, _, _, rfl, rfl, m, us, k + 1, S, rfl, s1 _ _ hm, me.same s1, by lia, mo, fun b H' kc hb => out b H' (fun c u e hc => kc c u (s1 _ _ e) hc) hb, fun p R v us' H2 eS kc hm2 me2 pl2 => ?_⟩
      refine ⟨by show 3 ≤ sizeLine; lia, fun t ht => ?_⟩
      have s3 := Same.new (o := .tup [V.int (k : Int), .str n, v]) ht
      subst eS
      exact q t v us' (k, some n, p) R (k, .case n) _ (fun c u e hc => s3 _ _ (kc c u (s1 _ _ e) hc)) (s3 _ _ hm2) (me2.same s3) upd_same (pl2.same s3) ⟨(mo _ List.mem_cons_self).1, fun a z => by cases z; exact lb⟩ (fun e he => mo e (List.mem_cons_of_mem _ he)) (Nat.le_succ _) (by rw [ey, ex, ew, ← tx_ca]; rfl) rfl
    try unfold tNext
    dsimp only
    exact ⟨_, rfl, y, rfl, rp, by show 1 ≤ 1000; decide, fin⟩
theorem ok_bplan {f f1 f2 G NN : Addr} {C : C3} {fd d1 d2 : FuncData} (F : Fun K "read_plan" "read_plan" sReadPlan f fd) (T : Bl mg) (R' : Er K mg G NN) (D_read_line : Df K mg "read_line" sReadLine pReadLine f1 d1) (G_read_line : FnOk P w K mg base (CXe P w) 4 f1 d1 pReadLine (spBLine C NN)) (D_take_plan : Df K mg "take_plan" sTakePlan pTakePlan f2 d2) (G_take_plan : FnOk P w K mg base (CXe P w) 1 f2 d2 pTakePlan (spBTake C NN)) : FnOk P w K mg base (CXe P w) 5 f fd pReadPlan (spBPlan NN) := by
  refine F.okE scReadPlan (fun vs H Q E h => ?_) (fun cdv A outer s H vs Q E hr4 h => ?_)
  · obtain ⟨l, ys, rfl, _⟩ := h
    rfl
  · obtain ⟨l, ys, rfl, hl, yl, ysm, bad, out⟩ := h
    have hr1 : Room 1 _ := hr4.mono (by decide)
    have hsl : sizeLine = 16777216 := sizeLine_eq
    have hml : (ys.map V.str).length = ys.length := List.length_map ..
    refine ⟨_, (pss_cons (ps_set (i := 1) scReadPlan.nd rfl (Or.inl rfl) (pe_lst pa_nil))
      (pss_cons (ps_for PassesOwn.leaving rfl (pi_revL (by rfl) T.reversed bt_rev (pa_cons (pv 0) pa_nil)) (pg_name (i := 2) scReadPlan.nd rfl (Or.inl rfl))
        (pss_one (ps_expr (pe_bm PySem.F.plainAttrs_list PySem.F.slot_list_append PySem.F.type_list_append mt_append (pv 1) (pa_cons (pe_call G_read_line hr4 (by rfl) D_read_line.m D_read_line.F.kp D_read_line.b .nil passE (pa_cons (pv 2) (pa_cons (pv 1) pa_nil))) pa_nil)))))
      (pss_cons (ps_set (i := 3) scReadPlan.nd rfl (Or.inl rfl) (pe_call G_take_plan hr1 (by rfl) D_take_plan.m D_take_plan.F.kp D_take_plan.b .nil passE (pa_cons (pv 1) (pa_cons pe_int pa_nil))))
      (pss_cons (ps_if (pt_cmpR op_gt (pe_callB call_len (by rfl) T.len PySem.boot_len (pa_cons (pv 1) pa_nil)) pe_int (nomark _)) (pss_one (ps_raise R'.oN (by rfl) R'.mN (pa_cons pe_str pa_nil))) pss_nil)
      (pss_one (ps_ret (pv 3))))))), ?_⟩
    refine ⟨by show 0 ≤ sizeLine; lia, fun m hm => ?_⟩
    have s1 : Same H (upd H m (.lst [])) := Same.new hm
    have e1 : (upd H m (.lst [])) m = some (.lst []) := upd_same
    generalize (upd H m (.lst [])) = H1 at s1 e1 ⊢
    refine ⟨_, rfl, l, _, rfl, SqL.of (s1 _ _ hl), ?_⟩
    refine for_listR (K := K) (a := l) (xs := ys.map V.str) (fun i σ H2 => ∃ (v2 v3 : Option V) (S : List Me) (us : List V), σ = [some (.ref l), some (.ref m), v2, v3] ∧ Same H H2 ∧ H2 m = some (.lst us) ∧ MeAt C H2 S us ∧ (∀ e ∈ S, MeOk e) ∧ S.length ≤ i ∧ (rnS S).map rdL = ys.drop (ys.length - i))
      ⟨none, none, [], [], rfl, s1, e1, rfl, (fun _ h => nomatch h), Nat.le_refl _, by rw [Nat.sub_zero, List.drop_length]; rfl⟩ (fun i σ H2 _ hh0 => by obtain ⟨_, _, _, _, _, s2, _⟩ := hh0; exact SqL.of (s2 _ _ hl)) ?_ ?_
    · rintro i x σ H2 hx ⟨v2, v3, S, us, rfl, s2, hm2, me2, mo, li, rn⟩
      have hi := (List.getElem?_eq_some_iff.mp hx).1
      rw [List.length_reverse, hml] at hi
      rw [List.getElem?_reverse (by rw [hml]; exact hi), hml, List.getElem?_map] at hx
      obtain ⟨y, hy, rfl⟩ := Option.map_eq_some_iff.mp hx
      obtain ⟨hi2, ei⟩ := List.getElem?_eq_some_iff.mp hy
      obtain ⟨y1, y2⟩ := ysm y (List.mem_of_getElem? hy)
      have hul := me2.len
      refine ⟨_, rfl, .inl ⟨rfl, _, SqL.of hm2⟩, _, rfl, _, rfl, m, us, y, S, rfl, hm2, me2, by lia, mo, y1, y2, fun b H' kc hb => out b H' (fun c u e => kc c u (s2 _ _ e) (ne_of_none e hm)) hb, fun t' v us' e R tk H3 kc hm3 me3 et pl3 mo3 moR lR ey er => ?_⟩
      have hul3 := me3.len
      refine ⟨m, _, _, rfl, rfl, hm3, by lia, ?_⟩
      have k4 : ∀ c u, H3 c = some u → c ≠ m → (upd H3 m (.lst (us' ++ [.ref t']))) c = some u := fun c u e hc => by rw [upd_ne hc]; exact e
      have nt : t' ≠ m := ne_of et hm3 (by intro z; cases z)
      refine ⟨some (.str y), v3, e :: R, us' ++ [.ref t'], rfl, fun c u z => k4 c u (kc c u (s2 _ _ z) (ne_of_none z hm)) (ne_of_none z hm), upd_same, ⟨t', v, us', rfl, k4 _ _ et nt, pl3.kx k4 hm3, me3.kx k4 hm3⟩, fun e' he => ?_, by show R.length + 1 ≤ i + 1; lia, ?_⟩
      · rcases (List.mem_cons.mp he) with z | z
        · rw [z]
          exact mo3
        · exact moR e' z
      · rw [← er, List.map_cons, rn, ← ey, show ys.length - i = ys.length - (i + 1) + 1 by lia, List.drop_eq_getElem_cons (show ys.length - (i + 1) < ys.length by lia)]
        congr 1
        rw [← ei]
        congr 1
        lia
    · rintro σ H2 ⟨v2, v3, S, us, rfl, s2, hm2, me2, mo, li, rn⟩
      rw [hml] at li rn
      rw [Nat.sub_self, List.drop_zero] at rn
      have hul := me2.len
      refine ⟨_, rfl, m, us, 0, S, rfl, hm2, me2, by lia, mo, fun b H' kc hb => out b H' (fun c u e => kc c u (s2 _ _ e) (ne_of_none e hm)) hb, fun p R v us' H3 eS kc hm3 me3 pl3 => ?_⟩
      refine ⟨_, rfl, _, _, rfl, .inl ⟨_, SqL.of hm3, rfl⟩, _, _, rfl, rfl, _, rfl, ?_⟩
      refine ite2 (fun z => ?_) (fun z => ?_)
      · exact ⟨by show 1 ≤ 1000; decide, fun b hb => out b H3 (fun c u e => kc c u (s2 _ _ e) (ne_of_none e hm)) hb⟩
      exfalso
      have hu3 := me3.len
      have hR : R = [] := by
        cases R with
        | nil => rfl
        | cons e R => exact absurd (decide_eq_true (by rw [hu3]; show (0 : Int) < ((R.length + 1 : Nat) : Int); lia)) z
      subst hR
      subst eS
      refine bad p (mo _ List.mem_cons_self).1 ?_
      rw [← tk_lns0, ← rn]
      show (tkP p 0 ++ []).map rdL = _
      rw [List.append_nil]
theorem FnOk.or {CX : CXT} {k : Nat} {f : Addr} {fd : FuncData} {ps : List Str} {sp1 sp2 : Sp} (F1 : FnOk P w K mg base CX k f fd ps sp1) (F2 : FnOk P w K mg base CX k f fd ps sp2) : FnOk P w K mg base CX k f fd ps (fun vs H Q E => sp1 vs H Q E ∨ sp2 vs H Q E) :=
  ⟨fun vs H Q E h => h.elim (F1.len vs H Q E) (F2.len vs H Q E), fun A outer s H args us vs Q E hr he hb hv h => h.elim (F1.run A outer s H args us vs Q E hr he hb hv) (F2.run A outer s H args us vs Q E hr he hb hv)⟩
theorem FnOk.up {CX : CXT} {k : Nat} {f : Addr} {fd : FuncData} {ps : List Str} {sp : Sp} (F : FnOk P w K mg base CX0 k f fd ps sp) : FnOk P w K mg base CX k f fd ps sp :=
  ⟨F.len, fun A outer s H args us vs Q E hr he hb hv h => codeAny_mono (F.run A outer s H args us vs Q E hr he hb hv h) fun r s' z => by
    cases r with
    | ok u => cases u <;> exact z
    | error e => exact z.elim⟩
noncomputable def spPlanAny (C : C3) (NN : Addr) : Sp := fun vs H Q E => spReadPlan C vs H Q E ∨ spBPlan NN vs H Q E
inductive spUnread (vs : List V) (H : Hp) (Q : VK) (E0_ : XK) : Prop
  | mk (l : Addr) (ys : List Str) (c0 : vs = [.ref l]) (c1 : H l = some (.lst (ys.map V.str))) (c2 : ys.length ≤ 1000) (c3 : (∀ y ∈ ys, Sm y ∧ y.length ≤ 300)) (c4 : ((Bad ys ∧ ∀ H' : Hp, Same H H' → Q (.bl true) H') ∨ (∃ t, okP true t ∧ ys = lnsP t ∧ htP t ≤ 50 ∧ ∀ H' : Hp, Same H H' → Q (.bl false) H'))) : spUnread  vs H Q E0_
inductive spUnmade (vs : List V) (H : Hp) (Q : VK) (E0_ : XK) : Prop
  | mk (l : Str) (u : Addr) (us : List V) (as : List Str) (c0 : vs = [.str l, .ref u]) (c1 : H u = some (.lst us)) (c2 : WyAt H us as) (c3 : as.length ≤ 1000) (c4 : (as = [] ∨ ¬ as.Nodup)) (c5 : ∀ H' : Hp, Same H H' → Q (.bl true) H') : spUnmade  vs H Q E0_
noncomputable def hasB : Pn → Bool
  | .lk _ _ => true
  | .dd _ r => hasB r
  | _ => false
noncomputable def snoW : Pn → Str → Pn → Pn
  | .way a p r, b, q => .way a p (snoW r b q)
  | _, b, q => .way b q .nil
theorem sno_an : ∀ (ws : Pn) (b : Str) (q : Pn), okP false ws → anP (snoW ws b q) = anP ws ++ [b]
  | .nil, _, _, _ => rfl
  | .way a p r, b, q, h => congrArg (a :: ·) (sno_an r b q h.2.2)
  | .stop, _, _, h => h.elim
  | .dd _ _, _, _, h => h.elim
  | .lk _ _, _, _, h => h.elim
theorem sno_ok : ∀ {ws : Pn} {b : Str} {q : Pn}, okP false ws → Lb b → okW true q → okW false (snoW ws b q)
  | .nil, _, _, _, hb, hq => ⟨hb, hq, trivial⟩
  | .way a p r, _, _, h, hb, hq => ⟨h.1, h.2.1.wk, sno_ok h.2.2 hb hq⟩
  | .stop, _, _, h, _, _ => h.elim
  | .dd _ _, _, _, h, _, _ => h.elim
  | .lk _ _, _, _, h, _, _ => h.elim
theorem sno_ht : ∀ (ws : Pn) (b : Str), okP false ws → htP (snoW ws b .stop) ≤ htP ws + 1
  | .nil, _, _ => Nat.le_refl _
  | .way a p r, b, h => by
    have h1 := sno_ht r b h.2.2
    show max (htP p) (htP (snoW r b .stop)) ≤ max (htP p) (htP r) + 1
    lia
  | .stop, _, h => h.elim
  | .dd _ _, _, h => h.elim
  | .lk _ _, _, h => h.elim
theorem sno_wt : ∀ (ws : Pn) (b : Str), okP false ws → wtP (snoW ws b .stop) = wtP ws + 2
  | .nil, _, _ => rfl
  | .way a p r, b, h => by
    have h1 := sno_wt r b h.2.2
    show wtP p + wtP (snoW r b .stop) + 1 = wtP p + wtP r + 1 + 2
    lia
  | .stop, _, h => h.elim
  | .dd _ _, _, h => h.elim
  | .lk _ _, _, h => h.elim
theorem TrAt.sno {H : Hp} {t : Addr} {b : Str} {v : V} {q : Pn} (h1 : H t = some (.tup [.str b, v])) (h2 : TrAt H q [v]) : ∀ {ws : Pn} {us : List V}, okP false ws → TrAt H ws us → TrAt H (snoW ws b q) (us ++ [.ref t])
  | .nil, us, _, e => by
    rw [show us = [] from e]
    exact ⟨t, v, [], rfl, h1, h2, rfl⟩
  | .way a p r, us, h, ⟨t', v', us', e, z1, z2, z3⟩ => by
    rw [e]
    exact ⟨t', v', us' ++ [.ref t], rfl, z1, z2, TrAt.sno h1 h2 h.2.2 z3⟩
theorem PnLen.tr {H : Hp} : ∀ {ws : Pn} {us : List V}, TrAt H ws us → okP false ws → us.length = (anP ws).length
  | .nil, us, e, _ => by
    rw [show us = [] from e]
    rfl
  | .way a p r, us, ⟨_, _, us', e, _, _, h⟩, ok => by
    rw [e]
    exact congrArg (· + 1) (PnLen.tr h ok.2.2)
  | .stop, _, _, h => h.elim
  | .dd _ _, _, _, h => h.elim
  | .lk _ _, _, _, h => h.elim
inductive spBent (n : Nat) (vs : List V) (H : Hp) (Q : VK) (E0_ : XK) : Prop
  | mk (v : V) (t : Pn) (d : Bool) (c0 : vs = [v, .bl d]) (c1 : TrAt H t [v]) (c2 : okP true t) (c3 : hasB t = true) (c4 : htP t ≤ n) (c5 : ∀ (v' : V) (b : Pn) (H' : Hp), Same H H' → TrAt H' b [v'] → okW true b → ¬ okP true b → htP b ≤ htP t + 1 → wtP b ≤ wtP t + 2 → Q v' H') : spBent n vs H Q E0_
inductive spHas (n : Nat) (vs : List V) (H : Hp) (Q : VK) (E0_ : XK) : Prop
  | mk (v : V) (t : Pn) (c0 : vs = [v]) (c1 : TrAt H t [v]) (c2 : okP true t) (c3 : htP t ≤ n) (c4 : Q (.bl (hasB t)) H) : spHas n vs H Q E0_
inductive spWith (vs : List V) (H : Hp) (Q : VK) (E0_ : XK) : Prop
  | mk (l : Addr) (ys : List Str) (i : Nat) (z : Str) (c0 : vs = [.ref l, .int (i : Int), .str z]) (c1 : H l = some (.lst (ys.map V.str))) (c2 : ys.length ≤ 1000) (c3 : i < ys.length) (c4 : ∀ (r : Addr) (H' : Hp), Same H H' → H' r = some (.lst ((ys.take i ++ [z] ++ ys.drop (i + 1)).map V.str)) → Q (.ref r) H') : spWith  vs H Q E0_
theorem cutN (xs : List V) (k : Nat) : cutV xs none (some (k : Int)) = xs.take k := by
  unfold cutV
  rw [HT.sIx_none, HT.sIx_nat, List.drop_zero, Nat.sub_zero]
  rcases Nat.le_total k xs.length with h | h
  · rw [Nat.min_eq_left h]
  · rw [Nat.min_eq_right h, List.take_length, List.take_of_length_le h]
theorem cutD (xs : List V) (k : Nat) (h : k ≤ xs.length) : cutV xs (some (k : Int)) none = xs.drop k := by
  unfold cutV
  rw [HT.sIx_nat, HT.sIx_none, Nat.min_eq_left h]
  exact List.take_of_length_le (by rw [List.length_drop]; exact Nat.le_refl _)
theorem cutM (xs : List V) : cutV xs none (some (-1)) = xs.take (xs.length - 1) := by
  unfold cutV
  rw [HT.sIx_none, List.drop_zero, Nat.sub_zero]
  have h : HT.sIx xs.length xs.length (some (-1)) = xs.length - 1 := by
    unfold HT.sIx
    simp
    lia
  rw [h]
noncomputable abbrev pLUnread : List Str := ["_law_lines_here"]
noncomputable abbrev nLUnread : List Str := ["_law_lines_here", "_law_handed", "_law_refused"]
theorem scLUnread : FnScope nLUnread pLUnread (defScope sLUnread) := ⟨rfl, rfl, rfl, by decide +kernel, rfl, by decide +kernel, by decide +kernel⟩
noncomputable abbrev pLUnmade : List Str := ["_law_look", "_law_ways"]
noncomputable abbrev nLUnmade : List Str := ["_law_look", "_law_ways", "_law_refused"]
theorem scLUnmade : FnScope nLUnmade pLUnmade (defScope sLUnmade) := ⟨rfl, rfl, rfl, by decide +kernel, rfl, by decide +kernel, by decide +kernel⟩
noncomputable abbrev pLBent : List Str := ["_law_tree_here", "_law_doubled"]
noncomputable abbrev nLBent : List Str := ["_law_tree_here", "_law_doubled"]
theorem scLBent : FnScope nLBent pLBent (defScope sLBent) := ⟨rfl, rfl, rfl, by decide +kernel, rfl, by decide +kernel, by decide +kernel⟩
noncomputable abbrev pLHasLook : List Str := ["_law_tree_here"]
noncomputable abbrev nLHasLook : List Str := ["_law_tree_here"]
theorem scLHasLook : FnScope nLHasLook pLHasLook (defScope sLHasLook) := ⟨rfl, rfl, rfl, by decide +kernel, rfl, by decide +kernel, by decide +kernel⟩
noncomputable abbrev pLWith : List Str := ["_law_lines_here", "_law_at", "_law_line"]
noncomputable abbrev nLWith : List Str := ["_law_lines_here", "_law_at", "_law_line"]
theorem scLWith : FnScope nLWith pLWith (defScope sLWith) := ⟨rfl, rfl, rfl, by decide +kernel, rfl, by decide +kernel, by decide +kernel⟩
theorem ok_unread {f f1 G NN : Addr} {C : C3} {fd d1 : FuncData} (F : Fun K "_law_unread" "_law_unread" sLUnread f fd) (T : Bl mg) (R' : Er K mg G NN) (D_read_plan : Df K mg "read_plan" sReadPlan pReadPlan f1 d1) (G_read_plan : FnOk P w K mg base (CXe P w) 5 f1 d1 pReadPlan (spPlanAny C NN)) : FnOk P w K mg base CX0 6 f fd pLUnread spUnread := by
  refine F.ok scLUnread (fun vs H Q E h => ?_) (fun cdv A outer s H vs Q E hr5 h => ?_)
  · obtain ⟨l, ys, rfl, _⟩ := h
    rfl
  · obtain ⟨l, ys, rfl, hl, yl, ysm, q⟩ := h
    have hun := hr5.units
    have sh := shP fun y hy => (ysm y hy).1.ok
    refine ⟨_, (pss_cons (ps_set (i := 1) scLUnread.nd rfl (Or.inl rfl) (pe_callTy call_list_of (by rfl) T.list bt_list (pa_cons (pv 0) pa_nil)))
      (pss_cons (ps_set (i := 2) scLUnread.nd rfl (Or.inl rfl) pe_bl)
      (pss_cons (ps_tryC (G := NN) (nG := "ValueError.__new__") rfl rfl rfl R'.oN (by rfl) R'.mN G_read_plan hr5 (by rfl) D_read_plan.m D_read_plan.F.kp D_read_plan.b (fun pn xe => (pa_cons (pv 1) pa_nil)) (fun a => (pss_one (ps_set (i := 2) scLUnread.nd rfl (Or.inl rfl) pe_bl))))
      (pss_one (ps_ret (pe_and (pv 2) (pe_one (pe_cmpR (op_eqL hun) (pv 1) (pv 0) (nomark _))))))))), ?_⟩
    refine ⟨_, rfl, l, _, rfl, .inl (SqL.of hl), fun hd hhd => ?_⟩
    have s1 : Same H (upd H hd (.lst (ys.map V.str))) := Same.new hhd
    have e1 : (upd H hd (.lst (ys.map V.str))) hd = some (.lst (ys.map V.str)) := upd_same
    generalize (upd H hd (.lst (ys.map V.str))) = H1 at s1 e1 ⊢
    rcases q with ⟨bad, q⟩ | ⟨t, ok, rfl, ht, q⟩
    · refine ⟨_, rfl, .inr ⟨hd, ys, rfl, e1, yl, ysm, bad, fun b H2 s2 hb => ⟨b, rfl, rfl, fun _ => ?_⟩⟩⟩
      have s02 := s1.trans s2
      refine ⟨_, rfl, _, rfl, ?_⟩
      refine iteT ?_
      refine ⟨_, rfl, _, rfl, hd, l, ys, ys, rfl, rfl, s2 _ _ e1, s02 _ _ hl, sh, sh, ?_⟩
      rw [eqv_refl _ (canLay_of_shaped sh)]
      exact q H2 s02
    · have hlw := lns_len t
      refine ⟨_, rfl, .inl ⟨hd, t, rfl, e1, ok, by lia, ht, fun v H2 s2 _ => ?_⟩⟩
      refine ⟨_, rfl, _, rfl, ?_⟩
      refine iteF ?_
      exact q H2 (s1.trans s2)
theorem ok_unmade {f fL G NN : Addr} {C : C3} {fd dL : FuncData} (F : Fun K "_law_unmade" "_law_unmade" sLUnmade f fd) (R' : Er K mg G NN) (ML : L2.Mk K C.l fL) (mL : mg "Look" = some (.ref C.l)) (bL : Binds K dL ["self", "look", "ways"] []) (GL : FnOk P w K mg base (CXe P w) 2 fL dL pLookInit (spBLkInit C.l NN)) : FnOk P w K mg base CX0 4 f fd pLUnmade spUnmade := by
  refine F.ok scLUnmade (fun vs H Q E h => ?_) (fun cdv A outer s H vs Q E hr3 h => ?_)
  · obtain ⟨l, u, us, as, rfl, _⟩ := h
    rfl
  · obtain ⟨l, u, us, as, rfl, hu, wy, al, bad, q⟩ := h
    refine ⟨_, (pss_cons (ps_set (i := 2) scLUnmade.nd rfl (Or.inl rfl) pe_bl)
      (pss_cons (ps_tryN (G := NN) (nG := "ValueError.__new__") rfl rfl rfl R'.oN (by rfl) R'.mN (fun pn xe E' hx => (pss_one (ps_expr (pe_make ML GL hr3 (by rfl) mL bL .nil hx (pa_cons (pv 0) (pa_cons (pv 1) pa_nil)))))) (fun a => (pss_one (ps_set (i := 2) scLUnmade.nd rfl (Or.inl rfl) pe_bl))))
      (pss_one (ps_ret (pv 2))))), ?_⟩
    refine ⟨_, rfl, _, rfl, fun x dx hx hdx dn => ?_⟩
    have s1 : Same H (upd (upd H dx (.own x)) x (.ins C.l dx [])) := (Same.new hdx).trans (Same.new (by rw [upd_ne dn.symm]; exact hx))
    have e1 : (upd (upd H dx (.own x)) x (.ins C.l dx [])) x = some (.ins C.l dx []) := upd_same
    generalize (upd (upd H dx (.own x)) x (.ins C.l dx [])) = H1 at s1 e1 ⊢
    refine ⟨x, dx, u, l, us, as, rfl, e1, s1 _ _ hu, wy.same s1, al, fun b H2 s2 hb => ⟨b, rfl, rfl, fun _ => ?_⟩, fun tw H2 _ _ _ ne nd => ?_⟩
    · exact ⟨_, rfl, q H2 (s1.trans s2)⟩
    · rcases bad with z | z
      · exact absurd z ne
      · exact absurd nd z
theorem ok_bent {f : Addr} {fd : FuncData} (F : Fun K "_law_bent" "_law_bent" sLBent f fd) (D_l_bent : Df K mg "_law_bent" sLBent pLBent f fd) : ∀ n : Nat, FnOk P w K mg base CX0 (1 + n) f fd pLBent (spBent n)
  | 0 => fn_none fun vs H Q E h => by
    obtain ⟨v, t, d, _, _, ok, _, h0, _⟩ := h
    have := ht_pos ok.wk
    lia
  | n + 1 => by
    have G_l_bent := ok_bent F D_l_bent n
    refine F.ok (k := 1 + n) scLBent (fun vs H Q E h => ?_) (fun cdv A outer s H vs Q E hrB h => ?_)
    · obtain ⟨v, t, d, rfl, _⟩ := h
      rfl
    · obtain ⟨v, t, d, rfl, tr, ok, hb, hn, q⟩ := h
      have hsl : sizeLine = 16777216 := sizeLine_eq
      refine ⟨_, (pss_cons (ps_if (pt_cmpR op_eq (pe_ix ix_tup (pv 0) pe_int (fun _ _ => rfl)) pe_str (nomark _)) (pss_one (ps_ret (pe_tup (pa_cons pe_str pa_nil)))) pss_nil)
      (pss_cons (ps_if (pt_cmpR op_eq (pe_ix ix_tup (pv 0) pe_int (fun _ _ => rfl)) pe_str (nomark _)) (pss_one (ps_ret (pe_tup (pa_cons pe_str (pa_cons (pe_ix ix_tup (pv 0) pe_int (fun _ _ => rfl)) (pa_cons (pe_call G_l_bent hrB (by rfl) D_l_bent.m D_l_bent.F.kp D_l_bent.b .nil pass0 (pa_cons (pe_ix ix_tup (pv 0) pe_int (fun _ _ => rfl)) (pa_cons (pv 1) pa_nil))) pa_nil)))))) pss_nil)
      (pss_cons (ps_if (pt_val (pv 1)) (pss_one (ps_ret (pe_tup (pa_cons pe_str (pa_cons (pe_ix ix_tup (pv 0) pe_int (fun _ _ => rfl)) (pa_cons (pe_op op_cat (pe_ix ix_tup (pv 0) pe_int (fun _ _ => rfl)) (pe_lst (pa_cons (pe_tup (pa_cons (pe_ix ix_tup (pe_ix ix_list (pe_ix ix_tup (pv 0) pe_int (fun _ _ => rfl)) pe_int (fun _ _ => rfl)) pe_int (fun _ _ => rfl)) (pa_cons (pe_tup (pa_cons pe_str pa_nil)) pa_nil))) pa_nil))) pa_nil)))))) pss_nil)
      (pss_one (ps_ret (pe_tup (pa_cons pe_str (pa_cons (pe_ix ix_tup (pv 0) pe_int (fun _ _ => rfl)) (pa_cons (pe_lst pa_nil) pa_nil))))))))), ?_⟩
      cases t with
      | nil => exact ok.elim
      | way _ _ _ => exact ok.elim
      | stop => cases hb
      | dd d' r =>
        obtain ⟨a, v', e, h, tr'⟩ := tr
        cases e
        have a0 : atI [V.str (Str.ofString "do"), .str d', v'] ((0 : Nat) : Int) = some (.str (Str.ofString "do")) := atI_nat rfl
        have a1 : atI [V.str (Str.ofString "do"), .str d', v'] ((1 : Nat) : Int) = some (.str d') := atI_nat rfl
        have a2 : atI [V.str (Str.ofString "do"), .str d', v'] ((2 : Nat) : Int) = some v' := atI_nat rfl
        have hh' : htP r + 1 ≤ n + 1 := hn
        refine ⟨_, rfl, a, _, _, _, rfl, rfl, SqT.of h, a0, rfl, _, rfl, ?_⟩
        refine ite2 (fun z => absurd (V.str.inj (of_decide_eq_true z)) (by decide +kernel)) (fun _ => ?_)
        try unfold tNext
        dsimp only
        refine ⟨_, rfl, a, _, _, _, rfl, rfl, SqT.of h, a0, rfl, _, rfl, ?_⟩
        refine ite2 (fun _ => ?_) (fun z => absurd (decide_eq_true rfl) z)
        refine ⟨_, rfl, a, _, _, _, rfl, rfl, SqT.of h, a1, _, rfl, a, _, _, _, rfl, rfl, SqT.of h, a2, _, rfl, v', r, d, rfl, tr', ok.2, hb, by lia, fun w' b H1 s1 tr1 ow no hh hw => ?_⟩
        refine ⟨by show 3 ≤ sizeLine; lia, fun x hx => ?_⟩
        exact q (.ref x) (.dd d' b) _ (s1.trans (Same.new hx)) ⟨x, w', rfl, upd_same, tr1.same (Same.new hx)⟩ ⟨ok.1, ow⟩ (fun z => no z.2) (Nat.succ_le_succ hh) (by show wtP b + 1 ≤ wtP r + 1 + 2; lia)
      | lk l ws =>
        obtain ⟨a, u, us, e, h, hu, tr'⟩ := tr
        cases e
        have a0 : atI [V.str (Str.ofString "look"), .str l, .ref u] ((0 : Nat) : Int) = some (.str (Str.ofString "look")) := atI_nat rfl
        have a1 : atI [V.str (Str.ofString "look"), .str l, .ref u] ((1 : Nat) : Int) = some (.str l) := atI_nat rfl
        have a2 : atI [V.str (Str.ofString "look"), .str l, .ref u] ((2 : Nat) : Int) = some (.ref u) := atI_nat rfl
        refine ⟨_, rfl, a, _, _, _, rfl, rfl, SqT.of h, a0, rfl, _, rfl, ?_⟩
        refine ite2 (fun z => absurd (V.str.inj (of_decide_eq_true z)) (by decide +kernel)) (fun _ => ?_)
        try unfold tNext
        dsimp only
        refine ⟨_, rfl, a, _, _, _, rfl, rfl, SqT.of h, a0, rfl, _, rfl, ?_⟩
        refine ite2 (fun z => absurd (V.str.inj (of_decide_eq_true z)) (by decide +kernel)) (fun _ => ?_)
        try unfold tNext
        dsimp only
        refine ⟨_, rfl, _, rfl, ?_⟩
        cases d with
        | false =>
          refine iteF ?_
          try unfold tNext
          dsimp only
          refine ⟨_, rfl, a, _, _, _, rfl, rfl, SqT.of h, a1, by show 0 ≤ sizeLine; lia, fun g hg => ⟨by show 3 ≤ sizeLine; lia, fun x hx => ?_⟩⟩
          have s1 : Same H (upd H g (.lst [])) := Same.new hg
          have e1 : (upd H g (.lst [])) g = some (.lst []) := upd_same
          generalize (upd H g (.lst [])) = H1 at s1 e1 hx ⊢
          exact q (.ref x) (.lk l .nil) _ (s1.trans (Same.new hx)) ⟨x, g, [], rfl, upd_same, Same.new hx _ _ e1, rfl⟩ ⟨ok.1, trivial⟩ (fun z => z.2.1 rfl) (by show 0 + 1 ≤ _; lia) (by show 0 + 1 ≤ wtP ws + 1 + 2; lia)
        | true =>
          refine iteT ?_
          cases ws with
          | nil => exact absurd rfl ok.2.1
          | stop => exact ok.2.2.2.elim
          | dd _ _ => exact ok.2.2.2.elim
          | lk _ _ => exact ok.2.2.2.elim
          | way a' p' r' =>
            obtain ⟨t', v', us', rfl, ht', pl', tr2⟩ := id tr'
            have i0 : atI (V.ref t' :: us') ((0 : Nat) : Int) = some (.ref t') := atI_nat rfl
            have b0 : atI [V.str a', v'] ((0 : Nat) : Int) = some (.str a') := atI_nat rfl
            refine ⟨_, rfl, a, _, _, _, rfl, rfl, SqT.of h, a1, _, rfl, a, _, _, _, rfl, rfl, SqT.of h, a2, _, rfl, a, _, _, _, rfl, rfl, SqT.of h, a2, u, _, _, _, rfl, rfl, SqL.of hu, i0, t', _, _, _, rfl, rfl, SqT.of ht', b0, by show 1 ≤ sizeLine; lia, fun x1 hx1 => ⟨by show 2 ≤ sizeLine; lia, fun x2 hx2 => ⟨by show 1 ≤ sizeLine; lia, fun x3 hx3 => ?_⟩⟩⟩
            have s1 : Same H (upd H x1 (.tup [.str tStop])) := Same.new hx1
            have e1 : (upd H x1 (.tup [.str tStop])) x1 = some (.tup [.str tStop]) := upd_same
            generalize (upd H x1 (.tup [.str tStop])) = H1 at s1 e1 hx2 hx3 ⊢
            have s2 : Same H1 (upd H1 x2 (.tup [.str a', .ref x1])) := Same.new hx2
            have e2 : (upd H1 x2 (.tup [.str a', .ref x1])) x2 = some (.tup [.str a', .ref x1]) := upd_same
            generalize (upd H1 x2 (.tup [.str a', .ref x1])) = H2 at s2 e2 hx3 ⊢
            have s3 : Same H2 (upd H2 x3 (.lst [.ref x2])) := Same.new hx3
            have e3 : (upd H2 x3 (.lst [.ref x2])) x3 = some (.lst [.ref x2]) := upd_same
            generalize (upd H2 x3 (.lst [.ref x2])) = H3 at s3 e3 ⊢
            have s03 := (s1.trans s2).trans s3
            have hlu : us'.length ≤ 1000 := by
              have h9 := (PnLen.tr tr2 ok.2.2.2.2.2)
              have h8 : (anP r').length + 1 ≤ 1000 := ok.2.2.1.2
              lia
            refine ⟨u, x3, _, _, rfl, rfl, s03 _ _ hu, e3, by show us'.length + 1 + 1 ≤ _; lia, fun g hg => ⟨by show 3 ≤ sizeLine; lia, fun x hx => ?_⟩⟩
            have s4 : Same H3 (upd H3 g (.lst (V.ref t' :: us' ++ [.ref x2]))) := Same.new hg
            have e4 : (upd H3 g (.lst (V.ref t' :: us' ++ [.ref x2]))) g = some (.lst (V.ref t' :: us' ++ [.ref x2])) := upd_same
            generalize (upd H3 g (.lst (V.ref t' :: us' ++ [.ref x2]))) = H4 at s4 e4 hx ⊢
            have s5 : Same H4 (upd H4 x (.tup [.str (Str.ofString "look"), .str l, .ref g])) := Same.new hx
            have s35 := s4.trans s5
            have s05 := s03.trans s35
            have okw : okP false (.way a' p' r') := ok.2.2.2
            refine q (.ref x) (.lk l (snoW (.way a' p' r') a' .stop)) _ s05 ⟨x, g, _, rfl, upd_same, s5 _ _ e4, TrAt.sno (q := .stop) (s35 _ _ (s3 _ _ e2)) ⟨x1, rfl, s35 _ _ (s3 _ _ (s2 _ _ e1))⟩ okw (tr'.same s05)⟩ ⟨ok.1, sno_ok okw okw.1 trivial⟩ (fun z => ?_) (Nat.succ_le_succ (sno_ht _ _ okw)) (by show wtP (snoW (.way a' p' r') a' .stop) + 1 ≤ wtP (.way a' p' r') + 1 + 2; rw [sno_wt _ _ okw]; lia)
            have h9 := z.2.2.1.1
            rw [sno_an _ _ _ okw] at h9
            exact (List.nodup_append.mp h9).2.2 a' List.mem_cons_self a' (List.mem_singleton.mpr rfl) rfl
theorem ok_has {f : Addr} {fd : FuncData} (F : Fun K "_law_has_look" "_law_has_look" sLHasLook f fd) (D_l_has_look : Df K mg "_law_has_look" sLHasLook pLHasLook f fd) : ∀ n : Nat, FnOk P w K mg base CX0 (1 + n) f fd pLHasLook (spHas n)
  | 0 => fn_none fun vs H Q E h => by
    obtain ⟨v, t, _, _, ok, h0, _⟩ := h
    have := ht_pos ok.wk
    lia
  | n + 1 => by
    have G_l_has_look := ok_has F D_l_has_look n
    refine F.ok (k := 1 + n) scLHasLook (fun vs H Q E h => ?_) (fun cdv A outer s H vs Q E hrH h => ?_)
    · obtain ⟨v, t, rfl, _⟩ := h
      rfl
    · obtain ⟨v, t, rfl, tr, ok, hn, q⟩ := h
      refine ⟨_, (pss_one (ps_ret (pe_or (pe_cmpR op_eq (pe_ix ix_tup (pv 0) pe_int (fun _ _ => rfl)) pe_str (nomark _)) (pe_one (pe_and (pe_cmpR op_eq (pe_ix ix_tup (pv 0) pe_int (fun _ _ => rfl)) pe_str (nomark _)) (pe_one (pe_call G_l_has_look hrH (by rfl) D_l_has_look.m D_l_has_look.F.kp D_l_has_look.b .nil pass0 (pa_cons (pe_ix ix_tup (pv 0) pe_int (fun _ _ => rfl)) pa_nil)))))))), ?_⟩
      cases t with
      | nil => exact ok.elim
      | way _ _ _ => exact ok.elim
      | stop =>
        obtain ⟨a, e, h⟩ := tr
        cases e
        have a0 : atI [V.str tStop] ((0 : Nat) : Int) = some (.str tStop) := atI_nat rfl
        refine ⟨_, rfl, a, _, _, _, rfl, rfl, SqT.of h, a0, rfl, _, rfl, ?_⟩
        refine ite2 (fun z => absurd (V.str.inj (of_decide_eq_true z)) (by decide +kernel)) (fun _ => ?_)
        refine ⟨_, rfl, a, _, _, _, rfl, rfl, SqT.of h, a0, rfl, _, rfl, ?_⟩
        refine ite2 (fun z => absurd (V.str.inj (of_decide_eq_true z)) (by decide +kernel)) (fun _ => ?_)
        exact q
      | dd d r =>
        obtain ⟨a, v', e, h, tr'⟩ := tr
        cases e
        have a0 : atI [V.str (Str.ofString "do"), .str d, v'] ((0 : Nat) : Int) = some (.str (Str.ofString "do")) := atI_nat rfl
        have a2 : atI [V.str (Str.ofString "do"), .str d, v'] ((2 : Nat) : Int) = some v' := atI_nat rfl
        have hh' : htP r + 1 ≤ n + 1 := hn
        refine ⟨_, rfl, a, _, _, _, rfl, rfl, SqT.of h, a0, rfl, _, rfl, ?_⟩
        refine ite2 (fun z => absurd (V.str.inj (of_decide_eq_true z)) (by decide +kernel)) (fun _ => ?_)
        refine ⟨_, rfl, a, _, _, _, rfl, rfl, SqT.of h, a0, rfl, _, rfl, ?_⟩
        refine ite2 (fun _ => ?_) (fun z => absurd (decide_eq_true rfl) z)
        exact ⟨_, rfl, a, _, _, _, rfl, rfl, SqT.of h, a2, v', r, rfl, tr', ok.2, by lia, q⟩
      | lk l ws =>
        obtain ⟨a, u, us, e, h, hu, tr'⟩ := tr
        cases e
        have a0 : atI [V.str (Str.ofString "look"), .str l, .ref u] ((0 : Nat) : Int) = some (.str (Str.ofString "look")) := atI_nat rfl
        refine ⟨_, rfl, a, _, _, _, rfl, rfl, SqT.of h, a0, rfl, _, rfl, ?_⟩
        refine ite2 (fun _ => q) (fun z => absurd (decide_eq_true rfl) z)
theorem ok_with {f : Addr} {fd : FuncData} (F : Fun K "_law_with" "_law_with" sLWith f fd) : FnOk P w K mg base CX0 1 f fd pLWith spWith := by
  refine F.ok scLWith (fun vs H Q E h => ?_) (fun cdv A outer s H vs Q E hr h => ?_)
  · obtain ⟨l, ys, i, z, rfl, _⟩ := h
    rfl
  · obtain ⟨l, ys, i, z, rfl, hl, yl, hi, q⟩ := h
    have hsl : sizeLine = 16777216 := sizeLine_eq
    have hml : (ys.map V.str).length = ys.length := List.length_map ..
    refine ⟨_, (pss_one (ps_ret (pe_op op_cat (pe_op op_cat (pe_slice sl_list (pv 0) po_none (po_some (pv 1))) (pe_lst (pa_cons (pv 2) pa_nil))) (pe_slice sl_list (pv 0) (po_some (pe_op op_add (pv 1) pe_int)) po_none)))), ?_⟩
    refine ⟨_, rfl, _, rfl, _, rfl, l, _, rfl, SqL.of hl, fun g1 hg1 => ?_⟩
    rw [cutN]
    have s1 : Same H (upd H g1 (.lst ((ys.map V.str).take i))) := Same.new hg1
    have e1 : (upd H g1 (.lst ((ys.map V.str).take i))) g1 = some (.lst ((ys.map V.str).take i)) := upd_same
    generalize (upd H g1 (.lst ((ys.map V.str).take i))) = H1 at s1 e1 ⊢
    refine ⟨_, rfl, by show 1 ≤ sizeLine; lia, fun g2 hg2 => ?_⟩
    have s2 : Same H1 (upd H1 g2 (.lst [.str z])) := Same.new hg2
    have e2 : (upd H1 g2 (.lst [.str z])) g2 = some (.lst [.str z]) := upd_same
    generalize (upd H1 g2 (.lst [.str z])) = H2 at s2 e2 ⊢
    refine ⟨g1, g2, _, _, rfl, rfl, s2 _ _ e1, e2, by rw [List.length_take]; show _ + 1 ≤ _; lia, fun g3 hg3 => ?_⟩
    have s3 : Same H2 (upd H2 g3 (.lst ((ys.map V.str).take i ++ [.str z]))) := Same.new hg3
    have e3 : (upd H2 g3 (.lst ((ys.map V.str).take i ++ [.str z]))) g3 = some (.lst ((ys.map V.str).take i ++ [.str z])) := upd_same
    generalize (upd H2 g3 (.lst ((ys.map V.str).take i ++ [.str z]))) = H3 at s3 e3 ⊢
    have s03 := (s1.trans s2).trans s3
    refine ⟨_, rfl, _, rfl, _, _, rfl, rfl, _, rfl, l, _, rfl, SqL.of (s03 _ _ hl), fun g4 hg4 => ?_⟩
    rw [show (i : Int) + 1 = ((i + 1 : Nat) : Int) by lia, cutD _ _ (by lia)]
    have s4 : Same H3 (upd H3 g4 (.lst ((ys.map V.str).drop (i + 1)))) := Same.new hg4
    have e4 : (upd H3 g4 (.lst ((ys.map V.str).drop (i + 1)))) g4 = some (.lst ((ys.map V.str).drop (i + 1))) := upd_same
    generalize (upd H3 g4 (.lst ((ys.map V.str).drop (i + 1)))) = H4 at s4 e4 ⊢
    refine ⟨g3, g4, _, _, rfl, rfl, s4 _ _ e3, e4, by rw [List.length_append, List.length_take, List.length_drop]; show _ + 1 + _ ≤ _; lia, fun g5 hg5 => ?_⟩
    refine q g5 _ ((s03.trans s4).trans (Same.new hg5)) ?_
    rw [upd_same, List.map_append, List.map_append, List.map_take, List.map_drop]
    rfl
theorem cs_spx (k : Nat) (x : Str) : (spc k ++ x).cps.toList = List.replicate k 32 ++ cs x := (cs_app (spc k) x).trans (by rw [cs_spc])
theorem sl_to (k : Nat) (x : Str) : Txt.slice (spc k ++ x) none (some (k : Int)) = spc k := by
  have el := cs_spx k x
  have h := StrLaws.sliceText_to (x := spc k ++ x) (j := (k : Int)) ⟨by lia, by rw [el, List.length_append, List.length_replicate]; lia⟩
  refine Eq.trans h (st_ext ?_)
  show ((spc k ++ x).cps.toList.drop 0).take ((k : Int) - 0).toNat = List.replicate k 32
  rw [List.drop_zero, el, Int.sub_zero, Int.toNat_natCast, List.take_left' (List.length_replicate ..)]
theorem sl_mid (k j : Nat) (x : Str) (hj : j ≤ x.length) : Txt.slice (spc k ++ x) (some (k : Int)) (some ((k : Int) + (j : Int))) = ⟨((cs x).take j).toArray⟩ := by
  have el := cs_spx k x
  have hx := cs_len x
  have h := StrLaws.sliceText_plain (x := spc k ++ x) (i := (k : Int)) (j := (k : Int) + (j : Int)) ⟨by lia, by lia, by rw [el, List.length_append, List.length_replicate]; lia⟩
  refine Eq.trans h (st_ext ?_)
  show ((spc k ++ x).cps.toList.drop (k : Int).toNat).take ((k : Int) + (j : Int) - (k : Int)).toNat = (cs x).take j
  rw [el, Int.toNat_natCast, List.drop_left' (List.length_replicate ..), show ((k : Int) + (j : Int) - (k : Int)).toNat = j by lia]
theorem sl_from (k : Nat) {x : Str} {c : Nat} {r : List Nat} (hx : cs x = c :: r) : Txt.slice (spc k ++ x) (some ((k : Int) + 1)) none = ⟨r.toArray⟩ := by
  have el := cs_spx k x
  have h := StrLaws.sliceText_from (x := spc k ++ x) (i := (k : Int) + 1) ⟨by lia, by rw [el, List.length_append, List.length_replicate, hx, List.length_cons]; lia⟩
  refine Eq.trans h (st_ext ?_)
  show ((spc k ++ x).cps.toList.drop ((k : Int) + 1).toNat).take (((spc k ++ x).cps.toList.length : Int) - ((k : Int) + 1)).toNat = r
  rw [el, hx, show ((k : Int) + 1).toNat = k + 1 by lia, List.drop_append, List.length_replicate, List.drop_of_length_le (by rw [List.length_replicate]; lia), List.nil_append, show k + 1 - k = 1 by lia, List.drop_succ_cons, List.drop_zero]
  refine List.take_of_length_le ?_
  rw [List.length_append, List.length_replicate, List.length_cons]
  lia
theorem Sm.app {a b : Str} (ha : Sm a) (hb : Sm b) : Sm (a ++ b) := fun c hc => by
  rw [cs_app] at hc
  rcases (List.mem_append.mp hc) with h | h
  · exact ha c h
  · exact hb c h
theorem Sm.spc (k : Nat) : Sm (spc k) := fun c hc => by
  rw [cs_spc] at hc
  rw [(List.mem_replicate.mp hc).2]
  decide
theorem lns_sm : ∀ (t : Pn) (p : Bool), okW p t → ∀ y ∈ lnsP t, Sm y
  | .stop, _, _, y, h => by
    rw [List.mem_singleton.mp h]
    show ∀ c ∈ cs tStop, c < 128
    decide +kernel
  | .dd d r, true, h, y, hy => by
    rcases (List.mem_cons.mp hy) with e | hy
    · rw [e]
      exact Sm.app (show ∀ c ∈ cs tDo, c < 128 by decide +kernel) h.1.sm
    · exact lns_sm r true h.2 y hy
  | .lk l ws, true, h, y, hy => by
    rcases (List.mem_cons.mp hy) with e | hy
    · rw [e]
      exact Sm.app (show ∀ c ∈ cs tLook, c < 128 by decide +kernel) h.1.sm
    · exact lns_sm ws false h.2 y hy
  | .nil, _, _, _, h => nomatch h
  | .way a p r, false, h, y, hy => by
    rcases (List.mem_cons.mp hy) with e | hy
    · rw [e]
      exact Sm.app (show ∀ c ∈ cs tCase, c < 128 by decide +kernel) h.1.sm
    · rcases (List.mem_append.mp hy) with hy | hy
      · obtain ⟨z, hz, rfl⟩ := List.mem_map.mp hy
        exact Sm.app (show ∀ c ∈ cs tTwo, c < 128 by decide +kernel) (lns_sm p true h.2.1 z hz)
      · exact lns_sm r false h.2.2 y hy
  | .dd _ _, false, h, _, _ => h.elim
  | .lk _ _, false, h, _, _ => h.elim
  | .way _ _ _, true, h, _, _ => h.elim
noncomputable def LnG (ys : List Str) : Prop := ys.length ≤ 1000 ∧ ∀ y ∈ ys, Sm y ∧ y.length ≤ 300
theorem lnG_of {t : Pn} (h : okW true t) (hw : wtP t ≤ 600) (hh : htP t ≤ 60) : LnG (lnsP t) := ⟨by rw [lns_len]; lia, fun y hy => ⟨lns_sm t true h y hy, by
  have h1 : y.length ≤ 42 + 2 * htP t := lns_short t true h y hy
  lia⟩⟩
theorem LnG.put {ys : List Str} (h : LnG ys) {i : Nat} (hi : i < ys.length) {z : Str} (hz : Sm z) (hl : z.length ≤ 300) : LnG (ys.take i ++ [z] ++ ys.drop (i + 1)) := ⟨by
  have := h.1
  rw [List.length_append, List.length_append, List.length_take, List.length_drop]
  show _ + 1 + _ ≤ _
  lia, fun y hy => by
  rcases (List.mem_append.mp hy) with hy | hy
  · rcases (List.mem_append.mp hy) with hy | hy
    · exact h.2 y (List.mem_of_mem_take hy)
    · rw [List.mem_singleton.mp hy]
      exact ⟨hz, hl⟩
  · exact h.2 y (List.mem_of_mem_drop hy)⟩
theorem LnG.snoc {ys : List Str} (h : LnG ys) (hn : ys.length ≤ 900) {z : Str} (hz : Sm z) (hl : z.length ≤ 300) : LnG (ys ++ [z]) := ⟨by
  rw [List.length_append]
  show _ + 1 ≤ _
  lia, fun y hy => by
  rcases (List.mem_append.mp hy) with hy | hy
  · exact h.2 y hy
  · rw [List.mem_singleton.mp hy]
    exact ⟨hz, hl⟩⟩
theorem put_mem {ys : List Str} {i : Nat} {z : Str} : z ∈ ys.take i ++ [z] ++ ys.drop (i + 1) := List.mem_append_left _ (List.mem_append_right _ (List.mem_singleton.mpr rfl))
noncomputable def SpOut (H : Hp) (Q : VK) : Prop := ∀ (r : Addr) (ys : List Str) (H' : Hp), Same H H' → H' r = some (.lst (ys.map V.str)) → Bad ys → LnG ys → Q (.ref r) H'
theorem SpOut.same {H H' : Hp} {Q : VK} (h : SpOut H Q) (s : Same H H') : SpOut H' Q := fun r ys H2 s2 => h r ys H2 (s.trans s2)
theorem ln_at {t : Pn} (ok : okP true t) {i : Nat} (hi : i < (lnsP t).length) : ∃ x : Nat × Ln, (lnsP t)[i]? = some (rdL x) ∧ lnOk x.2 ∧ x.1 % 2 = (isC x.2).toNat ∧ x.1 ≤ 2 * htP t := by
  have h1 : (lnsP t)[i]? = ((tkP t 0)[i]?).map rdL := by rw [← tk_lns0, List.getElem?_map]
  have hi2 : i < (tkP t 0).length := by rw [← tk_lns0, List.length_map] at hi; exact hi
  rw [List.getElem?_eq_getElem hi2] at h1
  have hm := List.getElem_mem hi2
  have h2 := tk_par t 0 _ hm
  obtain ⟨h3, h4⟩ := tk_ok t true 0 ok _ hm
  have h4' : (tkP t 0)[i].1 ≤ 0 + 0 + 2 * htP t := h4
  refine ⟨(tkP t 0)[i], h1, h3, ?_, by lia⟩
  rw [Nat.zero_add] at h2
  rw [h2]
  cases isC (tkP t 0)[i].2 <;> rfl
theorem ln_zero {t : Pn} (ok : okP true t) {x : Nat × Ln} (h : (lnsP t)[0]? = some (rdL x)) : x.1 = 0 := by
  have h1 : (lnsP t)[0]? = ((tkP t 0)[0]?).map rdL := by rw [← tk_lns0, List.getElem?_map]
  rw [h1] at h
  obtain ⟨y, hy, e⟩ := Option.map_eq_some_iff.mp h
  rw [← rd_inj e]
  cases t with
  | stop => cases hy; rfl
  | dd _ _ => cases hy; rfl
  | lk _ _ => cases hy; rfl
  | nil => exact ok.elim
  | way _ _ _ => exact ok.elim
inductive spNamed (K : PySem.W.Frag) (vs : List V) (H : Hp) (Q : VK) (E0_ : XK) : Prop
  | mk (a : Addr) (ns : List Int) (l : Addr) (t : Pn) (z : Str) (c0 : vs = [.ref a, .ref l, .str z]) (c1 : SqL K H a (ns.map V.int)) (c2 : ns.length ≤ 63) (c3 : H l = some (.lst ((lnsP t).map V.str))) (c4 : okP true t) (c5 : wtP t ≤ 500) (c6 : htP t ≤ 41) (c7 : Sm z) (c8 : (z.length = 0 ∨ z.length = 31)) (c9 : SpOut H Q) : spNamed K vs H Q E0_
inductive spSpoilt (K : PySem.W.Frag) (vs : List V) (H : Hp) (Q : VK) (E0_ : XK) : Prop
  | mk (a : Addr) (ns : List Int) (l : Addr) (t : Pn) (v : V) (c0 : vs = [.ref a, v, .ref l]) (c1 : SqL K H a (ns.map V.int)) (c2 : ns.length ≤ 63) (c3 : H l = some (.lst ((lnsP t).map V.str))) (c4 : TrAt H t [v]) (c5 : okP true t) (c6 : wtP t ≤ 500) (c7 : htP t ≤ 41) (c8 : SpOut H Q) : spSpoilt K vs H Q E0_
noncomputable def wdN : Nat → Str
  | 0 => tDo
  | 1 => tLook
  | _ => tCas
noncomputable def ixN' : Ln → Nat
  | .dd _ => 0
  | .lk _ => 1
  | .case _ => 2
  | .stop => 3
noncomputable def mkN : Nat → Str → Ln
  | 0, d => .dd d
  | 1, d => .lk d
  | _, d => .case d
theorem wd_take {x : Ln} (h : x ≠ .stop) (lo : lnOk x) {j : Nat} (hj : j ≤ ixN' x) : ((wdN j).length ≤ (txL x).length) ∧ ((⟨((cs (txL x)).take (wdN j).length).toArray⟩ : Str) = wdN j ↔ j = ixN' x) := by
  cases x with
  | stop => exact absurd rfl h
  | dd d =>
    have l1 : 1 ≤ d.length := lo.l1
    have hj' : j = 0 := Nat.le_zero.mp hj
    subst hj'
    refine ⟨?_, fun _ => rfl, fun _ => ?_⟩
    · show tDo.length ≤ (tDo ++ d).length
      rw [sz_app]
      lia
    · refine st_ext ?_
      show (cs (tDo ++ d)).take tDo.length = cs tDo
      rw [cs_app, List.take_left' (cs_len _)]
  | lk d =>
    have l1 : 1 ≤ d.length := lo.l1
    have hj' : j ≤ 1 := hj
    have e : cs (tLook ++ d) = [108, 111, 111, 107, 32] ++ cs d := by rw [cs_app, show cs tLook = [108, 111, 111, 107, 32] by decide +kernel]
    cases j with
    | zero =>
      refine ⟨?_, fun z => ?_, fun z => ?_⟩
      · show tDo.length ≤ (tLook ++ d).length
        rw [sz_app, show tDo.length = 3 by decide +kernel, show tLook.length = 5 by decide +kernel]
        lia
      · have z' := congrArg cs z
        have z2 : (cs (tLook ++ d)).take tDo.length = cs tDo := z'
        rw [e, show tDo.length = 3 by decide +kernel, show cs tDo = [100, 111, 32] by decide +kernel] at z2
        cases z2
      · cases z
    | succ j =>
      have hj2 : j = 0 := by lia
      subst hj2
      refine ⟨?_, fun _ => rfl, fun _ => ?_⟩
      · show tLook.length ≤ (tLook ++ d).length
        rw [sz_app]
        lia
      · refine st_ext ?_
        show (cs (tLook ++ d)).take tLook.length = cs tLook
        rw [cs_app, List.take_left' (cs_len _)]
  | case d =>
    have l1 : 1 ≤ d.length := lo.l1
    have hj' : j ≤ 2 := hj
    have e : cs (tCas ++ d) = [99, 97, 115, 101, 32] ++ cs d := by rw [cs_app, show cs tCas = [99, 97, 115, 101, 32] by decide +kernel]
    have h3 : j = 0 ∨ j = 1 ∨ j = 2 := by lia
    rcases h3 with rfl | rfl | rfl
    · refine ⟨?_, fun z => ?_, fun z => ?_⟩
      · show tDo.length ≤ (tCas ++ d).length
        rw [sz_app, show tDo.length = 3 by decide +kernel, show tCas.length = 5 by decide +kernel]
        lia
      · have z2 : (cs (tCas ++ d)).take tDo.length = cs tDo := congrArg cs z
        rw [e, show tDo.length = 3 by decide +kernel, show cs tDo = [100, 111, 32] by decide +kernel] at z2
        cases z2
      · cases z
    · refine ⟨?_, fun z => ?_, fun z => ?_⟩
      · show tLook.length ≤ (tCas ++ d).length
        rw [sz_app, show tLook.length = 5 by decide +kernel, show tCas.length = 5 by decide +kernel]
        lia
      · have z2 : (cs (tCas ++ d)).take tLook.length = cs tLook := congrArg cs z
        rw [e, show tLook.length = 5 by decide +kernel, show cs tLook = [108, 111, 111, 107, 32] by decide +kernel] at z2
        cases z2
      · cases z
    · refine ⟨?_, fun _ => rfl, fun _ => ?_⟩
      · show tCas.length ≤ (tCas ++ d).length
        rw [sz_app]
        lia
      · refine st_ext ?_
        show (cs (tCas ++ d)).take tCas.length = cs tCas
        rw [cs_app, List.take_left' (cs_len _)]
theorem no_nm {k j : Nat} {z : Str} (hj : j ≤ 2) (hz : z.length = 0 ∨ z.length = 31) : ¬ GdL (spc k ++ (wdN j ++ z)) := by
  have nl : ¬ Lb z := fun h => by
    have := h.l1
    have := h.l2
    lia
  refine no_name (k := k) (x := mkN j z) ?_ (fun m h => ?_) ?_
  · rcases (show j = 0 ∨ j = 1 ∨ j = 2 by lia) with rfl | rfl | rfl <;> rfl
  · rcases (show j = 0 ∨ j = 1 ∨ j = 2 by lia) with rfl | rfl | rfl <;> (rcases h with h | h | h <;> cases h <;> exact nl)
  · rcases (show j = 0 ∨ j = 1 ∨ j = 2 by lia) with rfl | rfl | rfl <;> (intro z; cases z)
noncomputable abbrev pLNamed : List Str := ["_law_script", "_law_lines_here", "_law_name"]
noncomputable abbrev nLNamed : List Str := ["_law_script", "_law_lines_here", "_law_name", "_law_at", "_law_line", "_law_word", "_law_ahead"]
theorem scLNamed : FnScope nLNamed pLNamed (defScope sLNamed) := ⟨rfl, rfl, rfl, by decide +kernel, rfl, by decide +kernel, by decide +kernel⟩
noncomputable abbrev pLSpoilt : List Str := ["_law_script", "_law_tree_here", "_law_lines_here"]
noncomputable abbrev nLSpoilt : List Str := ["_law_script", "_law_tree_here", "_law_lines_here", "_law_way", "_law_at", "_law_ahead"]
theorem scLSpoilt : FnScope nLSpoilt pLSpoilt (defScope sLSpoilt) := ⟨rfl, rfl, rfl, by decide +kernel, rfl, by decide +kernel, by decide +kernel⟩
theorem ok_named {f f1 f2 : Addr} {fd d1 d2 : FuncData} (F : Fun K "_law_named" "_law_named" sLNamed f fd) (T : Bl mg) (D_l_draw : Df K mg "_law_draw" sLDraw pLDraw f1 d1) (G_l_draw : FnOk P w K mg base CX0 2 f1 d1 pLDraw (spDraw K)) (D_l_with : Df K mg "_law_with" sLWith pLWith f2 d2) (G_l_with : FnOk P w K mg base CX0 1 f2 d2 pLWith spWith) : FnOk P w K mg base CX0 3 f fd pLNamed (spNamed K) := by
  refine F.ok scLNamed (fun vs H Q E h => ?_) (fun cdv A outer s H vs Q E hr2 h => ?_)
  · obtain ⟨a, ns, l, t, z, rfl, _⟩ := h
    rfl
  · obtain ⟨a, ns, l, t, z, rfl, hS, hn, hl, ok, hw, hh, sz, zl, q⟩ := h
    have hr1 : Room 1 _ := hr2.mono (by decide)
    have hsl : sizeLine = 16777216 := sizeLine_eq
    have hln := lns_len t
    have hpos : 1 ≤ wtP t := Nat.le_trans (sz_pos ok) (sz_le t)
    have hml : ((lnsP t).map V.str).length = (lnsP t).length := List.length_map ..
    have g0 := lnG_of ok.wk (by lia) (by lia)
    refine ⟨_, (pss_cons (ps_set (i := 3) scLNamed.nd rfl (Or.inl rfl) (pe_call G_l_draw hr2 (by rfl) D_l_draw.m D_l_draw.F.kp D_l_draw.b .nil pass0 (pa_cons (pv 0) (pa_cons pe_int (pa_cons pe_int (pa_cons (pe_callB call_len (by rfl) T.len PySem.boot_len (pa_cons (pv 1) pa_nil)) pa_nil))))))
      (pss_cons (ps_while PassesOwn.never (PW.pt (pw_and (pt_cmpR op_eq (pe_bm PySem.F.plainAttrs_str PySem.F.slot_str_lstrip PySem.F.type_str_lstrip mt_lstrip (pe_ix ix_list (pv 1) (pv 3) (fun _ _ => rfl)) (pa_cons pe_str pa_nil)) pe_str (nomark _)) (pw_and1 (pt_cmpR op_gt (pv 3) pe_int (nomark _)))))
        (pss_one (ps_set (i := 3) scLNamed.nd rfl (Or.inl rfl) (pe_op op_sub (pv 3) pe_int))))
      (pss_cons (ps_if (PW.pt (pw_and (pt_cmpR op_eq (pv 3) pe_int (nomark _)) (pw_and1 (pt_cmpR op_eq (pe_ix ix_list (pv 1) pe_int (fun _ _ => rfl)) pe_str (nomark _))))) (pss_one (ps_ret (pe_op op_cat (pv 1) (pe_lst (pa_cons pe_str pa_nil))))) pss_nil)
      (pss_cons (ps_set (i := 4) scLNamed.nd rfl (Or.inl rfl) (pe_ix ix_list (pv 1) (pv 3) (fun _ _ => rfl)))
      (pss_cons (ps_for PassesOwn.never rfl (pi_list (pe_lst (pa_cons pe_str (pa_cons pe_str (pa_cons pe_str pa_nil))))) (pg_name (i := 5) scLNamed.nd rfl (Or.inl rfl))
        (pss_cons (ps_set (i := 6) scLNamed.nd rfl (Or.inl rfl) (pe_op op_sub (pe_callB call_len (by rfl) T.len PySem.boot_len (pa_cons (pv 4) pa_nil)) (pe_callB call_len (by rfl) T.len PySem.boot_len (pa_cons (pe_bm PySem.F.plainAttrs_str PySem.F.slot_str_lstrip PySem.F.type_str_lstrip mt_lstrip (pv 4) (pa_cons pe_str pa_nil)) pa_nil))))
      (pss_one (ps_if (pt_cmpR op_eq (pe_slice sl_str (pv 4) (po_some (pv 6)) (po_some (pe_op op_add (pv 6) (pe_callB call_len (by rfl) T.len PySem.boot_len (pa_cons (pv 5) pa_nil))))) (pv 5) (nomark _)) (pss_one (ps_ret (pe_call G_l_with hr1 (by rfl) D_l_with.m D_l_with.F.kp D_l_with.b .nil pass0 (pa_cons (pv 1) (pa_cons (pv 3) (pa_cons (pe_op op_add_str (pe_op op_add_str (pe_slice sl_str (pv 4) po_none (po_some (pv 6))) (pv 5)) (pv 2)) pa_nil)))))) pss_nil))))
      (pss_one (ps_ret (pe_lst pa_nil)))))))), ?_⟩
    refine ⟨_, rfl, _, rfl, _, _, rfl, .inl ⟨_, SqL.of hl, rfl⟩, a, ns, _, _, _, rfl, hS, hn, by decide, by decide, by decide, by lia, fun r r0 r1 => ?_⟩
    obtain ⟨i0, rfl⟩ : ∃ i : Nat, (i : Int) = r := ⟨r.toNat, Int.toNat_of_nonneg r0⟩
    refine ⟨fun n σ H' => ∃ i : Nat, σ = [some (.ref a), some (.ref l), some (.str z), some (.int (i : Int)), none, none, none] ∧ i = n ∧ H = H' ∧ i < (lnsP t).length, ⟨i0, i0, rfl, rfl, rfl, by lia⟩, ?_⟩
    rintro n σ H' ⟨i, rfl, rfl, rfl, hi⟩
    obtain ⟨x, hx, lo, par, xh⟩ := ln_at ok hi
    have hat : atI ((lnsP t).map V.str) (i : Int) = some (.str (rdL x)) := atI_nat (by rw [List.getElem?_map, hx]; rfl)
    have htl := tx_len lo
    have hrl := rd_len x
    refine ⟨_, rfl, _, rfl, l, _, _, _, rfl, rfl, SqL.of hl, hat, rfl, _, _, rfl, rfl, by lia, ?_⟩
    rw [show Txt.lstripChars (rdL x) (Str.ofString " ") = txL x.2 from rd_strip x]
    refine ⟨rfl, _, rfl, ?_⟩
    by_cases hst : x.2 = .stop
    · refine ite2 (fun _ => ?_) (fun z => absurd (decide_eq_true (by rw [hst]; rfl)) z)
      refine ⟨_, rfl, _, _, rfl, rfl, _, rfl, ?_⟩
      cases i with
      | succ j =>
        refine ite2 (fun _ => ?_) (fun z => absurd (decide_eq_true (by show (0 : Int) < ((j + 1 : Nat) : Int); lia)) z)
        refine ⟨fun σ' H' => ∃ m', m' < j + 1 ∧ ∃ i : Nat, σ' = [some (.ref a), some (.ref l), some (.str z), some (.int (i : Int)), none, none, none] ∧ i = m' ∧ H = H' ∧ i < (lnsP t).length, fun _ _ z => z, ?_⟩
        refine ⟨_, rfl, _, _, rfl, rfl, ?_⟩
        exact ⟨j, Nat.lt_succ_self _, j, by rw [show ((j + 1 : Nat) : Int) - 1 = (j : Int) by lia]; rfl, rfl, rfl, by lia⟩
      | zero =>
        refine ite2 (fun z => absurd (of_decide_eq_true z) (by show ¬ ((0 : Int) < ((0 : Nat) : Int)); decide)) (fun _ => ?_)
        refine ⟨_, rfl, rfl, _, rfl, ?_⟩
        refine ite2 (fun _ => ?_) (fun z => absurd (decide_eq_true rfl) z)
        refine ⟨_, rfl, l, _, _, _, rfl, rfl, SqL.of hl, hat, rfl, _, rfl, ?_⟩
        have e0 : rdL x = tStop := by
          have h0 := ln_zero ok hx
          show spc x.1 ++ txL x.2 = _
          rw [h0, hst]
          exact em_app _
        refine ite2 (fun _ => ?_) (fun z => absurd (decide_eq_true (by rw [e0])) z)
        refine ⟨_, rfl, by show 1 ≤ sizeLine; lia, fun g1 hg1 => ?_⟩
        have s1 : Same H (upd H g1 (.lst [.str tStop])) := Same.new hg1
        have e1 : (upd H g1 (.lst [.str tStop])) g1 = some (.lst [.str tStop]) := upd_same
        generalize (upd H g1 (.lst [.str tStop])) = H1 at s1 e1 ⊢
        refine ⟨l, g1, _, _, rfl, rfl, s1 _ _ hl, e1, by show _ + 1 ≤ _; lia, fun g2 hg2 => ?_⟩
        exact q g2 (lnsP t ++ [tStop]) _ (s1.trans (Same.new hg2)) (by rw [upd_same, map_snoc]) (bad_snoc ok _) (g0.snoc (by lia) (show ∀ c ∈ cs tStop, c < 128 by decide +kernel) (by decide +kernel))
    · refine ite2 (fun z => absurd (V.str.inj (of_decide_eq_true z)) (tx_not hst)) (fun _ => ?_)
      refine iteF ?_
      try unfold tNext
      dsimp only
      refine seq_gen (fun σ' H' => σ' = [some (.ref a), some (.ref l), some (.str z), some (.int (i : Int)), none, none, none] ∧ H = H') ?_ (fun N hN => ?_)
      · rintro σ' H' ⟨rfl, rfl⟩
        refine ⟨_, rfl, _, rfl, l, _, _, _, rfl, rfl, SqL.of hl, hat, ?_⟩
        refine ⟨by show 3 ≤ sizeLine; lia, fun wl hwl => ?_⟩
        have s1 : Same H (upd H wl (.lst [.str tDo, .str tLook, .str tCas])) := Same.new hwl
        have e1 : (upd H wl (.lst [.str tDo, .str tLook, .str tCas])) wl = some (.lst [.str tDo, .str tLook, .str tCas]) := upd_same
        generalize (upd H wl (.lst [.str tDo, .str tLook, .str tCas])) = H1 at s1 e1 ⊢
        refine ⟨wl, rfl, ⟨_, SqL.of e1⟩, ?_⟩
        have ix2 : ixN' x.2 ≤ 2 := by
          cases hx2 : x.2 with
          | stop => exact absurd hx2 hst
          | dd _ => exact Nat.zero_le _
          | lk _ => exact Nat.le_succ _
          | case _ => exact Nat.le_refl _
        refine for_list (K := K) (a := wl) (xs := [.str tDo, .str tLook, .str tCas]) (fun j σ H2 => ∃ v5 v6 : Option V, σ = [some (.ref a), some (.ref l), some (.str z), some (.int (i : Int)), some (.str (rdL x)), v5, v6] ∧ H1 = H2 ∧ j ≤ ixN' x.2) ⟨none, none, rfl, rfl, Nat.zero_le _⟩ (fun _ _ _ _ hh0 => by obtain ⟨_, _, _, e, _⟩ := hh0; rw [← e]; exact SqL.of e1) ?_ ?_
        · rintro j y σ H2 hy ⟨v5, v6, rfl, rfl, hj⟩
          have ey : y = .str (wdN j) := by
            rcases (show j = 0 ∨ j = 1 ∨ j = 2 by lia) with rfl | rfl | rfl <;> cases hy <;> rfl
          subst ey
          obtain ⟨wl1, wl2⟩ := wd_take hst lo hj
          refine ⟨_, rfl, _, _, rfl, ⟨by lia, rfl⟩, _, rfl, rfl, _, _, rfl, rfl, by lia, ?_⟩
          rw [show Txt.lstripChars (rdL x) (Str.ofString " ") = txL x.2 from rd_strip x]
          refine ⟨_, _, rfl, ⟨by lia, rfl⟩, _, _, rfl, rfl, ?_⟩
          rw [show ((rdL x).length : Int) - ((txL x.2).length : Int) = (x.1 : Int) by lia]
          refine ⟨_, rfl, _, rfl, _, rfl, _, rfl, _, rfl, _, _, rfl, ⟨by lia, rfl⟩, _, _, rfl, rfl, _, rfl, _, rfl, by lia, ?_⟩
          rw [show Txt.slice (rdL x) (some (x.1 : Int)) (some ((x.1 : Int) + ((wdN j).length : Int))) = ⟨((cs (txL x.2)).take (wdN j).length).toArray⟩ from sl_mid x.1 (wdN j).length (txL x.2) wl1]
          refine ⟨_, rfl, rfl, _, rfl, ?_⟩
          refine ite2 (fun hz1 => ?_) (fun hz1 => ?_)
          · refine ⟨_, rfl, _, rfl, _, rfl, _, rfl, _, rfl, _, rfl, by lia, ?_⟩
            rw [show Txt.slice (rdL x) none (some (x.1 : Int)) = spc x.1 from sl_to x.1 (txL x.2)]
            have w5 : (wdN j).length ≤ 5 := by
              rcases (show j = 0 ∨ j = 1 ∨ j = 2 by lia) with rfl | rfl | rfl <;> decide +kernel
            have ws : Sm (wdN j) := by
              rcases (show j = 0 ∨ j = 1 ∨ j = 2 by lia) with rfl | rfl | rfl
              · exact (show ∀ c ∈ cs tDo, c < 128 by decide +kernel)
              · exact (show ∀ c ∈ cs tLook, c < 128 by decide +kernel)
              · exact (show ∀ c ∈ cs tCas, c < 128 by decide +kernel)
            have z1 : (spc x.1 ++ wdN j).length = x.1 + (wdN j).length := by rw [sz_app, spc_len]
            have z2 : (spc x.1 ++ wdN j ++ z).length = x.1 + (wdN j).length + z.length := by rw [sz_app, z1]
            refine ⟨_, rfl, _, _, rfl, rfl, by show (spc x.1).length + (wdN j).length ≤ _; rw [spc_len]; lia, _, rfl, _, _, rfl, rfl, by show (spc x.1 ++ wdN j).length + z.length ≤ _; lia, ?_⟩
            refine ⟨l, lnsP t, i, spc x.1 ++ wdN j ++ z, rfl, s1 _ _ hl, by lia, hi, fun r H' s' e' => ?_⟩
            refine q r _ H' (s1.trans s') e' (bad_at put_mem ?_) (g0.put hi (((Sm.spc _).app ws).app sz) (by lia))
            rw [ap_assoc]
            exact no_nm (by lia) zl
          · have nj : j ≠ ixN' x.2 := fun e => hz1 (decide_eq_true (by rw [wl2.mpr e]))
            exact ⟨_, _, rfl, rfl, by lia⟩
        · rintro σ H2 ⟨v5, v6, rfl, rfl, hj⟩
          have h3 : 3 ≤ ixN' x.2 := hj
          lia
      · refine ⟨_, rfl, rfl, _, rfl, ?_⟩
        refine ite2 (fun hi0 => ?_) (fun _ => ?_)
        · have e0 : i = 0 := by
            have h9 := V.int.inj (of_decide_eq_true hi0)
            lia
          subst e0
          refine ⟨_, rfl, l, _, _, _, rfl, rfl, SqL.of hl, hat, rfl, _, rfl, ?_⟩
          refine ite2 (fun hz1 => ?_) (fun _ => ?_)
          · exfalso
            have e1 : rdL x = tStop := V.str.inj (of_decide_eq_true hz1)
            have e2 : rdL x = rdL (0, .stop) := e1.trans (em_app _).symm
            exact hst (congrArg Prod.snd (rd_inj e2))
          · exact hN _ _ ⟨rfl, rfl⟩
        · refine iteF ?_
          exact hN _ _ ⟨rfl, rfl⟩
theorem ok_spoilt {f f1 f2 f3 f4 f5 f6 : Addr} {fd d1 d2 d3 d4 d5 d6 : FuncData} (F : Fun K "_law_spoilt" "_law_spoilt" sLSpoilt f fd) (T : Bl mg) (D_l_draw : Df K mg "_law_draw" sLDraw pLDraw f1 d1) (G_l_draw : FnOk P w K mg base CX0 2 f1 d1 pLDraw (spDraw K)) (D_l_with : Df K mg "_law_with" sLWith pLWith f2 d2) (G_l_with : FnOk P w K mg base CX0 1 f2 d2 pLWith spWith)
    (D_l_named : Df K mg "_law_named" sLNamed pLNamed f3 d3) (G_l_named : FnOk P w K mg base CX0 3 f3 d3 pLNamed (spNamed K)) (D_l_has_look : Df K mg "_law_has_look" sLHasLook pLHasLook f4 d4) (G_l_has_look : FnOk P w K mg base CX0 42 f4 d4 pLHasLook (spHas 41)) (D_l_bent : Df K mg "_law_bent" sLBent pLBent f5 d5) (G_l_bent : FnOk P w K mg base CX0 42 f5 d5 pLBent (spBent 41)) (D_l_lines : Df K mg "_law_lines" sLLines pLLines f6 d6) (G_l_lines : FnOk P w K mg base CX0 46 f6 d6 pLLines (spLLines 45)) : FnOk P w K mg base CX0 50 f fd pLSpoilt (spSpoilt K) := by
  refine F.ok (k := 49) scLSpoilt (fun vs H Q E h => ?_) (fun cdv A outer s H vs Q E hrX h => ?_)
  · obtain ⟨a, ns, l, t, v, rfl, _⟩ := h
    rfl
  · obtain ⟨a, ns, l, t, v, rfl, hS, hn, hl, tr, ok, hw, hh, q⟩ := h
    have hr1 : Room 1 _ := hrX.mono (by decide)
    have hr2 : Room 2 _ := hrX.mono (by decide)
    have hr3 : Room 3 _ := hrX.mono (by decide)
    have hrH : Room 42 _ := hrX.mono (by decide)
    have hrB : Room 42 _ := hrX.mono (by decide)
    have hrN : Room 46 _ := hrX.mono (by decide)
    have hsl : sizeLine = 16777216 := sizeLine_eq
    have hln := lns_len t
    have hpos : 1 ≤ wtP t := Nat.le_trans (sz_pos ok) (sz_le t)
    have hml : ((lnsP t).map V.str).length = (lnsP t).length := List.length_map ..
    have g0 := lnG_of ok.wk (by lia) (by lia)
    refine ⟨_, (pss_cons (ps_set (i := 3) scLSpoilt.nd rfl (Or.inl rfl) (pe_call G_l_draw hr2 (by rfl) D_l_draw.m D_l_draw.F.kp D_l_draw.b .nil pass0 (pa_cons (pv 0) (pa_cons pe_int (pa_cons pe_int (pa_cons pe_int pa_nil))))))
      (pss_cons (ps_set (i := 4) scLSpoilt.nd rfl (Or.inl rfl) (pe_call G_l_draw hr2 (by rfl) D_l_draw.m D_l_draw.F.kp D_l_draw.b .nil pass0 (pa_cons (pv 0) (pa_cons pe_int (pa_cons pe_int (pa_cons (pe_callB call_len (by rfl) T.len PySem.boot_len (pa_cons (pv 2) pa_nil)) pa_nil))))))
      (pss_cons (ps_if (pt_cmpR op_eq (pv 3) pe_int (nomark _)) (pss_one (ps_ret (pe_lst pa_nil))) pss_nil)
      (pss_cons (ps_if (pt_cmpR op_eq (pv 3) pe_int (nomark _)) (pss_one (ps_ret (pe_slice sl_list (pv 2) po_none (po_some (pe_un un_neg pe_int))))) pss_nil)
      (pss_cons (ps_if (pt_cmpR op_eq (pv 3) pe_int (nomark _)) (pss_one (ps_ret (pe_op op_cat (pv 2) (pe_lst (pa_cons (pe_ix ix_list (pe_lst (pa_cons pe_str (pa_cons pe_str (pa_cons pe_str pa_nil)))) (pe_op op_mod (pv 4) pe_int) (fun _ _ => rfl)) pa_nil))))) pss_nil)
      (pss_cons (ps_if (pt_cmpR op_eq (pv 3) pe_int (nomark _)) (pss_one (ps_ret (pe_call G_l_with hr1 (by rfl) D_l_with.m D_l_with.F.kp D_l_with.b .nil pass0 (pa_cons (pv 2) (pa_cons (pv 4) (pa_cons (pe_op op_add_str pe_str (pe_ix ix_list (pv 2) (pv 4) (fun _ _ => rfl))) pa_nil)))))) pss_nil)
      (pss_cons (ps_if (pt_cmpR op_eq (pv 3) pe_int (nomark _)) (pss_cons (ps_set (i := 5) scLSpoilt.nd rfl (Or.inl rfl) (pe_op op_sub (pe_callB call_len (by rfl) T.len PySem.boot_len (pa_cons (pe_ix ix_list (pv 2) (pv 4) (fun _ _ => rfl)) pa_nil)) (pe_callB call_len (by rfl) T.len PySem.boot_len (pa_cons (pe_bm PySem.F.plainAttrs_str PySem.F.slot_str_lstrip PySem.F.type_str_lstrip mt_lstrip (pe_ix ix_list (pv 2) (pv 4) (fun _ _ => rfl)) (pa_cons pe_str pa_nil)) pa_nil))))
      (pss_one (ps_ret (pe_call G_l_with hr1 (by rfl) D_l_with.m D_l_with.F.kp D_l_with.b .nil pass0 (pa_cons (pv 2) (pa_cons (pv 4) (pa_cons (pe_op op_add_str (pe_op op_add_str (pe_slice sl_str (pe_ix ix_list (pv 2) (pv 4) (fun _ _ => rfl)) po_none (po_some (pv 5))) pe_str) (pe_slice sl_str (pe_ix ix_list (pv 2) (pv 4) (fun _ _ => rfl)) (po_some (pe_op op_add (pv 5) pe_int)) po_none)) pa_nil))))))) pss_nil)
      (pss_cons (ps_if (PW.pt (pw_or (pt_cmpR op_eq (pv 3) pe_int (nomark _)) (pw_or1 (pt_cmpR op_eq (pv 3) pe_int (nomark _))))) (pss_one (ps_ret (pe_call G_l_named hr3 (by rfl) D_l_named.m D_l_named.F.kp D_l_named.b .nil pass0 (pa_cons (pv 0) (pa_cons (pv 2) (pa_cons (pe_ix ix_list (pe_lst (pa_cons pe_str (pa_cons (pe_op op_mulS pe_str pe_int) pa_nil))) (pe_op op_sub (pv 3) pe_int) (fun _ _ => rfl)) pa_nil)))))) pss_nil)
      (pss_cons (ps_if (PW.pt (pw_and (PW.pt (pw_or (pt_cmpR op_eq (pv 3) pe_int (nomark _)) (pw_or1 (pt_cmpR op_eq (pv 3) pe_int (nomark _))))) (pw_and1 (pt_val (pe_call G_l_has_look hrH (by rfl) D_l_has_look.m D_l_has_look.F.kp D_l_has_look.b .nil pass0 (pa_cons (pv 1) pa_nil)))))) (pss_one (ps_ret (pe_call G_l_lines hrN (by rfl) D_l_lines.m D_l_lines.F.kp D_l_lines.b .nil pass0 (pa_cons (pe_call G_l_bent hrB (by rfl) D_l_bent.m D_l_bent.F.kp D_l_bent.b .nil pass0 (pa_cons (pv 1) (pa_cons (pe_cmpR op_eq (pv 3) pe_int (nomark _)) pa_nil))) pa_nil)))) pss_nil)
      (pss_cons (ps_set (i := 4) scLSpoilt.nd rfl (Or.inl rfl) (pe_op op_sub (pe_callB call_len (by rfl) T.len PySem.boot_len (pa_cons (pv 2) pa_nil)) pe_int))
      (pss_one (ps_ret (pe_call G_l_with hr1 (by rfl) D_l_with.m D_l_with.F.kp D_l_with.b .nil pass0 (pa_cons (pv 2) (pa_cons (pv 4) (pa_cons (pe_op op_add_str (pe_ix ix_list (pv 2) (pv 4) (fun _ _ => rfl)) (pe_ix ix_list (pe_lst (pa_cons pe_str (pa_cons pe_str (pa_cons pe_str pa_nil)))) (pe_op op_mod (pv 3) pe_int) (fun _ _ => rfl))) pa_nil)))))))))))))))), ?_⟩
    refine ⟨_, rfl, a, ns, _, _, _, rfl, hS, hn, by decide, by decide, by decide, by decide, fun wy w0 w11 => ?_⟩
    refine ⟨_, rfl, _, rfl, _, _, rfl, .inl ⟨_, SqL.of hl, rfl⟩, a, ns, _, _, _, rfl, hS, hn, by decide, by decide, by decide, by lia, fun r r0 r1 => ?_⟩
    obtain ⟨i, rfl⟩ : ∃ i : Nat, (i : Int) = r := ⟨r.toNat, Int.toNat_of_nonneg r0⟩
    have hi : i < (lnsP t).length := by lia
    obtain ⟨x, hx, lo, par, xh⟩ := ln_at ok hi
    have hat : atI ((lnsP t).map V.str) (i : Int) = some (.str (rdL x)) := atI_nat (by rw [List.getElem?_map, hx]; rfl)
    have htl := tx_len lo
    have hrl := rd_len x
    have smx : Sm (rdL x) := lns_sm t true ok.wk _ (List.mem_of_getElem? hx)
    refine ⟨_, rfl, rfl, _, rfl, ?_⟩
    refine ite2 (fun _ => ?_) (fun _ => ?_)
    · exact ⟨by show 0 ≤ sizeLine; lia, fun g hg => q g [] _ (Same.new hg) upd_same bad_nil ⟨Nat.zero_le _, fun _ h => nomatch h⟩⟩
    try unfold tNext
    dsimp only
    refine ⟨_, rfl, rfl, _, rfl, ?_⟩
    refine ite2 (fun _ => ?_) (fun _ => ?_)
    · refine ⟨_, rfl, _, rfl, _, rfl, l, _, rfl, SqL.of hl, fun g hg => ?_⟩
      refine q g (lnsP t).dropLast _ (Same.new hg) ?_ (bad_init ok) ⟨by rw [List.length_dropLast]; lia, fun y hy => g0.2 y (List.dropLast_subset _ hy)⟩
      rw [upd_same, List.dropLast_eq_take, List.map_take]
      refine congrArg (fun z => some (HO.lst z)) ?_
      refine (cutM _).trans ?_
      rw [hml]
    try unfold tNext
    dsimp only
    refine ⟨_, rfl, rfl, _, rfl, ?_⟩
    refine ite2 (fun _ => ?_) (fun _ => ?_)
    · refine ⟨_, rfl, by show 3 ≤ sizeLine; lia, fun g1 hg1 => ?_⟩
      have s1 : Same H (upd H g1 (.lst [V.str (Str.ofString "stop"), .str (Str.ofString "Stop"), .str (Str.ofString " ")])) := Same.new hg1
      have e1 : (upd H g1 (.lst [V.str (Str.ofString "stop"), .str (Str.ofString "Stop"), .str (Str.ofString " ")])) g1 = some (.lst [V.str (Str.ofString "stop"), .str (Str.ofString "Stop"), .str (Str.ofString " ")]) := upd_same
      generalize (upd H g1 (.lst [V.str (Str.ofString "stop"), .str (Str.ofString "Stop"), .str (Str.ofString " ")])) = H1 at s1 e1 ⊢
      obtain ⟨c1, c2⟩ := getD_at (A := [Str.ofString "stop", Str.ofString "Stop", Str.ofString " "]) (i := i % 3) (by show i % 3 < 3; lia)
      have c3 : ∀ y ∈ [Str.ofString "stop", Str.ofString "Stop", Str.ofString " "], (∀ c ∈ cs y, c < 128) ∧ y.length ≤ 300 := by decide +kernel
      generalize [Str.ofString "stop", Str.ofString "Stop", Str.ofString " "].getD (i % 3) Str.empty = y at c1 c2
      have c1' : atI [V.str (Str.ofString "stop"), .str (Str.ofString "Stop"), .str (Str.ofString " ")] ((i : Int) % 3) = some (.str y) := by
        rw [show (i : Int) % 3 = ((i % 3 : Nat) : Int) by lia]
        exact c1
      refine ⟨_, rfl, _, _, rfl, rfl, (by show (0 : Int) < _; decide), g1, _, _, _, rfl, rfl, SqL.of e1, c1', ?_⟩
      obtain ⟨y1, y2⟩ := c3 y c2
      refine ⟨by show 1 ≤ sizeLine; lia, fun g2 hg2 => ?_⟩
      have s2 : Same H1 (upd H1 g2 (.lst [.str y])) := Same.new hg2
      have e2 : (upd H1 g2 (.lst [.str y])) g2 = some (.lst [.str y]) := upd_same
      generalize (upd H1 g2 (.lst [.str y])) = H2 at s2 e2 ⊢
      have s02 := s1.trans s2
      refine ⟨l, g2, _, _, rfl, rfl, s02 _ _ hl, e2, by show _ + 1 ≤ _; lia, fun g3 hg3 => ?_⟩
      exact q g3 (lnsP t ++ [y]) _ (s02.trans (Same.new hg3)) (by rw [upd_same, map_snoc]) (bad_snoc ok _) (g0.snoc (by lia) y1 y2)
    try unfold tNext
    dsimp only
    refine ⟨_, rfl, rfl, _, rfl, ?_⟩
    refine ite2 (fun _ => ?_) (fun _ => ?_)
    · have z1 : (Str.ofString " " ++ rdL x).length = 1 + (rdL x).length := by rw [sz_app, show (Str.ofString " ").length = 1 by decide +kernel]
      have z2 : Str.ofString " " ++ rdL x = rdL (x.1 + 1, x.2) := by
        show tSp ++ (spc x.1 ++ txL x.2) = spc (x.1 + 1) ++ txL x.2
        rw [← ap_assoc]
        refine congrArg (· ++ txL x.2) (st_ext ?_)
        rw [cs_app, cs_spc, cs_spc, show cs tSp = [32] by decide +kernel, List.replicate_succ]
        rfl
      refine ⟨_, rfl, _, rfl, _, rfl, _, rfl, l, _, _, _, rfl, rfl, SqL.of hl, hat, _, _, rfl, rfl, by show (Str.ofString " ").length + (rdL x).length ≤ _; rw [show (Str.ofString " ").length = 1 by decide +kernel]; lia, ?_⟩
      refine ⟨l, lnsP t, i, Str.ofString " " ++ rdL x, rfl, hl, by lia, hi, fun r H' s' e' => ?_⟩
      refine q r _ H' s' e' (bad_at put_mem ?_) (g0.put hi (Sm.app (show ∀ c ∈ cs (Str.ofString " "), c < 128 by decide +kernel) smx) (by lia))
      rw [z2]
      exact no_blank par
    try unfold tNext
    dsimp only
    refine ⟨_, rfl, rfl, _, rfl, ?_⟩
    refine ite2 (fun _ => ?_) (fun _ => ?_)
    · refine ⟨_, rfl, _, rfl, l, _, _, _, rfl, rfl, SqL.of hl, hat, _, _, rfl, ⟨by lia, rfl⟩, _, rfl, _, rfl, l, _, _, _, rfl, rfl, SqL.of hl, hat, rfl, _, _, rfl, rfl, by lia, ?_⟩
      rw [show Txt.lstripChars (rdL x) (Str.ofString " ") = txL x.2 from rd_strip x]
      refine ⟨_, _, rfl, ⟨by lia, rfl⟩, _, _, rfl, rfl, ?_⟩
      rw [show ((rdL x).length : Int) - ((txL x.2).length : Int) = (x.1 : Int) by lia]
      refine ⟨_, rfl, _, rfl, _, rfl, _, rfl, l, _, _, _, rfl, rfl, SqL.of hl, hat, _, rfl, _, rfl, _, rfl, by lia, ?_⟩
      rw [show Txt.slice (rdL x) none (some (x.1 : Int)) = spc x.1 from sl_to x.1 (txL x.2)]
      refine ⟨_, _, rfl, rfl, by show (spc x.1).length + (Str.ofString "x").length ≤ _; rw [spc_len, show (Str.ofString "x").length = 1 by decide +kernel]; lia, ?_⟩
      refine ⟨_, rfl, _, rfl, l, _, _, _, rfl, rfl, SqL.of hl, hat, _, rfl, _, _, rfl, rfl, _, rfl, _, rfl, by lia, ?_⟩
      rw [show Txt.slice (rdL x) (some ((x.1 : Int) + 1)) none = ⟨(tlL x.2).toArray⟩ from sl_from x.1 (cs_tx x.2)]
      have tl1 : (tlL x.2).length + 1 = (txL x.2).length := by rw [← cs_len, cs_tx]; rfl
      have z1 : (spc x.1 ++ Str.ofString "x" ++ ⟨(tlL x.2).toArray⟩).length = x.1 + 1 + (tlL x.2).length := by rw [sz_app, sz_app, spc_len, show (Str.ofString "x").length = 1 by decide +kernel, mk_len]
      have z2 : cs (spc x.1 ++ Str.ofString "x" ++ ⟨(tlL x.2).toArray⟩) = List.replicate x.1 32 ++ 120 :: tlL x.2 := by
        rw [cs_app, cs_app, cs_spc, show cs (Str.ofString "x") = [120] by decide +kernel, List.append_assoc]
        rfl
      have z3 : Sm (spc x.1 ++ Str.ofString "x" ++ ⟨(tlL x.2).toArray⟩) := Sm.app ((Sm.spc _).app (show ∀ c ∈ cs (Str.ofString "x"), c < 128 by decide +kernel)) fun c hc => smx c (by rw [cs_rd]; exact List.mem_append_right _ (List.mem_cons_of_mem _ hc))
      refine ⟨_, _, rfl, rfl, by show (spc x.1 ++ Str.ofString "x").length + (Str.mk (tlL x.2).toArray).length ≤ _; rw [sz_app] at z1; lia, ?_⟩
      refine ⟨l, lnsP t, i, _, rfl, hl, by lia, hi, fun r H' s' e' => ?_⟩
      exact q r _ H' s' e' (bad_at put_mem (no_first z2 (by decide) (by decide) (by decide) (by decide) (by decide))) (g0.put hi z3 (by lia))
    try unfold tNext
    dsimp only
    refine ⟨_, rfl, rfl, _, rfl, ?_⟩
    refine ite2 (fun z5 => ?_) (fun _ => ?_)
    · refine iteT ?_
      have e5 : wy = 5 := V.int.inj (of_decide_eq_true z5)
      subst e5
      refine ⟨_, rfl, _, rfl, _, _, rfl, rfl, by decide, by decide, by decide +kernel, by show 2 ≤ sizeLine; lia, fun g1 hg1 => ?_⟩
      have s1 : Same H (upd H g1 (.lst [V.str (Str.ofString ""), .str (Txt.mul (Str.ofString "y") 31)])) := Same.new hg1
      have e1 : (upd H g1 (.lst [V.str (Str.ofString ""), .str (Txt.mul (Str.ofString "y") 31)])) g1 = some (.lst [V.str (Str.ofString ""), .str (Txt.mul (Str.ofString "y") 31)]) := upd_same
      generalize (upd H g1 (.lst [V.str (Str.ofString ""), .str (Txt.mul (Str.ofString "y") 31)])) = H1 at s1 e1 ⊢
      have a5 : atI [V.str (Str.ofString ""), .str (Txt.mul (Str.ofString "y") 31)] ((5 : Int) - 5) = some (.str (Str.ofString "")) := by
        rw [show (5 : Int) - 5 = ((0 : Nat) : Int) by decide]
        exact atI_nat rfl
      refine ⟨_, rfl, _, _, rfl, rfl, g1, _, _, _, rfl, rfl, SqL.of e1, a5, ?_⟩
      exact ⟨a, ns, l, t, _, rfl, s1.seq hS, hn, s1 _ _ hl, ok, hw, hh, (show ∀ c ∈ cs (Str.ofString ""), c < 128 by decide +kernel), .inl (by decide +kernel), q.same s1⟩
    refine ⟨_, rfl, rfl, _, rfl, ?_⟩
    refine ite2 (fun z5 => ?_) (fun _ => ?_)
    · have e5 : wy = 6 := V.int.inj (of_decide_eq_true z5)
      subst e5
      refine ⟨_, rfl, _, rfl, _, _, rfl, rfl, by decide, by decide, by decide +kernel, by show 2 ≤ sizeLine; lia, fun g1 hg1 => ?_⟩
      have s1 : Same H (upd H g1 (.lst [V.str (Str.ofString ""), .str (Txt.mul (Str.ofString "y") 31)])) := Same.new hg1
      have e1 : (upd H g1 (.lst [V.str (Str.ofString ""), .str (Txt.mul (Str.ofString "y") 31)])) g1 = some (.lst [V.str (Str.ofString ""), .str (Txt.mul (Str.ofString "y") 31)]) := upd_same
      generalize (upd H g1 (.lst [V.str (Str.ofString ""), .str (Txt.mul (Str.ofString "y") 31)])) = H1 at s1 e1 ⊢
      have a5 : atI [V.str (Str.ofString ""), .str (Txt.mul (Str.ofString "y") 31)] ((6 : Int) - 5) = some (.str (Txt.mul (Str.ofString "y") 31)) := by
        rw [show (6 : Int) - 5 = ((1 : Nat) : Int) by decide]
        exact atI_nat rfl
      refine ⟨_, rfl, _, _, rfl, rfl, g1, _, _, _, rfl, rfl, SqL.of e1, a5, ?_⟩
      exact ⟨a, ns, l, t, _, rfl, s1.seq hS, hn, s1 _ _ hl, ok, hw, hh, (show ∀ c ∈ cs (Txt.mul (Str.ofString "y") 31), c < 128 by decide +kernel), .inr (by decide +kernel), q.same s1⟩
    try unfold tNext
    dsimp only
    refine seq_gen (fun σ' H' => σ' = [some (.ref a), some v, some (.ref l), some (.int wy), some (.int (i : Int)), none] ∧ H = H') ?_ (fun N hN => ?_)
    · rintro σ' H' ⟨rfl, rfl⟩
      refine ⟨_, rfl, _, _, rfl, .inl ⟨_, SqL.of hl, rfl⟩, _, _, rfl, rfl, ?_⟩
      rw [show (((lnsP t).map V.str).length : Int) - 1 = ((wtP t - 1 : Nat) : Int) by lia]
      have hlast : wtP t - 1 < (lnsP t).length := by lia
      obtain ⟨x', hx', lo', par', xh'⟩ := ln_at ok hlast
      have hst : x'.2 = .stop := by
        obtain ⟨B, j, e, _⟩ := tk_end t true 0 ok ok.ne
        have e2 : lnsP t = B.map rdL ++ [rdL (j, .stop)] := by rw [← tk_lns0, e, List.map_append]; rfl
        have e3 : B.length + 1 = wtP t := by
          have := congrArg List.length e2
          rw [List.length_append, List.length_map, hln] at this
          exact this.symm
        have e4 : (lnsP t)[wtP t - 1]? = some (rdL (j, .stop)) := by
          rw [e2, ← e3, Nat.add_sub_cancel, List.getElem?_append_right (by rw [List.length_map]; exact Nat.le_refl _), List.length_map, Nat.sub_self]
          rfl
        rw [hx'] at e4
        exact congrArg Prod.snd (rd_inj (Option.some.inj e4))
      have hat' : atI ((lnsP t).map V.str) ((wtP t - 1 : Nat) : Int) = some (.str (rdL x')) := atI_nat (by rw [List.getElem?_map, hx']; rfl)
      have hrl' := rd_len x'
      have htl' := tx_len lo'
      have smx' : Sm (rdL x') := lns_sm t true ok.wk _ (List.mem_of_getElem? hx')
      refine ⟨_, rfl, _, rfl, _, rfl, _, rfl, l, _, _, _, rfl, rfl, SqL.of hl, hat', by show 3 ≤ sizeLine; lia, fun g1 hg1 => ?_⟩
      have s1 : Same H (upd H g1 (.lst [V.str (Str.ofString "s"), .str (Str.ofString " "), .str (Str.ofString ".")])) := Same.new hg1
      have e1 : (upd H g1 (.lst [V.str (Str.ofString "s"), .str (Str.ofString " "), .str (Str.ofString ".")])) g1 = some (.lst [V.str (Str.ofString "s"), .str (Str.ofString " "), .str (Str.ofString ".")]) := upd_same
      generalize (upd H g1 (.lst [V.str (Str.ofString "s"), .str (Str.ofString " "), .str (Str.ofString ".")])) = H1 at s1 e1 ⊢
      have c3 : ∀ y ∈ [Str.ofString "s", Str.ofString " ", Str.ofString "."], (∀ c ∈ cs y, c < 128) ∧ y.length = 1 := by decide +kernel
      obtain ⟨m, rfl⟩ : ∃ m : Nat, (m : Int) = wy := ⟨wy.toNat, Int.toNat_of_nonneg w0⟩
      obtain ⟨c1, c2⟩ := getD_at (A := [Str.ofString "s", Str.ofString " ", Str.ofString "."]) (i := m % 3) (by show m % 3 < 3; lia)
      generalize [Str.ofString "s", Str.ofString " ", Str.ofString "."].getD (m % 3) Str.empty = y at c1 c2
      have c1' : atI [V.str (Str.ofString "s"), .str (Str.ofString " "), .str (Str.ofString ".")] ((m : Int) % 3) = some (.str y) := by
        rw [show (m : Int) % 3 = ((m % 3 : Nat) : Int) by lia]
        exact c1
      obtain ⟨y1, y2⟩ := c3 y c2
      refine ⟨_, rfl, _, _, rfl, rfl, (by show (0 : Int) < _; decide), g1, _, _, _, rfl, rfl, SqL.of e1, c1', ?_⟩
      refine ⟨_, _, rfl, rfl, by show (rdL x').length + y.length ≤ _; lia, ?_⟩
      have z1 : (rdL x' ++ y).length = (rdL x').length + y.length := sz_app _ _
      refine ⟨l, lnsP t, wtP t - 1, rdL x' ++ y, rfl, s1 _ _ hl, by lia, hlast, fun r H' s' e' => ?_⟩
      refine q r _ H' (s1.trans s') e' (bad_at put_mem ?_) (g0.put hlast (smx'.app y1) (by lia))
      obtain ⟨c, hc⟩ : ∃ c, cs y = [c] := List.length_eq_one_iff.mp (by rw [cs_len]; exact y2)
      refine no_stop (k := x'.1) (c := c) (r := []) ?_
      rw [cs_app, cs_rd, hst, hc]
      simp [hdL, tlL]
    · refine ⟨_, rfl, rfl, _, rfl, ?_⟩
      refine ite2 (fun _ => ?_) (fun _ => ?_)
      · refine iteT ?_
        refine ⟨_, rfl, v, t, rfl, tr, ok, hh, _, rfl, ?_⟩
        cases hb : hasB t with
        | false =>
          refine iteF ?_
          exact hN _ _ ⟨rfl, rfl⟩
        | true =>
          refine iteT ?_
          exact ⟨_, rfl, _, rfl, rfl, v, t, _, rfl, tr, ok, hb, hh, fun v' b H1 s1 tr1 ow no hb1 wb => ⟨v', b, rfl, tr1, ow, by lia, by decide, by lia, fun g H2 s2 _ e2 => q g (lnsP b) H2 (s1.trans s2) e2 (bad_bent ow no) (lnG_of ow (by lia) (by lia))⟩⟩
      · refine ⟨_, rfl, rfl, _, rfl, ?_⟩
        refine ite2 (fun _ => ?_) (fun _ => ?_)
        · refine ⟨_, rfl, v, t, rfl, tr, ok, hh, _, rfl, ?_⟩
          cases hb : hasB t with
          | false =>
            refine iteF ?_
            exact hN _ _ ⟨rfl, rfl⟩
          | true =>
            refine iteT ?_
            exact ⟨_, rfl, _, rfl, rfl, v, t, _, rfl, tr, ok, hb, hh, fun v' b H1 s1 tr1 ow no hb1 wb => ⟨v', b, rfl, tr1, ow, by lia, by decide, by lia, fun g H2 s2 _ e2 => q g (lnsP b) H2 (s1.trans s2) e2 (bad_bent ow no) (lnG_of ow (by lia) (by lia))⟩⟩
        · refine iteF ?_
          exact hN _ _ ⟨rfl, rfl⟩
theorem WyAt.ins {H : Hp} {us : List V} {as : List Str} (h : WyAt H us as) (j : Nat) {t : Addr} {a : Str} {v : V} (ht : H t = some (.tup [.str a, v])) : WyAt H (us.take j ++ V.ref t :: us.drop j) (as.take j ++ a :: as.drop j) := by
  have hl := h.len
  refine ⟨by simp only [List.length_append, List.length_take, List.length_cons, List.length_drop]; lia, fun i u b h1 h2 => ?_⟩
  have l1 : (us.take j).length = (as.take j).length := by rw [List.length_take, List.length_take, hl]
  rcases Nat.lt_trichotomy i (us.take j).length with hi | hi | hi
  · rw [List.getElem?_append_left hi] at h1
    rw [List.getElem?_append_left (by lia)] at h2
    have hij : i < j := by rw [List.length_take] at hi; lia
    rw [List.getElem?_take_of_lt hij] at h1 h2
    exact h.got i u b h1 h2
  · rw [List.getElem?_append_right (by lia), hi, Nat.sub_self] at h1
    rw [List.getElem?_append_right (by lia), hi, l1, Nat.sub_self] at h2
    cases h1
    cases h2
    exact ⟨t, v, rfl, ht⟩
  · obtain ⟨m, hm⟩ : ∃ m, i = (us.take j).length + (m + 1) := ⟨i - (us.take j).length - 1, by lia⟩
    rw [List.getElem?_append_right (by lia), show i - (us.take j).length = m + 1 by lia, List.getElem?_cons_succ, List.getElem?_drop] at h1
    rw [List.getElem?_append_right (by lia), show i - (as.take j).length = m + 1 by lia, List.getElem?_cons_succ, List.getElem?_drop] at h2
    exact h.got _ u b h1 h2
theorem ins_dup {as : List Str} {a : Str} (h : a ∈ as) (j : Nat) : ¬ (as.take j ++ a :: as.drop j).Nodup := fun nd => by
  rw [← List.take_append_drop j as] at h
  obtain ⟨_, n2, n3⟩ := List.nodup_append.mp nd
  rcases (List.mem_append.mp h) with h | h
  · exact n3 a h a List.mem_cons_self rfl
  · exact (List.nodup_cons.mp n2).1 h
theorem ok_law {f f1 f2 f3 f4 f5 f6 f7 f8 f9 : Addr} {C : C3} {fd d1 d2 d3 d4 d5 d6 d7 d8 d9 : FuncData} (F : Fun K "law" "law" sLaw f fd) (T : Bl mg) (OS : MkO K C.s) (mS : mg "Stop" = some (.ref C.s)) (D_l_names : Df K mg "_law_names" sNames pNames f1 d1) (G_l_names : FnOk P w K mg base CX0 4 f1 d1 pNames (spNames K)) (D_l_drawn_tree : Df K mg "_law_drawn_tree" sLDrawnTree pLDrawnTree f2 d2) (G_l_drawn_tree : FnOk P w K mg base CX0 13 f2 d2 pLDrawnTree (spDrawn K))
    (D_l_lines : Df K mg "_law_lines" sLLines pLLines f3 d3) (G_l_lines : FnOk P w K mg base CX0 46 f3 d3 pLLines (spLLines 45)) (D_read_plan : Df K mg "read_plan" sReadPlan pReadPlan f4 d4) (G_read_plan : FnOk P w K mg base CX0 5 f4 d4 pReadPlan (spReadPlan C)) (D_l_is : Df K mg "_law_is" sLIs pLIs f5 d5) (G_l_is : FnOk P w K mg base CX0 83 f5 d5 pLIs (spIs C 41))
    (D_l_unread : Df K mg "_law_unread" sLUnread pLUnread f6 d6) (G_l_unread : FnOk P w K mg base CX0 6 f6 d6 pLUnread spUnread) (D_l_unmade : Df K mg "_law_unmade" sLUnmade pLUnmade f7 d7) (G_l_unmade : FnOk P w K mg base CX0 4 f7 d7 pLUnmade spUnmade) (D_l_spoilt : Df K mg "_law_spoilt" sLSpoilt pLSpoilt f8 d8) (G_l_spoilt : FnOk P w K mg base CX0 50 f8 d8 pLSpoilt (spSpoilt K)) (D_l_draw : Df K mg "_law_draw" sLDraw pLDraw f9 d9) (G_l_draw : FnOk P w K mg base CX0 2 f9 d9 pLDraw (spDraw K)) : FnOk P w K mg base CX0 120 f fd ["_law_script"] (spLaw K) := by
  refine F.ok (k := 119) scLaw (fun vs H Q E h => ?_) (fun cdv A outer s H vs Q E hrX h => ?_)
  · obtain ⟨a, ns, rfl, _⟩ := h
    rfl
  · obtain ⟨a, ns, rfl, hS, hn, q⟩ := h
    have hr2 : Room 2 _ := hrX.mono (by decide)
    have hr4 : Room 4 _ := hrX.mono (by decide)
    have hr5 : Room 5 _ := hrX.mono (by decide)
    have hr6 : Room 6 _ := hrX.mono (by decide)
    have hr13 : Room 13 _ := hrX.mono (by decide)
    have hr50 : Room 50 _ := hrX.mono (by decide)
    have hrN : Room 46 _ := hrX.mono (by decide)
    have hrI : Room 83 _ := hrX.mono (by decide)
    have hun := hrX.units
    have hsl : sizeLine = 16777216 := sizeLine_eq
    refine ⟨_, (pss_cons (ps_set (i := 1) scLaw.nd rfl (Or.inl rfl) (pe_call G_l_names hr4 (by rfl) D_l_names.m D_l_names.F.kp D_l_names.b .nil pass0 (pa_cons (pv 0) pa_nil)))
      (pss_cons (ps_set (i := 2) scLaw.nd rfl (Or.inl rfl) (pe_call G_l_drawn_tree hr13 (by rfl) D_l_drawn_tree.m D_l_drawn_tree.F.kp D_l_drawn_tree.b .nil pass0 (pa_cons (pv 0) (pa_cons (pv 1) pa_nil))))
      (pss_cons (ps_set (i := 3) scLaw.nd rfl (Or.inl rfl) (pe_call G_l_lines hrN (by rfl) D_l_lines.m D_l_lines.F.kp D_l_lines.b .nil pass0 (pa_cons (pv 2) pa_nil)))
      (pss_cons (ps_if (pt_not (pt_val (pe_call G_l_unread hr6 (by rfl) D_l_unread.m D_l_unread.F.kp D_l_unread.b .nil pass0 (pa_cons (pe_call G_l_spoilt hr50 (by rfl) D_l_spoilt.m D_l_spoilt.F.kp D_l_spoilt.b .nil pass0 (pa_cons (pv 0) (pa_cons (pv 2) (pa_cons (pv 3) pa_nil)))) pa_nil)))) (pss_one (ps_ret pe_bl)) pss_nil)
      (pss_cons (ps_if (pt_not (pt_val (pe_call G_l_is hrI (by rfl) D_l_is.m D_l_is.F.kp D_l_is.b .nil pass0 (pa_cons (pe_call G_read_plan hr5 (by rfl) D_read_plan.m D_read_plan.F.kp D_read_plan.b .nil pass0 (pa_cons (pe_callTy call_list_of (by rfl) T.list bt_list (pa_cons (pv 3) pa_nil)) pa_nil)) (pa_cons (pv 2) pa_nil))))) (pss_one (ps_ret pe_bl)) pss_nil)
      (pss_cons (ps_if (pt_not (pt_val (pe_call G_l_unmade hr4 (by rfl) D_l_unmade.m D_l_unmade.F.kp D_l_unmade.b .nil pass0 (pa_cons (pe_ix ix_list (pe_ix ix_tup (pv 1) pe_int (fun _ _ => rfl)) pe_int (fun _ _ => rfl)) (pa_cons (pe_lst pa_nil) pa_nil))))) (pss_one (ps_ret pe_bl)) pss_nil)
      (pss_cons (ps_set (i := 4) scLaw.nd rfl (Or.inl rfl) (pe_ix ix_list (pe_ix ix_tup (pv 1) pe_int (fun _ _ => rfl)) (pe_call G_l_draw hr2 (by rfl) D_l_draw.m D_l_draw.F.kp D_l_draw.b .nil pass0 (pa_cons (pv 0) (pa_cons pe_int (pa_cons pe_int (pa_cons pe_int pa_nil))))) (fun _ _ => rfl)))
      (pss_cons (ps_lc (i := 5) (N := ["_law_other"]) (sc := defScope sLaw) (own := ["_law_other"]) (fr := []) (js := []) scLaw.nd rfl rfl ⟨rfl, rfl, rfl, rfl, by decide +kernel, by decide +kernel, by decide +kernel, rfl, by decide +kernel⟩ rfl (pi_list (pe_ix ix_tup (pv 1) pe_int (fun _ _ => rfl))) (fun _ _ _ _ => pg_name (i := 0) (show List.Nodup (["_law_other"] : List Str) by decide +kernel) rfl (Or.inl rfl)) (fun _ _ _ _ => pif_nil) (fun _ _ _ _ => (pe_tup (pa_cons (pv 0) (pa_cons (pe_makeO OS.ma OS.hi OS.so OS.kp (by rfl) mS) pa_nil)))))
      (pss_cons (ps_expr (pe_bm PySem.F.plainAttrs_list PySem.F.slot_list_insert PySem.F.type_list_insert mt_insert (pv 5) (pa_cons (pe_call G_l_draw hr2 (by rfl) D_l_draw.m D_l_draw.F.kp D_l_draw.b .nil pass0 (pa_cons (pv 0) (pa_cons pe_int (pa_cons pe_int (pa_cons pe_int pa_nil))))) (pa_cons (pe_tup (pa_cons (pv 4) (pa_cons (pe_makeO OS.ma OS.hi OS.so OS.kp (by rfl) mS) pa_nil))) pa_nil))))
      (pss_one (ps_ret (pe_and (pe_call G_l_unmade hr4 (by rfl) D_l_unmade.m D_l_unmade.F.kp D_l_unmade.b .nil pass0 (pa_cons (pe_ix ix_list (pe_ix ix_tup (pv 1) pe_int (fun _ _ => rfl)) pe_int (fun _ _ => rfl)) (pa_cons (pv 5) pa_nil))) (pe_one (pe_not (pe_call G_l_unread hr6 (by rfl) D_l_unread.m D_l_unread.F.kp D_l_unread.b .nil pass0 (pa_cons (pv 3) pa_nil)))))))))))))))), ?_⟩
    refine ⟨_, rfl, a, ns, rfl, hS, hn, fun t D L A' H1 s1 nm => ?_⟩
    refine ⟨_, rfl, _, rfl, a, ns, t, D, L, A', rfl, s1.seq hS, hn, nm, fun v p H2 s2 tr ok hh hw => ?_⟩
    have hw4 : wtP p ≤ 40000 := by lia
    refine ⟨_, rfl, v, p, rfl, tr, ok.wk, by lia, by decide, hw4, fun ln H3 s3 fr3 e3 => ?_⟩
    have s13 := s2.trans s3
    have nm3 := nm.same s13
    have hS3 := (s1.trans s13).seq hS
    have tr3 := tr.same s3
    have lg := lnG_of ok.wk (by lia) (by lia)
    -- lines spoilt
    refine ⟨_, rfl, _, rfl, _, rfl, a, ns, ln, p, v, rfl, hS3, hn, e3, tr3, ok, hw, hh, fun r ys H4 s4 e4 bad lg4 => ?_⟩
    refine ⟨r, ys, rfl, e4, lg4.1, lg4.2, .inl ⟨bad, fun H5 s5 => ⟨_, rfl, ?_⟩⟩⟩
    refine iteF ?_
    try unfold tNext
    dsimp only
    have s35 := s4.trans s5
    -- the plan
    refine ⟨_, rfl, ln, _, rfl, .inl (SqL.of (s35 _ _ e3)), fun h2 hh2 => ?_⟩
    have s6 : Same H5 (upd H5 h2 (.lst ((lnsP p).map V.str))) := Same.new hh2
    have e6 : (upd H5 h2 (.lst ((lnsP p).map V.str))) h2 = some (.lst ((lnsP p).map V.str)) := upd_same
    generalize (upd H5 h2 (.lst ((lnsP p).map V.str))) = H6 at s6 e6 ⊢
    refine ⟨h2, p, rfl, e6, ok, hw4, by lia, fun pv H7 s7 pl7 => ?_⟩
    have s37 := s35.trans (s6.trans s7)
    refine ⟨_, rfl, pv, v, p, rfl, pl7, tr3.same s37, ok, hh, fun H8 s8 => ⟨_, rfl, ?_⟩⟩
    refine iteF ?_
    try unfold tNext
    dsimp only
    have s38 := s37.trans s8
    have nm8 := nm3.same s38
    -- a look without ways
    obtain ⟨dl, ll, al, ht, hdl, hll, hal⟩ := nm8.got
    have t1 : atI [V.ref dl, .ref ll, .ref al] ((1 : Nat) : Int) = some (.ref ll) := atI_nat rfl
    have t2 : atI [V.ref dl, .ref ll, .ref al] ((2 : Nat) : Int) = some (.ref al) := atI_nat rfl
    obtain ⟨g0, _⟩ := getD_at (A := L) (i := 0) (by have := nm.l2; lia)
    obtain ⟨g1, _⟩ := getD_at (A := L) (i := 1) (by have := nm.l2; lia)
    refine ⟨_, rfl, t, _, _, _, rfl, rfl, SqT.of ht, t1, ll, _, _, _, rfl, rfl, SqL.of hll, g0, by show 0 ≤ sizeLine; lia, fun em hem => ?_⟩
    have s9 : Same H8 (upd H8 em (.lst [])) := Same.new hem
    refine ⟨_, em, [], [], rfl, upd_same, ⟨rfl, fun i u b h => nomatch h⟩, Nat.zero_le _, .inl rfl, fun H9 s9' => ⟨_, rfl, ?_⟩⟩
    refine iteF ?_
    try unfold tNext
    dsimp only
    have s89 := s9.trans s9'
    have s39 := s38.trans s89
    -- an answer twice
    refine ⟨_, rfl, t, _, _, _, rfl, rfl, SqT.of (s89 _ _ ht), t2, _, rfl, a, ns, _, _, _, rfl, s39.seq hS3, hn, by decide, by decide, by decide, by decide, fun j j0 j3 => ?_⟩
    obtain ⟨i, rfl⟩ : ∃ i : Nat, (i : Int) = j := ⟨j.toNat, Int.toNat_of_nonneg j0⟩
    obtain ⟨g2, g3⟩ := getD_at (A := A') (i := i) (by have := nm.a3; lia)
    refine ⟨al, _, _, _, rfl, rfl, SqL.of (s89 _ _ hal), g2, ?_⟩
    generalize A'.getD i Str.empty = an at g2 g3 ⊢
    have hal9 := s89 _ _ hal
    refine ⟨_, rfl, t, _, _, _, rfl, rfl, SqT.of (s89 _ _ ht), t2, al, rfl, ⟨_, SqL.of hal9⟩, fun DD hD => ?_⟩
    have hma : (A'.map V.str).length = A'.length := List.length_map ..
    have ha3 := nm.a3
    refine lcJ (n := (A'.map V.str).length) (fun i ys HA => WyAt HA ys (A'.take i) ∧ Same H9 HA ∧ HA DD = some (.lst ys)) ⟨⟨rfl, fun i u b h => nomatch h⟩, Same.new hD, upd_same⟩
      (fun i ys HA hi hh0 => by obtain ⟨_, sA, _⟩ := hh0; exact ⟨_, (A'.map V.str)[i], SqL.of (sA _ _ hal9), by simp [hi]⟩) (fun ys HA hh0 => by obtain ⟨_, sA, _⟩ := hh0; exact ⟨_, SqL.of (sA _ _ hal9), by simp⟩) ?_ ?_
    · rintro i ys HZ y HA hi ⟨wy, sA, eA⟩ ⟨rfl, hy⟩
      refine lc_yes ?_
      have hya := hy _ (SqL.of (sA _ _ hal9))
      rw [List.getElem?_map] at hya
      obtain ⟨z, hz, rfl⟩ := Option.map_eq_some_iff.mp hya
      obtain ⟨hi2, ez⟩ := List.getElem?_eq_some_iff.mp hz
      have hyl := wy.len
      rw [List.length_take] at hyl
      refine ⟨_, rfl, fun o dx ho hdx dn => ?_⟩
      have sB : Same HA (upd (upd HA dx (.own o)) o (.ins C.s dx [])) := (Same.new hdx).trans (Same.new (by rw [upd_ne dn.symm]; exact ho))
      generalize (upd (upd HA dx (.own o)) o (.ins C.s dx [])) = HB at sB ⊢
      refine ⟨by show 2 ≤ sizeLine; lia, fun tp htp => ?_⟩
      have sC : Same HB (upd HB tp (.tup [.str z, .ref o])) := Same.new htp
      have eC : (upd HB tp (.tup [.str z, .ref o])) tp = some (.tup [.str z, .ref o]) := upd_same
      generalize (upd HB tp (.tup [.str z, .ref o])) = HC at sC eC ⊢
      have sAC := sB.trans sC
      have eD := sAC _ _ eA
      refine ⟨_, eD, by lia, ?_, (sA.trans sAC).put hD, upd_same⟩
      have kD : ∀ c u, HC c = some u → c ≠ DD → (upd HC DD (.lst (ys ++ [.ref tp]))) c = some u := fun c u e hc => by rw [upd_ne hc]; exact e
      generalize (upd HC DD (.lst (ys ++ [.ref tp]))) = HD at kD ⊢
      have wyC := wy.same sAC
      have l9 : ys.length = (A'.take i).length := by rw [List.length_take]; exact hyl
      refine ⟨by rw [List.length_append, List.take_succ_eq_append_getElem hi2, List.length_append, l9]; rfl, fun m u b h1 h2 => ?_⟩
      rw [List.take_succ_eq_append_getElem hi2, ez] at h2
      rcases Nat.lt_or_ge m ys.length with hm | hm
      · rw [List.getElem?_append_left hm] at h1
        rw [List.getElem?_append_left (by lia)] at h2
        obtain ⟨t', v', e1, e2⟩ := wyC.got m u b h1 h2
        exact ⟨t', v', e1, kD _ _ e2 (ne_of e2 eD (by intro z; cases z))⟩
      · have hm2 : m < (ys ++ [V.ref tp]).length := (List.getElem?_eq_some_iff.mp h1).1
        have hm3 : m = ys.length := by rw [List.length_append, List.length_singleton] at hm2; lia
        subst hm3
        rw [List.getElem?_append_right (Nat.le_refl _), Nat.sub_self] at h1
        rw [List.getElem?_append_right (by lia), show ys.length - (A'.take i).length = 0 by lia] at h2
        cases h1
        cases h2
        exact ⟨tp, _, rfl, kD _ _ eC (ne_of eC eD (by intro z; cases z))⟩
    rintro ys HA ⟨wy, sA, eA⟩
    rw [hma, List.take_length] at wy
    have hyl := wy.len
    have s3A := s39.trans sA
    refine ⟨_, rfl, .inl ⟨rfl, _, SqL.of eA⟩, _, rfl, a, ns, _, _, _, rfl, s3A.seq hS3, hn, by decide, by decide, by decide, by decide, fun j j0 j4 => ?_⟩
    obtain ⟨j, rfl⟩ : ∃ i : Nat, (i : Int) = j := ⟨j.toNat, Int.toNat_of_nonneg j0⟩
    refine ⟨_, rfl, fun o dx ho hdx dn => ?_⟩
    have sB : Same HA (upd (upd HA dx (.own o)) o (.ins C.s dx [])) := (Same.new hdx).trans (Same.new (by rw [upd_ne dn.symm]; exact ho))
    generalize (upd (upd HA dx (.own o)) o (.ins C.s dx [])) = HB at sB ⊢
    refine ⟨by show 2 ≤ sizeLine; lia, fun tp htp => ?_⟩
    have sC : Same HB (upd HB tp (.tup [.str an, .ref o])) := Same.new htp
    have eC : (upd HB tp (.tup [.str an, .ref o])) tp = some (.tup [.str an, .ref o]) := upd_same
    generalize (upd HB tp (.tup [.str an, .ref o])) = HC at sC eC ⊢
    have sAC := sB.trans sC
    have eD := sAC _ _ eA
    have hD3 : H3 DD = none := s39.free hD
    refine ⟨DD, ys, _, _, rfl, rfl, j0, by lia, eD, by lia, ?_⟩
    rw [Int.toNat_natCast]
    have wyI := (wy.same sAC).ins j eC
    have kD : ∀ c u, HC c = some u → c ≠ DD → (upd HC DD (.lst (ys.take j ++ V.ref tp :: ys.drop j))) c = some u := fun c u e hc => by rw [upd_ne hc]; exact e
    have eDD : (upd HC DD (.lst (ys.take j ++ V.ref tp :: ys.drop j))) DD = some (.lst (ys.take j ++ V.ref tp :: ys.drop j)) := upd_same
    generalize (upd HC DD (.lst (ys.take j ++ V.ref tp :: ys.drop j))) = HD at kD eDD ⊢
    have s3D : Same H3 HD := fun c u e => kD c u (sAC _ _ (s3A _ _ e)) (ne_of_none e hD3)
    have wyD : WyAt HD (ys.take j ++ V.ref tp :: ys.drop j) (A'.take j ++ an :: A'.drop j) := ⟨wyI.len, fun m u b h1 h2 => by
      obtain ⟨t', v', e1, e2⟩ := wyI.got m u b h1 h2
      exact ⟨t', v', e1, kD _ _ e2 (ne_of e2 eD (by intro z; cases z))⟩⟩
    obtain ⟨dl, ll, al, ht, hdl, hll, hal⟩ := (nm3.same s3D).got
    have t1 : atI [V.ref dl, .ref ll, .ref al] ((1 : Nat) : Int) = some (.ref ll) := atI_nat rfl
    refine ⟨_, rfl, t, _, _, _, rfl, rfl, SqT.of ht, t1, ll, _, _, _, rfl, rfl, SqL.of hll, g1, _, rfl, ?_⟩
    refine ⟨_, DD, _, _, rfl, eDD, wyD, by simp only [List.length_append, List.length_take, List.length_cons, List.length_drop]; lia, .inr (ins_dup g3 j), fun HE sE => ⟨_, rfl, ?_⟩⟩
    refine iteT ?_
    exact ⟨_, rfl, ln, _, rfl, sE _ _ (s3D _ _ e3), lg.1, lg.2, .inr ⟨p, ok, rfl, by lia, fun HF sF => ⟨_, rfl, q HF⟩⟩⟩
end
end K38
namespace K38
open PySem L2 Tx Rk PyProof.Rows PySem.SeqAt
theorem ln1 {P : List Value → Prop} (h : ∀ a0 : Value, P [a0]) : ∀ us : List Value, us.length = 1 → P us := fun us hl => by
  obtain _ | ⟨a0, r0⟩ := us
  · exact absurd hl (by simp)
  obtain _ | ⟨b, r⟩ := r0
  · exact h a0
  · exact absurd hl (by simp)
theorem ln2 {P : List Value → Prop} (h : ∀ a0 a1 : Value, P [a0, a1]) : ∀ us : List Value, us.length = 2 → P us := fun us hl => by
  obtain _ | ⟨a0, r0⟩ := us
  · exact absurd hl (by simp)
  obtain _ | ⟨a1, r1⟩ := r0
  · exact absurd hl (by simp)
  obtain _ | ⟨b, r⟩ := r1
  · exact h a0 a1
  · exact absurd hl (by simp)
theorem ln3 {P : List Value → Prop} (h : ∀ a0 a1 a2 : Value, P [a0, a1, a2]) : ∀ us : List Value, us.length = 3 → P us := fun us hl => by
  obtain _ | ⟨a0, r0⟩ := us
  · exact absurd hl (by simp)
  obtain _ | ⟨a1, r1⟩ := r0
  · exact absurd hl (by simp)
  obtain _ | ⟨a2, r2⟩ := r1
  · exact absurd hl (by simp)
  obtain _ | ⟨b, r⟩ := r2
  · exact h a0 a1 a2
  · exact absurd hl (by simp)
theorem ln4 {P : List Value → Prop} (h : ∀ a0 a1 a2 a3 : Value, P [a0, a1, a2, a3]) : ∀ us : List Value, us.length = 4 → P us := fun us hl => by
  obtain _ | ⟨a0, r0⟩ := us
  · exact absurd hl (by simp)
  obtain _ | ⟨a1, r1⟩ := r0
  · exact absurd hl (by simp)
  obtain _ | ⟨a2, r2⟩ := r1
  · exact absurd hl (by simp)
  obtain _ | ⟨a3, r3⟩ := r2
  · exact absurd hl (by simp)
  obtain _ | ⟨b, r⟩ := r3
  · exact h a0 a1 a2 a3
  · exact absurd hl (by simp)
theorem all_mk {l : PySem.W.OpenLaw} {w : World} {K : PySem.W.Frag} {h : Heap} {mg : Str → Option Value} {fa GE NN CP CS CD CL f1 f2 f3 f4 f5 f6 f7 f8 f9 f10 f11 f12 f13 f14 f15 f16 f17 f18 f19 f20 f21 f22 f23 f24 f25 f26 f27 f28 f29 f30 f31 f32 f33 f34 f35 f36 f37 f38 : Addr} (X : K.In h) (G : h.Ns mainGlobals mg) (hfa : mg "law" = some (.ref fa))
    {od1 an1 od2 an2 od3 an3 od4 an4 od5 an5 od6 an6 od7 an7 od8 an8 od9 an9 od10 an10 od11 an11 od12 an12 od13 an13 od14 an14 od15 an15 od16 an16 od17 an17 od18 an18 od19 an19 od20 an20 od21 an21 od22 an22 od23 an23 od24 an24 od25 an25 od26 an26 od27 an27 od28 an28 od29 an29 od30 an30 od31 an31 od32 an32 od33 an33 od34 an34 od35 an35 od36 an36 od37 an37 od38 an38 : Option Addr} {sl1 sl2 sl3 sl4 sl5 sl6 sl7 sl8 sl9 sl10 sl11 sl12 sl13 sl14 sl15 sl16 sl17 sl18 sl19 sl20 sl21 sl22 sl23 sl24 sl25 sl26 sl27 sl28 sl29 sl30 sl31 sl32 sl33 sl34 sl35 sl36 sl37 sl38 : Array (Option Value)} {oc1 kV1 dc1 pm1 cd1 ct1 oc2 kV2 dc2 pm2 cd2 ct2 oc3 kV3 dc3 pm3 cd3 ct3 oc4 kV4 dc4 pm4 cd4 ct4 oc5 kV5 dc5 pm5 cd5 ct5 oc6 kV6 dc6 pm6 cd6 ct6 oc7 kV7 dc7 pm7 cd7 ct7 oc8 kV8 dc8 pm8 cd8 ct8 oc9 kV9 dc9 pm9 cd9 ct9 oc10 kV10 dc10 pm10 cd10 ct10 oc11 kV11 dc11 pm11 cd11 ct11 oc12 kV12 dc12 pm12 cd12 ct12 oc13 kV13 dc13 pm13 cd13 ct13 oc14 kV14 dc14 pm14 cd14 ct14 oc15 kV15 dc15 pm15 cd15 ct15 oc16 kV16 dc16 pm16 cd16 ct16 oc17 kV17 dc17 pm17 cd17 ct17 oc18 kV18 dc18 pm18 cd18 ct18 oc19 kV19 dc19 pm19 cd19 ct19 oc20 kV20 dc20 pm20 cd20 ct20 oc21 kV21 dc21 pm21 cd21 ct21 oc22 kV22 dc22 pm22 cd22 ct22 oc23 kV23 dc23 pm23 cd23 ct23 oc24 kV24 dc24 pm24 cd24 ct24 oc25 kV25 dc25 pm25 cd25 ct25 oc26 kV26 dc26 pm26 cd26 ct26 oc27 kV27 dc27 pm27 cd27 ct27 oc28 kV28 dc28 pm28 cd28 ct28 oc29 kV29 dc29 pm29 cd29 ct29 oc30 kV30 dc30 pm30 cd30 ct30 oc31 kV31 dc31 pm31 cd31 ct31 oc32 kV32 dc32 pm32 cd32 ct32 oc33 kV33 dc33 pm33 cd33 ct33 oc34 kV34 dc34 pm34 cd34 ct34 oc35 kV35 dc35 pm35 cd35 ct35 oc36 kV36 dc36 pm36 cd36 ct36 oc37 kV37 dc37 pm37 cd37 ct37 oc38 kV38 dc38 pm38 cd38 ct38 uN : Value}
    (a1 : PySem.W.nsIn K mainGlobals "rows_in" = some (some (.ref f1))) (l1 : K.lookup f1 = some ⟨oc1, od1, .func (PySem.W.fnOf "rows_in" "rows_in" (defArgs sRowsIn) (defBody sRowsIn) (defScope sRowsIn) .none kV1 dc1 pm1 an1 cd1 ct1), sl1⟩) (c1 : PySem.W.codeIn K cd1 "rows_in" = true) (k1 : PySem.W.keepIn K (.ref f1) = true)
    (a2 : PySem.W.nsIn K mainGlobals "check_ways" = some (some (.ref f2))) (l2 : K.lookup f2 = some ⟨oc2, od2, .func (PySem.W.fnOf "check_ways" "check_ways" (defArgs sCheckWays) (defBody sCheckWays) (defScope sCheckWays) .none kV2 dc2 pm2 an2 cd2 ct2), sl2⟩) (c2 : PySem.W.codeIn K cd2 "check_ways" = true) (k2 : PySem.W.keepIn K (.ref f2) = true)
    (a3 : PySem.W.nsIn K mainGlobals "read_plan" = some (some (.ref f3))) (l3 : K.lookup f3 = some ⟨oc3, od3, .func (PySem.W.fnOf "read_plan" "read_plan" (defArgs sReadPlan) (defBody sReadPlan) (defScope sReadPlan) .none kV3 dc3 pm3 an3 cd3 ct3), sl3⟩) (c3 : PySem.W.codeIn K cd3 "read_plan" = true) (k3 : PySem.W.keepIn K (.ref f3) = true)
    (a4 : PySem.W.nsIn K mainGlobals "read_line" = some (some (.ref f4))) (l4 : K.lookup f4 = some ⟨oc4, od4, .func (PySem.W.fnOf "read_line" "read_line" (defArgs sReadLine) (defBody sReadLine) (defScope sReadLine) .none kV4 dc4 pm4 an4 cd4 ct4), sl4⟩) (c4 : PySem.W.codeIn K cd4 "read_line" = true) (k4 : PySem.W.keepIn K (.ref f4) = true)
    (a5 : PySem.W.nsIn K mainGlobals "take_plan" = some (some (.ref f5))) (l5 : K.lookup f5 = some ⟨oc5, od5, .func (PySem.W.fnOf "take_plan" "take_plan" (defArgs sTakePlan) (defBody sTakePlan) (defScope sTakePlan) .none kV5 dc5 pm5 an5 cd5 ct5), sl5⟩) (c5 : PySem.W.codeIn K cd5 "take_plan" = true) (k5 : PySem.W.keepIn K (.ref f5) = true)
    (a6 : PySem.W.nsIn K mainGlobals "take_ways" = some (some (.ref f6))) (l6 : K.lookup f6 = some ⟨oc6, od6, .func (PySem.W.fnOf "take_ways" "take_ways" (defArgs sTakeWays) (defBody sTakeWays) (defScope sTakeWays) .none kV6 dc6 pm6 an6 cd6 ct6), sl6⟩) (c6 : PySem.W.codeIn K cd6 "take_ways" = true) (k6 : PySem.W.keepIn K (.ref f6) = true)
    (a7 : PySem.W.nsIn K mainGlobals "_law_cell" = some (some (.ref f7))) (l7 : K.lookup f7 = some ⟨oc7, od7, .func (PySem.W.fnOf "_law_cell" "_law_cell" (defArgs sLCell) (defBody sLCell) (defScope sLCell) .none kV7 dc7 pm7 an7 cd7 ct7), sl7⟩) (c7 : PySem.W.codeIn K cd7 "_law_cell" = true) (k7 : PySem.W.keepIn K (.ref f7) = true)
    (a8 : PySem.W.nsIn K mainGlobals "_law_draw" = some (some (.ref f8))) (l8 : K.lookup f8 = some ⟨oc8, od8, .func (PySem.W.fnOf "_law_draw" "_law_draw" (defArgs sLDraw) (defBody sLDraw) (defScope sLDraw) .none kV8 dc8 pm8 an8 cd8 ct8), sl8⟩) (c8 : PySem.W.codeIn K cd8 "_law_draw" = true) (k8 : PySem.W.keepIn K (.ref f8) = true)
    (a9 : PySem.W.nsIn K mainGlobals "_law_sign" = some (some (.ref f9))) (l9 : K.lookup f9 = some ⟨oc9, od9, .func (PySem.W.fnOf "_law_sign" "_law_sign" (defArgs sLSign) (defBody sLSign) (defScope sLSign) .none kV9 dc9 pm9 an9 cd9 ct9), sl9⟩) (c9 : PySem.W.codeIn K cd9 "_law_sign" = true) (k9 : PySem.W.keepIn K (.ref f9) = true)
    (a10 : PySem.W.nsIn K mainGlobals "_law_words" = some (some (.ref f10))) (l10 : K.lookup f10 = some ⟨oc10, od10, .func (PySem.W.fnOf "_law_words" "_law_words" (defArgs sLWords) (defBody sLWords) (defScope sLWords) .none kV10 dc10 pm10 an10 cd10 ct10), sl10⟩) (c10 : PySem.W.codeIn K cd10 "_law_words" = true) (k10 : PySem.W.keepIn K (.ref f10) = true)
    (a11 : PySem.W.nsIn K mainGlobals "_law_names" = some (some (.ref f11))) (l11 : K.lookup f11 = some ⟨oc11, od11, .func (PySem.W.fnOf "_law_names" "_law_names" (defArgs sNames) (defBody sNames) (defScope sNames) .none kV11 dc11 pm11 an11 cd11 ct11), sl11⟩) (c11 : PySem.W.codeIn K cd11 "_law_names" = true) (k11 : PySem.W.keepIn K (.ref f11) = true)
    (a12 : PySem.W.nsIn K mainGlobals "_law_deep" = some (some (.ref f12))) (l12 : K.lookup f12 = some ⟨oc12, od12, .func (PySem.W.fnOf "_law_deep" "_law_deep" (defArgs sLDeep) (defBody sLDeep) (defScope sLDeep) .none kV12 dc12 pm12 an12 cd12 ct12), sl12⟩) (c12 : PySem.W.codeIn K cd12 "_law_deep" = true) (k12 : PySem.W.keepIn K (.ref f12) = true)
    (a13 : PySem.W.nsIn K mainGlobals "_law_tree" = some (some (.ref f13))) (l13 : K.lookup f13 = some ⟨oc13, od13, .func (PySem.W.fnOf "_law_tree" "_law_tree" (defArgs sLTree) (defBody sLTree) (defScope sLTree) .none kV13 dc13 pm13 an13 cd13 ct13), sl13⟩) (c13 : PySem.W.codeIn K cd13 "_law_tree" = true) (k13 : PySem.W.keepIn K (.ref f13) = true)
    (a14 : PySem.W.nsIn K mainGlobals "_law_row_of_dos" = some (some (.ref f14))) (l14 : K.lookup f14 = some ⟨oc14, od14, .func (PySem.W.fnOf "_law_row_of_dos" "_law_row_of_dos" (defArgs sLRowOfDos) (defBody sLRowOfDos) (defScope sLRowOfDos) .none kV14 dc14 pm14 an14 cd14 ct14), sl14⟩) (c14 : PySem.W.codeIn K cd14 "_law_row_of_dos" = true) (k14 : PySem.W.keepIn K (.ref f14) = true)
    (a15 : PySem.W.nsIn K mainGlobals "_law_drawn_tree" = some (some (.ref f15))) (l15 : K.lookup f15 = some ⟨oc15, od15, .func (PySem.W.fnOf "_law_drawn_tree" "_law_drawn_tree" (defArgs sLDrawnTree) (defBody sLDrawnTree) (defScope sLDrawnTree) .none kV15 dc15 pm15 an15 cd15 ct15), sl15⟩) (c15 : PySem.W.codeIn K cd15 "_law_drawn_tree" = true) (k15 : PySem.W.keepIn K (.ref f15) = true)
    (a16 : PySem.W.nsIn K mainGlobals "_law_lines" = some (some (.ref f16))) (l16 : K.lookup f16 = some ⟨oc16, od16, .func (PySem.W.fnOf "_law_lines" "_law_lines" (defArgs sLLines) (defBody sLLines) (defScope sLLines) .none kV16 dc16 pm16 an16 cd16 ct16), sl16⟩) (c16 : PySem.W.codeIn K cd16 "_law_lines" = true) (k16 : PySem.W.keepIn K (.ref f16) = true)
    (a17 : PySem.W.nsIn K mainGlobals "_law_is" = some (some (.ref f17))) (l17 : K.lookup f17 = some ⟨oc17, od17, .func (PySem.W.fnOf "_law_is" "_law_is" (defArgs sLIs) (defBody sLIs) (defScope sLIs) .none kV17 dc17 pm17 an17 cd17 ct17), sl17⟩) (c17 : PySem.W.codeIn K cd17 "_law_is" = true) (k17 : PySem.W.keepIn K (.ref f17) = true)
    (a18 : PySem.W.nsIn K mainGlobals "_law_ways_are" = some (some (.ref f18))) (l18 : K.lookup f18 = some ⟨oc18, od18, .func (PySem.W.fnOf "_law_ways_are" "_law_ways_are" (defArgs sLWaysAre) (defBody sLWaysAre) (defScope sLWaysAre) .none kV18 dc18 pm18 an18 cd18 ct18), sl18⟩) (c18 : PySem.W.codeIn K cd18 "_law_ways_are" = true) (k18 : PySem.W.keepIn K (.ref f18) = true)
    (a19 : PySem.W.nsIn K mainGlobals "_law_unread" = some (some (.ref f19))) (l19 : K.lookup f19 = some ⟨oc19, od19, .func (PySem.W.fnOf "_law_unread" "_law_unread" (defArgs sLUnread) (defBody sLUnread) (defScope sLUnread) .none kV19 dc19 pm19 an19 cd19 ct19), sl19⟩) (c19 : PySem.W.codeIn K cd19 "_law_unread" = true) (k19 : PySem.W.keepIn K (.ref f19) = true)
    (a20 : PySem.W.nsIn K mainGlobals "_law_unmade" = some (some (.ref f20))) (l20 : K.lookup f20 = some ⟨oc20, od20, .func (PySem.W.fnOf "_law_unmade" "_law_unmade" (defArgs sLUnmade) (defBody sLUnmade) (defScope sLUnmade) .none kV20 dc20 pm20 an20 cd20 ct20), sl20⟩) (c20 : PySem.W.codeIn K cd20 "_law_unmade" = true) (k20 : PySem.W.keepIn K (.ref f20) = true)
    (a21 : PySem.W.nsIn K mainGlobals "_law_bent" = some (some (.ref f21))) (l21 : K.lookup f21 = some ⟨oc21, od21, .func (PySem.W.fnOf "_law_bent" "_law_bent" (defArgs sLBent) (defBody sLBent) (defScope sLBent) .none kV21 dc21 pm21 an21 cd21 ct21), sl21⟩) (c21 : PySem.W.codeIn K cd21 "_law_bent" = true) (k21 : PySem.W.keepIn K (.ref f21) = true)
    (a22 : PySem.W.nsIn K mainGlobals "_law_has_look" = some (some (.ref f22))) (l22 : K.lookup f22 = some ⟨oc22, od22, .func (PySem.W.fnOf "_law_has_look" "_law_has_look" (defArgs sLHasLook) (defBody sLHasLook) (defScope sLHasLook) .none kV22 dc22 pm22 an22 cd22 ct22), sl22⟩) (c22 : PySem.W.codeIn K cd22 "_law_has_look" = true) (k22 : PySem.W.keepIn K (.ref f22) = true)
    (a23 : PySem.W.nsIn K mainGlobals "_law_with" = some (some (.ref f23))) (l23 : K.lookup f23 = some ⟨oc23, od23, .func (PySem.W.fnOf "_law_with" "_law_with" (defArgs sLWith) (defBody sLWith) (defScope sLWith) .none kV23 dc23 pm23 an23 cd23 ct23), sl23⟩) (c23 : PySem.W.codeIn K cd23 "_law_with" = true) (k23 : PySem.W.keepIn K (.ref f23) = true)
    (a24 : PySem.W.nsIn K mainGlobals "_law_named" = some (some (.ref f24))) (l24 : K.lookup f24 = some ⟨oc24, od24, .func (PySem.W.fnOf "_law_named" "_law_named" (defArgs sLNamed) (defBody sLNamed) (defScope sLNamed) .none kV24 dc24 pm24 an24 cd24 ct24), sl24⟩) (c24 : PySem.W.codeIn K cd24 "_law_named" = true) (k24 : PySem.W.keepIn K (.ref f24) = true)
    (a25 : PySem.W.nsIn K mainGlobals "_law_spoilt" = some (some (.ref f25))) (l25 : K.lookup f25 = some ⟨oc25, od25, .func (PySem.W.fnOf "_law_spoilt" "_law_spoilt" (defArgs sLSpoilt) (defBody sLSpoilt) (defScope sLSpoilt) .none kV25 dc25 pm25 an25 cd25 ct25), sl25⟩) (c25 : PySem.W.codeIn K cd25 "_law_spoilt" = true) (k25 : PySem.W.keepIn K (.ref f25) = true)
    (a26 : PySem.W.nsIn K mainGlobals "law" = some (some (.ref f26))) (l26 : K.lookup f26 = some ⟨oc26, od26, .func (PySem.W.fnOf "law" "law" (defArgs sLaw) (defBody sLaw) (defScope sLaw) .none kV26 dc26 pm26 an26 cd26 ct26), sl26⟩) (c26 : PySem.W.codeIn K cd26 "law" = true) (k26 : PySem.W.keepIn K (.ref f26) = true)
    (aCP : PySem.W.nsIn K mainGlobals "Plan" = some (some (.ref CP))) (pgCP : PySem.W.plainGet K CP Str.empty = true) (hdCP : PySem.W.hasDictIn K CP = true) (poCP : PySem.W.plainOver K CP = true) (saCP : PySem.W.findIn K (.ref CP) "__setattr__" = some (some (.builtin "object.__setattr__"))) (mkCP : PySem.W.makesIn K CP = true) (kcCP : PySem.W.keepIn K (.ref CP) = true)
    (aCS : PySem.W.nsIn K mainGlobals "Stop" = some (some (.ref CS))) (pgCS : PySem.W.plainGet K CS Str.empty = true) (hdCS : PySem.W.hasDictIn K CS = true) (poCS : PySem.W.plainOver K CS = true) (saCS : PySem.W.findIn K (.ref CS) "__setattr__" = some (some (.builtin "object.__setattr__"))) (mkCS : PySem.W.makesIn K CS = true) (kcCS : PySem.W.keepIn K (.ref CS) = true)
    (aCD : PySem.W.nsIn K mainGlobals "Do" = some (some (.ref CD))) (pgCD : PySem.W.plainGet K CD Str.empty = true) (hdCD : PySem.W.hasDictIn K CD = true) (poCD : PySem.W.plainOver K CD = true) (saCD : PySem.W.findIn K (.ref CD) "__setattr__" = some (some (.builtin "object.__setattr__"))) (mkCD : PySem.W.makesIn K CD = true) (kcCD : PySem.W.keepIn K (.ref CD) = true)
    (nCD_1 : PySem.W.findIn K (.ref CD) "deed" = some none)
    (nCD_2 : PySem.W.findIn K (.ref CD) "rest" = some none)
    (aCL : PySem.W.nsIn K mainGlobals "Look" = some (some (.ref CL))) (pgCL : PySem.W.plainGet K CL Str.empty = true) (hdCL : PySem.W.hasDictIn K CL = true) (poCL : PySem.W.plainOver K CL = true) (saCL : PySem.W.findIn K (.ref CL) "__setattr__" = some (some (.builtin "object.__setattr__"))) (mkCL : PySem.W.makesIn K CL = true) (kcCL : PySem.W.keepIn K (.ref CL) = true)
    (nCL_1 : PySem.W.findIn K (.ref CL) "look" = some none)
    (nCL_2 : PySem.W.findIn K (.ref CL) "told_ways" = some none)
    (a27 : PySem.W.findIn K (.ref CS) "goes_on" = some (some (.ref f27))) (i27 : PySem.W.isFn K (.ref f27) = true) (l27 : K.lookup f27 = some ⟨oc27, od27, .func (PySem.W.fnOf "goes_on" "Stop.goes_on" (defArgs sStopGoesOn) (defBody sStopGoesOn) (defScope sStopGoesOn) .none kV27 dc27 pm27 an27 cd27 ct27), sl27⟩) (c27 : PySem.W.codeIn K cd27 "Stop.goes_on" = true) (k27 : PySem.W.keepIn K (.ref f27) = true)
    (a28 : PySem.W.findIn K (.ref CS) "line_here" = some (some (.ref f28))) (i28 : PySem.W.isFn K (.ref f28) = true) (l28 : K.lookup f28 = some ⟨oc28, od28, .func (PySem.W.fnOf "line_here" "Stop.line_here" (defArgs sStopLineHere) (defBody sStopLineHere) (defScope sStopLineHere) .none kV28 dc28 pm28 an28 cd28 ct28), sl28⟩) (c28 : PySem.W.codeIn K cd28 "Stop.line_here" = true) (k28 : PySem.W.keepIn K (.ref f28) = true)
    (a29 : PySem.W.findIn K (.ref CS) "lines" = some (some (.ref f29))) (i29 : PySem.W.isFn K (.ref f29) = true) (l29 : K.lookup f29 = some ⟨oc29, od29, .func (PySem.W.fnOf "lines" "Plan.lines" (defArgs sLines) (defBody sLines) (defScope sLines) .none kV29 dc29 pm29 an29 cd29 ct29), sl29⟩) (c29 : PySem.W.codeIn K cd29 "Plan.lines" = true) (k29 : PySem.W.keepIn K (.ref f29) = true)
    (a30 : PySem.W.findIn K (.ref CD) "__init__" = some (some (.ref f30))) (i30 : PySem.W.isFn K (.ref f30) = true) (l30 : K.lookup f30 = some ⟨oc30, od30, .func (PySem.W.fnOf "__init__" "Do.__init__" (defArgs sDoInit) (defBody sDoInit) (defScope sDoInit) .none kV30 dc30 pm30 an30 cd30 ct30), sl30⟩) (c30 : PySem.W.codeIn K cd30 "Do.__init__" = true) (k30 : PySem.W.keepIn K (.ref f30) = true)
    (a31 : PySem.W.findIn K (.ref CD) "goes_on" = some (some (.ref f31))) (i31 : PySem.W.isFn K (.ref f31) = true) (l31 : K.lookup f31 = some ⟨oc31, od31, .func (PySem.W.fnOf "goes_on" "Do.goes_on" (defArgs sDoGoesOn) (defBody sDoGoesOn) (defScope sDoGoesOn) .none kV31 dc31 pm31 an31 cd31 ct31), sl31⟩) (c31 : PySem.W.codeIn K cd31 "Do.goes_on" = true) (k31 : PySem.W.keepIn K (.ref f31) = true)
    (a32 : PySem.W.findIn K (.ref CD) "line_here" = some (some (.ref f32))) (i32 : PySem.W.isFn K (.ref f32) = true) (l32 : K.lookup f32 = some ⟨oc32, od32, .func (PySem.W.fnOf "line_here" "Do.line_here" (defArgs sDoLineHere) (defBody sDoLineHere) (defScope sDoLineHere) .none kV32 dc32 pm32 an32 cd32 ct32), sl32⟩) (c32 : PySem.W.codeIn K cd32 "Do.line_here" = true) (k32 : PySem.W.keepIn K (.ref f32) = true)
    (a33 : PySem.W.findIn K (.ref CD) "lines" = some (some (.ref f33))) (i33 : PySem.W.isFn K (.ref f33) = true) (l33 : K.lookup f33 = some ⟨oc33, od33, .func (PySem.W.fnOf "lines" "Plan.lines" (defArgs sLines) (defBody sLines) (defScope sLines) .none kV33 dc33 pm33 an33 cd33 ct33), sl33⟩) (c33 : PySem.W.codeIn K cd33 "Plan.lines" = true) (k33 : PySem.W.keepIn K (.ref f33) = true)
    (a34 : PySem.W.findIn K (.ref CL) "__init__" = some (some (.ref f34))) (i34 : PySem.W.isFn K (.ref f34) = true) (l34 : K.lookup f34 = some ⟨oc34, od34, .func (PySem.W.fnOf "__init__" "Look.__init__" (defArgs sLookInit) (defBody sLookInit) (defScope sLookInit) .none kV34 dc34 pm34 an34 cd34 ct34), sl34⟩) (c34 : PySem.W.codeIn K cd34 "Look.__init__" = true) (k34 : PySem.W.keepIn K (.ref f34) = true)
    (a35 : PySem.W.findIn K (.ref CL) "ways" = some (some (.ref f35))) (i35 : PySem.W.isFn K (.ref f35) = true) (l35 : K.lookup f35 = some ⟨oc35, od35, .func (PySem.W.fnOf "ways" "Look.ways" (defArgs sLookWays) (defBody sLookWays) (defScope sLookWays) .none kV35 dc35 pm35 an35 cd35 ct35), sl35⟩) (c35 : PySem.W.codeIn K cd35 "Look.ways" = true) (k35 : PySem.W.keepIn K (.ref f35) = true)
    (a36 : PySem.W.findIn K (.ref CL) "goes_on" = some (some (.ref f36))) (i36 : PySem.W.isFn K (.ref f36) = true) (l36 : K.lookup f36 = some ⟨oc36, od36, .func (PySem.W.fnOf "goes_on" "Look.goes_on" (defArgs sLookGoesOn) (defBody sLookGoesOn) (defScope sLookGoesOn) .none kV36 dc36 pm36 an36 cd36 ct36), sl36⟩) (c36 : PySem.W.codeIn K cd36 "Look.goes_on" = true) (k36 : PySem.W.keepIn K (.ref f36) = true)
    (a37 : PySem.W.findIn K (.ref CL) "line_here" = some (some (.ref f37))) (i37 : PySem.W.isFn K (.ref f37) = true) (l37 : K.lookup f37 = some ⟨oc37, od37, .func (PySem.W.fnOf "line_here" "Look.line_here" (defArgs sLookLineHere) (defBody sLookLineHere) (defScope sLookLineHere) .none kV37 dc37 pm37 an37 cd37 ct37), sl37⟩) (c37 : PySem.W.codeIn K cd37 "Look.line_here" = true) (k37 : PySem.W.keepIn K (.ref f37) = true)
    (a38 : PySem.W.findIn K (.ref CL) "lines" = some (some (.ref f38))) (i38 : PySem.W.isFn K (.ref f38) = true) (l38 : K.lookup f38 = some ⟨oc38, od38, .func (PySem.W.fnOf "lines" "Plan.lines" (defArgs sLines) (defBody sLines) (defScope sLines) .none kV38 dc38 pm38 an38 cd38 ct38), sl38⟩) (c38 : PySem.W.codeIn K cd38 "Plan.lines" = true) (k38 : PySem.W.keepIn K (.ref f38) = true)
    (aG : PySem.W.nsIn K mainGlobals "GropeError" = some (some (.ref GE))) (aE : PySem.W.nsIn K mainGlobals "NoPlan" = some (some (.ref NN))) (oG : PySem.W.excIn K GE bmV "ValueError.__new__" = true) (oE : PySem.W.excIn K NN bmV "ValueError.__new__" = true) (sE : mroIn K NN GE = true)
    (gN : PySem.W.nsIn K mainGlobals "MOST_SIGNS" = some (some uN)) (vN : absV uN = some (.int 30))
    (oS1 : PySem.W.findIn K (.ref CS) "__init__" = some (some (.builtin "object.__init__")))
    (oS2 : PySem.W.subIn K (.ref CS) (.type "object") = some true)
    (iPS : PySem.W.isIn K (.ref CS) CP = true)
    (iPD : PySem.W.isIn K (.ref CD) CP = true)
    (iPL : PySem.W.isIn K (.ref CL) CP = true)
    (z1 : PySem.W.nsIn K mainGlobals "len" = some none) (z2 : PySem.W.nsIn K mainGlobals "range" = some none) (z3 : PySem.W.nsIn K mainGlobals "tuple" = some none) (z4 : PySem.W.nsIn K mainGlobals "zip" = some none) (z5 : PySem.W.nsIn K mainGlobals "isinstance" = some none) (z6 : PySem.W.nsIn K mainGlobals "str" = some none) (z7 : PySem.W.nsIn K mainGlobals "list" = some none) (z8 : PySem.W.nsIn K mainGlobals "set" = some none) (z9 : PySem.W.nsIn K mainGlobals "all" = some none) (z10 : PySem.W.nsIn K mainGlobals "sorted" = some none) (z11 : PySem.W.nsIn K mainGlobals "int" = some none) (z12 : PySem.W.nsIn K mainGlobals "bool" = some none) (z13 : PySem.W.nsIn K mainGlobals "sum" = some none) (z14 : PySem.W.nsIn K mainGlobals "max" = some none) (z15 : PySem.W.nsIn K mainGlobals "enumerate" = some none) (z16 : PySem.W.nsIn K mainGlobals "dict" = some none) (z17 : PySem.W.nsIn K mainGlobals "ValueError" = some none) (z18 : PySem.W.nsIn K mainGlobals "reversed" = some none) :
    ∃ fd : FuncData, (∀ (s : Shared) (v : Value), BindsTo s fd ⟨[v], []⟩ [("_law_script", v)]) ∧ ∀ base : Heap, K.In base → base.Ns mainGlobals mg → FnOk l.prog w K mg base CX0 120 fa fd ["_law_script"] (spLaw K) := by
  have e := hfa.symm.trans (PySem.W.mg_of X G a26)
  cases e
  have T : Bl mg := ⟨PySem.W.mg_none_of X G z1, PySem.W.mg_none_of X G z2, PySem.W.mg_none_of X G z3, PySem.W.mg_none_of X G z4, PySem.W.mg_none_of X G z5, PySem.W.mg_none_of X G z6, PySem.W.mg_none_of X G z7, PySem.W.mg_none_of X G z8, PySem.W.mg_none_of X G z9, PySem.W.mg_none_of X G z10, PySem.W.mg_none_of X G z11, PySem.W.mg_none_of X G z12, PySem.W.mg_none_of X G z13, PySem.W.mg_none_of X G z14, PySem.W.mg_none_of X G z15, PySem.W.mg_none_of X G z16, PySem.W.mg_none_of X G z17, PySem.W.mg_none_of X G z18⟩
  obtain ⟨tN, eN⟩ := (rel_abs vN : RelV (.int 30) uN)
  rw [eN] at gN
  have F1 := fun_mk (st := sRowsIn) l1 c1 k1
  have F2 := fun_mk (st := sCheckWays) l2 c2 k2
  have F3 := fun_mk (st := sReadPlan) l3 c3 k3
  have F4 := fun_mk (st := sReadLine) l4 c4 k4
  have F5 := fun_mk (st := sTakePlan) l5 c5 k5
  have F6 := fun_mk (st := sTakeWays) l6 c6 k6
  have F7 := fun_mk (st := sLCell) l7 c7 k7
  have F8 := fun_mk (st := sLDraw) l8 c8 k8
  have F9 := fun_mk (st := sLSign) l9 c9 k9
  have F10 := fun_mk (st := sLWords) l10 c10 k10
  have F11 := fun_mk (st := sNames) l11 c11 k11
  have F12 := fun_mk (st := sLDeep) l12 c12 k12
  have F13 := fun_mk (st := sLTree) l13 c13 k13
  have F14 := fun_mk (st := sLRowOfDos) l14 c14 k14
  have F15 := fun_mk (st := sLDrawnTree) l15 c15 k15
  have F16 := fun_mk (st := sLLines) l16 c16 k16
  have F17 := fun_mk (st := sLIs) l17 c17 k17
  have F18 := fun_mk (st := sLWaysAre) l18 c18 k18
  have F19 := fun_mk (st := sLUnread) l19 c19 k19
  have F20 := fun_mk (st := sLUnmade) l20 c20 k20
  have F21 := fun_mk (st := sLBent) l21 c21 k21
  have F22 := fun_mk (st := sLHasLook) l22 c22 k22
  have F23 := fun_mk (st := sLWith) l23 c23 k23
  have F24 := fun_mk (st := sLNamed) l24 c24 k24
  have F25 := fun_mk (st := sLSpoilt) l25 c25 k25
  have F26 := fun_mk (st := sLaw) l26 c26 k26
  have F27 := fun_mk (st := sStopGoesOn) l27 c27 k27
  have b27 := F27.binds (ps := ["self"]) fun _ _ _ _ _ _ => ln1 fun _ => rfl
  have F28 := fun_mk (st := sStopLineHere) l28 c28 k28
  have b28 := F28.binds (ps := ["self"]) fun _ _ _ _ _ _ => ln1 fun _ => rfl
  have F29 := fun_mk (st := sLines) l29 c29 k29
  have b29 := F29.binds (ps := ["self"]) fun _ _ _ _ _ _ => ln1 fun _ => rfl
  have F30 := fun_mk (st := sDoInit) l30 c30 k30
  have b30 := F30.binds (ps := ["self", "deed", "rest"]) fun _ _ _ _ _ _ => ln3 fun _ _ _ => rfl
  have F31 := fun_mk (st := sDoGoesOn) l31 c31 k31
  have b31 := F31.binds (ps := ["self"]) fun _ _ _ _ _ _ => ln1 fun _ => rfl
  have F32 := fun_mk (st := sDoLineHere) l32 c32 k32
  have b32 := F32.binds (ps := ["self"]) fun _ _ _ _ _ _ => ln1 fun _ => rfl
  have F33 := fun_mk (st := sLines) l33 c33 k33
  have b33 := F33.binds (ps := ["self"]) fun _ _ _ _ _ _ => ln1 fun _ => rfl
  have F34 := fun_mk (st := sLookInit) l34 c34 k34
  have b34 := F34.binds (ps := ["self", "look", "ways"]) fun _ _ _ _ _ _ => ln3 fun _ _ _ => rfl
  have F35 := fun_mk (st := sLookWays) l35 c35 k35
  have b35 := F35.binds (ps := ["self"]) fun _ _ _ _ _ _ => ln1 fun _ => rfl
  have F36 := fun_mk (st := sLookGoesOn) l36 c36 k36
  have b36 := F36.binds (ps := ["self"]) fun _ _ _ _ _ _ => ln1 fun _ => rfl
  have F37 := fun_mk (st := sLookLineHere) l37 c37 k37
  have b37 := F37.binds (ps := ["self"]) fun _ _ _ _ _ _ => ln1 fun _ => rfl
  have F38 := fun_mk (st := sLines) l38 c38 k38
  have b38 := F38.binds (ps := ["self"]) fun _ _ _ _ _ _ => ln1 fun _ => rfl
  have CCP : Cls K CP := ⟨pgCP, hdCP, poCP, saCP⟩
  have CCS : Cls K CS := ⟨pgCS, hdCS, poCS, saCS⟩
  have CCD : Cls K CD := ⟨pgCD, hdCD, poCD, saCD⟩
  have CCL : Cls K CL := ⟨pgCL, hdCL, poCL, saCL⟩
  have D1 : Df K mg "rows_in" sRowsIn ["plan"] f1 _ := ⟨F1, PySem.W.mg_of X G a1, F1.binds (ps := ["plan"]) fun _ _ _ _ _ _ => ln1 fun _ => rfl⟩
  have D2 : Df K mg "check_ways" sCheckWays ["ways"] f2 _ := ⟨F2, PySem.W.mg_of X G a2, F2.binds (ps := ["ways"]) fun _ _ _ _ _ _ => ln1 fun _ => rfl⟩
  have D3 : Df K mg "read_plan" sReadPlan ["lines"] f3 _ := ⟨F3, PySem.W.mg_of X G a3, F3.binds (ps := ["lines"]) fun _ _ _ _ _ _ => ln1 fun _ => rfl⟩
  have D4 : Df K mg "read_line" sReadLine ["line", "made"] f4 _ := ⟨F4, PySem.W.mg_of X G a4, F4.binds (ps := ["line", "made"]) fun _ _ _ _ _ _ => ln2 fun _ _ => rfl⟩
  have D5 : Df K mg "take_plan" sTakePlan ["made", "ahead"] f5 _ := ⟨F5, PySem.W.mg_of X G a5, F5.binds (ps := ["made", "ahead"]) fun _ _ _ _ _ _ => ln2 fun _ _ => rfl⟩
  have D6 : Df K mg "take_ways" sTakeWays ["made", "ahead"] f6 _ := ⟨F6, PySem.W.mg_of X G a6, F6.binds (ps := ["made", "ahead"]) fun _ _ _ _ _ _ => ln2 fun _ _ => rfl⟩
  have D7 : Df K mg "_law_cell" sLCell ["_law_script", "_law_k"] f7 _ := ⟨F7, PySem.W.mg_of X G a7, F7.binds (ps := ["_law_script", "_law_k"]) fun _ _ _ _ _ _ => ln2 fun _ _ => rfl⟩
  have D8 : Df K mg "_law_draw" sLDraw ["_law_script", "_law_k", "_law_prime", "_law_many"] f8 _ := ⟨F8, PySem.W.mg_of X G a8, F8.binds (ps := ["_law_script", "_law_k", "_law_prime", "_law_many"]) fun _ _ _ _ _ _ => ln4 fun _ _ _ _ => rfl⟩
  have D9 : Df K mg "_law_sign" sLSign ["_law_number"] f9 _ := ⟨F9, PySem.W.mg_of X G a9, F9.binds (ps := ["_law_number"]) fun _ _ _ _ _ _ => ln1 fun _ => rfl⟩
  have D10 : Df K mg "_law_words" sLWords ["_law_script", "_law_k", "_law_letters"] f10 _ := ⟨F10, PySem.W.mg_of X G a10, F10.binds (ps := ["_law_script", "_law_k", "_law_letters"]) fun _ _ _ _ _ _ => ln3 fun _ _ _ => rfl⟩
  have D11 : Df K mg "_law_names" sNames ["_law_script"] f11 _ := ⟨F11, PySem.W.mg_of X G a11, F11.binds (ps := ["_law_script"]) fun _ _ _ _ _ _ => ln1 fun _ => rfl⟩
  have D12 : Df K mg "_law_deep" sLDeep ["_law_script", "_law_k", "_law_prime", "_law_many"] f12 _ := ⟨F12, PySem.W.mg_of X G a12, F12.binds (ps := ["_law_script", "_law_k", "_law_prime", "_law_many"]) fun _ _ _ _ _ _ => ln4 fun _ _ _ _ => rfl⟩
  have D13 : Df K mg "_law_tree" sLTree ["_law_script", "_law_k", "_law_deep_here", "_law_words_here"] f13 _ := ⟨F13, PySem.W.mg_of X G a13, F13.binds (ps := ["_law_script", "_law_k", "_law_deep_here", "_law_words_here"]) fun _ _ _ _ _ _ => ln4 fun _ _ _ _ => rfl⟩
  have D14 : Df K mg "_law_row_of_dos" sLRowOfDos ["_law_script", "_law_count", "_law_words_here"] f14 _ := ⟨F14, PySem.W.mg_of X G a14, F14.binds (ps := ["_law_script", "_law_count", "_law_words_here"]) fun _ _ _ _ _ _ => ln3 fun _ _ _ => rfl⟩
  have D15 : Df K mg "_law_drawn_tree" sLDrawnTree ["_law_script", "_law_words_here"] f15 _ := ⟨F15, PySem.W.mg_of X G a15, F15.binds (ps := ["_law_script", "_law_words_here"]) fun _ _ _ _ _ _ => ln2 fun _ _ => rfl⟩
  have D16 : Df K mg "_law_lines" sLLines ["_law_tree_here"] f16 _ := ⟨F16, PySem.W.mg_of X G a16, F16.binds (ps := ["_law_tree_here"]) fun _ _ _ _ _ _ => ln1 fun _ => rfl⟩
  have D17 : Df K mg "_law_is" sLIs ["_law_plan", "_law_tree_here"] f17 _ := ⟨F17, PySem.W.mg_of X G a17, F17.binds (ps := ["_law_plan", "_law_tree_here"]) fun _ _ _ _ _ _ => ln2 fun _ _ => rfl⟩
  have D18 : Df K mg "_law_ways_are" sLWaysAre ["_law_told", "_law_ways"] f18 _ := ⟨F18, PySem.W.mg_of X G a18, F18.binds (ps := ["_law_told", "_law_ways"]) fun _ _ _ _ _ _ => ln2 fun _ _ => rfl⟩
  have D19 : Df K mg "_law_unread" sLUnread ["_law_lines_here"] f19 _ := ⟨F19, PySem.W.mg_of X G a19, F19.binds (ps := ["_law_lines_here"]) fun _ _ _ _ _ _ => ln1 fun _ => rfl⟩
  have D20 : Df K mg "_law_unmade" sLUnmade ["_law_look", "_law_ways"] f20 _ := ⟨F20, PySem.W.mg_of X G a20, F20.binds (ps := ["_law_look", "_law_ways"]) fun _ _ _ _ _ _ => ln2 fun _ _ => rfl⟩
  have D21 : Df K mg "_law_bent" sLBent ["_law_tree_here", "_law_doubled"] f21 _ := ⟨F21, PySem.W.mg_of X G a21, F21.binds (ps := ["_law_tree_here", "_law_doubled"]) fun _ _ _ _ _ _ => ln2 fun _ _ => rfl⟩
  have D22 : Df K mg "_law_has_look" sLHasLook ["_law_tree_here"] f22 _ := ⟨F22, PySem.W.mg_of X G a22, F22.binds (ps := ["_law_tree_here"]) fun _ _ _ _ _ _ => ln1 fun _ => rfl⟩
  have D23 : Df K mg "_law_with" sLWith ["_law_lines_here", "_law_at", "_law_line"] f23 _ := ⟨F23, PySem.W.mg_of X G a23, F23.binds (ps := ["_law_lines_here", "_law_at", "_law_line"]) fun _ _ _ _ _ _ => ln3 fun _ _ _ => rfl⟩
  have D24 : Df K mg "_law_named" sLNamed ["_law_script", "_law_lines_here", "_law_name"] f24 _ := ⟨F24, PySem.W.mg_of X G a24, F24.binds (ps := ["_law_script", "_law_lines_here", "_law_name"]) fun _ _ _ _ _ _ => ln3 fun _ _ _ => rfl⟩
  have D25 : Df K mg "_law_spoilt" sLSpoilt ["_law_script", "_law_tree_here", "_law_lines_here"] f25 _ := ⟨F25, PySem.W.mg_of X G a25, F25.binds (ps := ["_law_script", "_law_tree_here", "_law_lines_here"]) fun _ _ _ _ _ _ => ln3 fun _ _ _ => rfl⟩
  refine ⟨PySem.W.fnOf "law" "law" (defArgs sLaw) (defBody sLaw) (defScope sLaw) .none kV26 dc26 pm26 an26 cd26 ct26, fun s v => .of_eq rfl, fun base _ _ => ?_⟩
  have R' : Er K mg GE NN := ⟨PySem.W.mg_of X G aG, PySem.W.mg_of X G aE, oG, oE, sE⟩
  have Gce := ok_cell (P := l.prog) (w := w) (base := base) F7 T
  have GdD := ok_drawD (P := l.prog) (w := w) (base := base) F8 D7 Gce
  have Gdr := ok_draw GdD
  have Gsg := ok_sign (P := l.prog) (w := w) (mg := mg) (base := base) F9
  have Gws := ok_words (P := l.prog) (w := w) (base := base) F10 T D8 GdD D9 Gsg
  have Gnm := ok_names (P := l.prog) (w := w) (base := base) F11 D10 Gws
  have Gdp := ok_deep (P := l.prog) (w := w) (base := base) F12 D7 Gce
  have Gtr := ok_tree (P := l.prog) (w := w) (base := base) F13 T D13 D12 Gdp
  have Grw := ok_row (P := l.prog) (w := w) (base := base) F14 T D12 Gdp
  have Gdt := ok_drawn (P := l.prog) (w := w) (base := base) F15 D8 Gdr D14 Grw D13 (Gtr 9)
  have Gln := ok_llines (P := l.prog) (w := w) (base := base) F16 D16
  have LD : ClD K CD := ⟨CCD, nCD_1, nCD_2⟩
  have LL : ClL K CL := ⟨CCL, nCL_1, nCL_2⟩
  have Gsgo := ok_stopgo (P := l.prog) (w := w) (mg := mg) (base := base) F27
  have Gshe := ok_stophere (P := l.prog) (w := w) (mg := mg) (base := base) F28
  have Gdi := ok_doinit (P := l.prog) (w := w) (mg := mg) (base := base) F30 LD
  have Gdgo := ok_dogo (P := l.prog) (w := w) (mg := mg) (base := base) F31 LD
  have Gdhe := ok_dohere (P := l.prog) (w := w) (mg := mg) (base := base) F32 LD
  have Gcw := ok_checkways (P := l.prog) (w := w) (base := base) F2 T
  have Glhe := ok_lkhere (P := l.prog) (w := w) (mg := mg) (base := base) F37 LL
  have Glw := ok_lkways (P := l.prog) (w := w) (base := base) F35 LL T
  have Glgo := ok_lkgo (P := l.prog) (w := w) (base := base) F36 LL b35 ⟨a35, i35, k35⟩ Glw
  have Gli := ok_lkinit (P := l.prog) (w := w) (base := base) F34 LL T D2 Gcw
  have Gtp := ok_takeplan (P := l.prog) (w := w) (base := base) (C := ⟨CS, CD, CL⟩) F5 T
  have Gtw := ok_takeways (P := l.prog) (w := w) (base := base) (C := ⟨CS, CD, CL⟩) F6 T
  have Grl := ok_readline (P := l.prog) (w := w) (base := base) (C := ⟨CS, CD, CL⟩) F4 T ⟨_, PySem.W.mg_of X G gN⟩ ⟨mkCS, oS1, oS2, kcCS⟩ (PySem.W.mg_of X G aCS) ⟨mkCD, a30, i30, kcCD⟩ (PySem.W.mg_of X G aCD) b30 Gdi ⟨mkCL, a34, i34, kcCL⟩ (PySem.W.mg_of X G aCL) b34 Gli D5 Gtp D6 Gtw
  have Grp := ok_readplan (P := l.prog) (w := w) (base := base) (C := ⟨CS, CD, CL⟩) F3 T D4 Grl D5 Gtp
  have VWL : MV l.prog w K mg base CL "ways" 1 (spLkWays CL) := ⟨CCL, _, _, ⟨a35, i35, k35⟩, Glw, b35⟩
  have Bcw := ok_bcheck (P := l.prog) (w := w) (base := base) F2 T R'
  have Bli := ok_blkinit (P := l.prog) (w := w) (base := base) F34 LL T D2 Bcw
  have Btp := ok_btake (P := l.prog) (w := w) (base := base) (C := ⟨CS, CD, CL⟩) F5 T R'
  have Brl := ok_bline (P := l.prog) (w := w) (base := base) (C := ⟨CS, CD, CL⟩) F4 T R' ⟨_, PySem.W.mg_of X G gN⟩ ⟨mkCS, oS1, oS2, kcCS⟩ (PySem.W.mg_of X G aCS) ⟨mkCD, a30, i30, kcCD⟩ (PySem.W.mg_of X G aCD) b30 Gdi ⟨mkCL, a34, i34, kcCL⟩ (PySem.W.mg_of X G aCL) b34 Bli D5 Btp D6 Gtw
  have Bpl := ok_bplan (P := l.prog) (w := w) (base := base) (C := ⟨CS, CD, CL⟩) F3 T R' D4 Brl D5 Btp
  have Bpa := FnOk.or (FnOk.up (CX := CXe l.prog w) Grp) Bpl
  have Gur := ok_unread (P := l.prog) (w := w) (base := base) (C := ⟨CS, CD, CL⟩) F19 T R' D3 Bpa
  have Gum := ok_unmade (P := l.prog) (w := w) (base := base) (C := ⟨CS, CD, CL⟩) F20 R' ⟨mkCL, a34, i34, kcCL⟩ (PySem.W.mg_of X G aCL) b34 Bli
  have Gbe := ok_bent (P := l.prog) (w := w) (base := base) F21 D21
  have Gha := ok_has (P := l.prog) (w := w) (base := base) F22 D22
  have Gwi := ok_with (P := l.prog) (w := w) (mg := mg) (base := base) F23
  have Gna := ok_named (P := l.prog) (w := w) (base := base) F24 T D8 Gdr D23 Gwi
  have Gsp := ok_spoilt (P := l.prog) (w := w) (base := base) F25 T D8 Gdr D23 Gwi D24 Gna D22 (Gha 41) D21 (Gbe 41) D16 (Gln 45)
  have Gis := ok_is (P := l.prog) (w := w) (base := base) (C := ⟨CS, CD, CL⟩) F17 T ⟨iPS, iPD, iPL⟩ LD LL (PySem.W.mg_of X G aCP) (PySem.W.mg_of X G aCS) (PySem.W.mg_of X G aCD) (PySem.W.mg_of X G aCL) VWL D17 (fun n G => ok_waysare F18 T D17 G) D18
  exact ok_law (C := ⟨CS, CD, CL⟩) F26 T ⟨mkCS, oS1, oS2, kcCS⟩ (PySem.W.mg_of X G aCS) D11 Gnm D15 Gdt D16 (Gln 45) D3 Grp D17 (Gis 41) D19 Gur D20 Gum D25 Gsp D8 Gdr
theorem walk {l : PySem.W.OpenLaw} {q : Program} {loose : List Str} {XP : (Str → Option Value) → Heap → Prop} {YP : World → Heap → Prop} {d : DefRec} {K : Params → PySem.W.Frag} (hn : l.most = some 63) (hdf : d.params.defaults = [])
    (hY : ∀ (w : World) (h : Heap), YP w h → (K w.params).In h)
    (F : ∀ (w : World) (mg : Str → Option Value) (fa : Addr) (h : Heap), (K w.params).In h → h.Ns mainGlobals mg → mg d.name = some (.ref fa) →
      ∃ fd : FuncData, (∀ (s : Shared) (u : Value), BindsTo s fd ⟨[u], []⟩ [("_law_script", u)]) ∧ ∀ base : Heap, (K w.params).In base → base.Ns mainGlobals mg → FnOk l.prog w (K w.params) mg base CX0 120 fa fd ["_law_script"] (spLaw (K w.params))) :
    PySem.W.WalkO q loose XP YP l.row.toRowW d [] (fun f vs => PySem.call f vs) :=
  L2.walk_of (n := 63) (k := 120) (x := "_law_script") (CX := fun _ => CX0) (sp := fun w => spLaw (K w.params)) hn (by decide) hdf ⟨rfl, by decide, by decide⟩ hY F (fun _ _ a ns hl _ hS => ⟨a, ns, rfl, hS, hl, fun _ => rfl⟩) fun _ _ _ _ _ z => z
end K38
def PySem.W.Fast.tw15818737125002608977 : Nat := 0
def PySem.W.Fast.tw9450461150998235696 : Nat := 0
def PySem.W.Fast.tw5417281408266035453 : Nat := 0
def PySem.W.Fast.tw14510471739757819645 : Nat := 0
def PySem.W.Fast.tw12263309752613480797 : Nat := 0
def PySem.W.Fast.tw17409857014215506208 : Nat := 0
def PySem.W.Fast.tw17771583495270610364 : Nat := 0
def PySem.W.Fast.tw2069969711140246617 : Nat := 0
def PySem.W.Fast.tw11304394524753606895 : Nat := 0
def PySem.W.Fast.tw16905171914056922861 : Nat := 0
def PySem.W.Fast.tw12603029259747864317 : Nat := 0
def PySem.W.Fast.tw8806182810930438890 : Nat := 0
def PySem.W.Fast.tw10107708601505368384 : Nat := 0
def PySem.W.Fast.tw8414277092573221645 : Nat := 0
def PySem.W.Fast.tw8587958534211725348 : Nat := 0
def PySem.W.Fast.tw4272618869568651231 : Nat := 0
def PySem.W.Fast.tw2961675267613611973 : Nat := 0
def PySem.W.Fast.tw3631918872089953404 : Nat := 0
def PySem.W.Fast.tw7934659284498540151 : Nat := 0
def PySem.W.Fast.tw1297331572114507870 : Nat := 0
/-- names that are taken: the twins that would have them are made for the walk alone, and it goes without them as well -/
def PySem.W.Fast.tw3897220693163005029 : Nat := 0
open PySem PySem.W PyProof.Rows
set_option maxRecDepth 100000 in
set_option maxHeartbeats 0 in
theorem PySem.Challenge.cw_grope_k38_no_plan_holds : PySem.Challenge.rw_grope_k38_no_plan.Holds := by
  w_on; o_law; k_head; (case hw => w_witness2)
  k_fill
  refine K38.walk (l := PySem.Challenge.rw_grope_k38_no_plan) rfl rfl (fun w h Y => PySem.W.kIn_of Y) ?F
  case F =>
    intro w mg fa h KX G hmg
    refine' K38.all_mk KX G hmg ?a1 ?l1 ?c1 ?k1 ?a2 ?l2 ?c2 ?k2 ?a3 ?l3 ?c3 ?k3 ?a4 ?l4 ?c4 ?k4 ?a5 ?l5 ?c5 ?k5 ?a6 ?l6 ?c6 ?k6 ?a7 ?l7 ?c7 ?k7 ?a8 ?l8 ?c8 ?k8 ?a9 ?l9 ?c9 ?k9 ?a10 ?l10 ?c10 ?k10 ?a11 ?l11 ?c11 ?k11 ?a12 ?l12 ?c12 ?k12 ?a13 ?l13 ?c13 ?k13 ?a14 ?l14 ?c14 ?k14 ?a15 ?l15 ?c15 ?k15 ?a16 ?l16 ?c16 ?k16 ?a17 ?l17 ?c17 ?k17 ?a18 ?l18 ?c18 ?k18 ?a19 ?l19 ?c19 ?k19 ?a20 ?l20 ?c20 ?k20 ?a21 ?l21 ?c21 ?k21 ?a22 ?l22 ?c22 ?k22 ?a23 ?l23 ?c23 ?k23 ?a24 ?l24 ?c24 ?k24 ?a25 ?l25 ?c25 ?k25 ?a26 ?l26 ?c26 ?k26 ?aCP ?pgCP ?hdCP ?poCP ?saCP ?mkCP ?kcCP ?aCS ?pgCS ?hdCS ?poCS ?saCS ?mkCS ?kcCS ?aCD ?pgCD ?hdCD ?poCD ?saCD ?mkCD ?kcCD ?nCD_1 ?nCD_2 ?aCL ?pgCL ?hdCL ?poCL ?saCL ?mkCL ?kcCL ?nCL_1 ?nCL_2 ?a27 ?i27 ?l27 ?c27 ?k27 ?a28 ?i28 ?l28 ?c28 ?k28 ?a29 ?i29 ?l29 ?c29 ?k29 ?a30 ?i30 ?l30 ?c30 ?k30 ?a31 ?i31 ?l31 ?c31 ?k31 ?a32 ?i32 ?l32 ?c32 ?k32 ?a33 ?i33 ?l33 ?c33 ?k33 ?a34 ?i34 ?l34 ?c34 ?k34 ?a35 ?i35 ?l35 ?c35 ?k35 ?a36 ?i36 ?l36 ?c36 ?k36 ?a37 ?i37 ?l37 ?c37 ?k37 ?a38 ?i38 ?l38 ?c38 ?k38 ?aG ?aE ?oG ?oE ?sE ?gN ?vN ?oS1 ?oS2 ?iPS ?iPD ?iPL ?z1 ?z2 ?z3 ?z4 ?z5 ?z6 ?z7 ?z8 ?z9 ?z10 ?z11 ?z12 ?z13 ?z14 ?z15 ?z16 ?z17 ?z18
    (case a1 => k_is)
    (case l1 => k_is)
    (case c1 => k_is)
    (case k1 => k_is)
    (case a2 => k_is)
    (case l2 => k_is)
    (case c2 => k_is)
    (case k2 => k_is)
    (case a3 => k_is)
    (case l3 => k_is)
    (case c3 => k_is)
    (case k3 => k_is)
    (case a4 => k_is)
    (case l4 => k_is)
    (case c4 => k_is)
    (case k4 => k_is)
    (case a5 => k_is)
    (case l5 => k_is)
    (case c5 => k_is)
    (case k5 => k_is)
    (case a6 => k_is)
    (case l6 => k_is)
    (case c6 => k_is)
    (case k6 => k_is)
    (case a7 => k_is)
    (case l7 => k_is)
    (case c7 => k_is)
    (case k7 => k_is)
    (case a8 => k_is)
    (case l8 => k_is)
    (case c8 => k_is)
    (case k8 => k_is)
    (case a9 => k_is)
    (case l9 => k_is)
    (case c9 => k_is)
    (case k9 => k_is)
    (case a10 => k_is)
    (case l10 => k_is)
    (case c10 => k_is)
    (case k10 => k_is)
    (case a11 => k_is)
    (case l11 => k_is)
    (case c11 => k_is)
    (case k11 => k_is)
    (case a12 => k_is)
    (case l12 => k_is)
    (case c12 => k_is)
    (case k12 => k_is)
    (case a13 => k_is)
    (case l13 => k_is)
    (case c13 => k_is)
    (case k13 => k_is)
    (case a14 => k_is)
    (case l14 => k_is)
    (case c14 => k_is)
    (case k14 => k_is)
    (case a15 => k_is)
    (case l15 => k_is)
    (case c15 => k_is)
    (case k15 => k_is)
    (case a16 => k_is)
    (case l16 => k_is)
    (case c16 => k_is)
    (case k16 => k_is)
    (case a17 => k_is)
    (case l17 => k_is)
    (case c17 => k_is)
    (case k17 => k_is)
    (case a18 => k_is)
    (case l18 => k_is)
    (case c18 => k_is)
    (case k18 => k_is)
    (case a19 => k_is)
    (case l19 => k_is)
    (case c19 => k_is)
    (case k19 => k_is)
    (case a20 => k_is)
    (case l20 => k_is)
    (case c20 => k_is)
    (case k20 => k_is)
    (case a21 => k_is)
    (case l21 => k_is)
    (case c21 => k_is)
    (case k21 => k_is)
    (case a22 => k_is)
    (case l22 => k_is)
    (case c22 => k_is)
    (case k22 => k_is)
    (case a23 => k_is)
    (case l23 => k_is)
    (case c23 => k_is)
    (case k23 => k_is)
    (case a24 => k_is)
    (case l24 => k_is)
    (case c24 => k_is)
    (case k24 => k_is)
    (case a25 => k_is)
    (case l25 => k_is)
    (case c25 => k_is)
    (case k25 => k_is)
    (case a26 => k_is)
    (case l26 => k_is)
    (case c26 => k_is)
    (case k26 => k_is)
    (case aCP => k_is)
    (case pgCP => k_is)
    (case hdCP => k_is)
    (case poCP => k_is)
    (case saCP => k_is)
    (case mkCP => k_is)
    (case kcCP => k_is)
    (case aCS => k_is)
    (case pgCS => k_is)
    (case hdCS => k_is)
    (case poCS => k_is)
    (case saCS => k_is)
    (case mkCS => k_is)
    (case kcCS => k_is)
    (case aCD => k_is)
    (case pgCD => k_is)
    (case hdCD => k_is)
    (case poCD => k_is)
    (case saCD => k_is)
    (case mkCD => k_is)
    (case kcCD => k_is)
    (case nCD_1 => k_is)
    (case nCD_2 => k_is)
    (case aCL => k_is)
    (case pgCL => k_is)
    (case hdCL => k_is)
    (case poCL => k_is)
    (case saCL => k_is)
    (case mkCL => k_is)
    (case kcCL => k_is)
    (case nCL_1 => k_is)
    (case nCL_2 => k_is)
    (case a27 => k_is)
    (case i27 => k_is)
    (case l27 => k_is)
    (case c27 => k_is)
    (case k27 => k_is)
    (case a28 => k_is)
    (case i28 => k_is)
    (case l28 => k_is)
    (case c28 => k_is)
    (case k28 => k_is)
    (case a29 => k_is)
    (case i29 => k_is)
    (case l29 => k_is)
    (case c29 => k_is)
    (case k29 => k_is)
    (case a30 => k_is)
    (case i30 => k_is)
    (case l30 => k_is)
    (case c30 => k_is)
    (case k30 => k_is)
    (case a31 => k_is)
    (case i31 => k_is)
    (case l31 => k_is)
    (case c31 => k_is)
    (case k31 => k_is)
    (case a32 => k_is)
    (case i32 => k_is)
    (case l32 => k_is)
    (case c32 => k_is)
    (case k32 => k_is)
    (case a33 => k_is)
    (case i33 => k_is)
    (case l33 => k_is)
    (case c33 => k_is)
    (case k33 => k_is)
    (case a34 => k_is)
    (case i34 => k_is)
    (case l34 => k_is)
    (case c34 => k_is)
    (case k34 => k_is)
    (case a35 => k_is)
    (case i35 => k_is)
    (case l35 => k_is)
    (case c35 => k_is)
    (case k35 => k_is)
    (case a36 => k_is)
    (case i36 => k_is)
    (case l36 => k_is)
    (case c36 => k_is)
    (case k36 => k_is)
    (case a37 => k_is)
    (case i37 => k_is)
    (case l37 => k_is)
    (case c37 => k_is)
    (case k37 => k_is)
    (case a38 => k_is)
    (case i38 => k_is)
    (case l38 => k_is)
    (case c38 => k_is)
    (case k38 => k_is)
    (case aG => k_is)
    (case aE => k_is)
    (case oG => k_exc)
    (case oE => k_exc)
    (case sE => first | rfl | (with_unfolding_all rfl) | exact Eq.refl true)
    (case gN => k_is)
    (case vN => first | rfl | decide +kernel | k_is)
    (case oS1 => k_is)
    (case oS2 => k_is)
    (case iPS => k_is)
    (case iPD => k_is)
    (case iPL => k_is)
    (case z1 => k_is)
    (case z2 => k_is)
    (case z3 => k_is)
    (case z4 => k_is)
    (case z5 => k_is)
    (case z6 => k_is)
    (case z7 => k_is)
    (case z8 => k_is)
    (case z9 => k_is)
    (case z10 => k_is)
    (case z11 => k_is)
    (case z12 => k_is)
    (case z13 => k_is)
    (case z14 => k_is)
    (case z15 => k_is)
    (case z16 => k_is)
    (case z17 => k_is)
    (case z18 => k_is)
#print axioms PySem.Challenge.cw_grope_k38_no_plan_holds
