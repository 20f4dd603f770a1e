import PyProof.Rows.All
import Wide.All
import OpenK.AllK
import Wide.FinOn
import Lean
import PyProof.EqAt
import PyProof.EqKinds
import PyProof.TupleCall
import PySem.Challenge.RW_grope_k16_sets_by_bits
set_option Elab.async false
set_option linter.all false
set_option maxRecDepth 100000
set_option maxHeartbeats 4000000
namespace L2
open PySem PySem.Spec PyProof.Rows
noncomputable abbrev Key := Sum Int Str
noncomputable def keyIs : Key → Value → Bool
  | .inl k, v => Value.isInt k v
  | .inr x, v => Value.isStrOf x v
noncomputable def keyH (w : World) : Key → Int
  | .inl k => hashInt k
  | .inr x => hashStr w x
theorem keyIs_shape : ∀ {k : Key} {v : Value}, keyIs k v = true → (∃ i t, k = Sum.inl i ∧ v = Value.int i t) ∨ (∃ x t, k = Sum.inr x ∧ v = Value.str x t)
  | .inl i, v, h => by
    obtain ⟨t, e⟩ := Value.isInt_shape (k := i) (v := v) h
    exact .inl ⟨i, t, rfl, e⟩
  | .inr x, v, h => by
    obtain ⟨t, e⟩ := Value.isStrOf_shape (x := x) (v := v) h
    exact .inr ⟨x, t, rfl, e⟩
theorem keyIs_int (i : Int) (t : Tok) : keyIs (.inl i) (.int i t) = true := by simp [keyIs, Value.isInt]
theorem keyIs_str (x : Str) (t : Tok) : keyIs (.inr x) (.str x t) = true := by simp [keyIs, Value.isStrOf]
theorem key_ll (a b : Int) : decide ((Sum.inl a : Key) = Sum.inl b) = (a == b) := by
  by_cases e : a = b
  · subst e; simp
  · have h : ¬ (Sum.inl a : Key) = Sum.inl b := fun q => e (Sum.inl.inj q)
    rw [decide_eq_false h]
    exact (beq_eq_false_iff_ne.mpr e).symm
theorem key_rr (a b : Str) : decide ((Sum.inr a : Key) = Sum.inr b) = decide (a = b) := by
  by_cases e : a = b
  · subst e; simp
  · have h : ¬ (Sum.inr a : Key) = Sum.inr b := fun q => e (Sum.inr.inj q)
    rw [decide_eq_false h, decide_eq_false e]
theorem key_lr (a : Int) (b : Str) : decide ((Sum.inl a : Key) = Sum.inr b) = false := decide_eq_false (fun q => nomatch q)
theorem key_rl (a : Str) (b : Int) : decide ((Sum.inr a : Key) = Sum.inl b) = false := decide_eq_false (fun q => nomatch q)
noncomputable def mixKind (prog : Program) (w : World) : PySem.KeyKind prog w Key where
  is := keyIs
  hash := keyH w
  inj := fun v a b ha hb => by
    rcases keyIs_shape ha with ⟨i, t, rfl, rfl⟩ | ⟨x, t, rfl, rfl⟩
    · rcases keyIs_shape hb with ⟨j, u, rfl, e⟩ | ⟨y, u, rfl, e⟩
      · injection e with e1 _; rw [e1]
      · exact nomatch e
    · rcases keyIs_shape hb with ⟨j, u, rfl, e⟩ | ⟨y, u, rfl, e⟩
      · exact nomatch e
      · injection e with e1 _; rw [e1]
  byValue := fun k v h => by
    rcases keyIs_shape h with ⟨i, t, rfl, rfl⟩ | ⟨x, t, rfl, rfl⟩ <;> rfl
  pyHash := fun hv h => by
    rcases keyIs_shape hv with ⟨i, t, rfl, rfl⟩ | ⟨x, t, rfl, rfl⟩
    · exact wpAny_pyHash_int h
    · exact wpAny_pyHash_str h
  eqBool := fun hu hv h => by
    rcases keyIs_shape hu with ⟨i, t, rfl, rfl⟩ | ⟨x, t, rfl, rfl⟩
    · rcases keyIs_shape hv with ⟨j, u, rfl, rfl⟩ | ⟨y, u, rfl, rfl⟩
      · rw [key_ll] at h; exact wpAny_eqBool_int h
      · rw [key_lr] at h; exact SeqAt.EqAt.int_str i t y u _ _ _ _ h
    · rcases keyIs_shape hv with ⟨j, u, rfl, rfl⟩ | ⟨y, u, rfl, rfl⟩
      · rw [key_rl] at h; exact SeqAt.EqAt.str_int x t j u _ _ _ _ h
      · rw [key_rr] at h; exact wpAny_eqBool_str h
  «strs» := fun k x t v h => by
    rcases keyIs_shape h with ⟨i, u, rfl, e⟩ | ⟨y, u, rfl, e⟩
    · exact nomatch e
    · injection e with e1 _
      subst e1
      cases v <;> rfl
theorem mixKind_int (prog : Program) (w : World) (i : Int) (t : Tok) : (mixKind prog w).is (.inl i) (.int i t) = true := keyIs_int i t
theorem mixKind_str (prog : Program) (w : World) (x : Str) (t : Tok) : (mixKind prog w).is (.inr x) (.str x t) = true := keyIs_str x t
end L2
namespace L2
open PySem PySem.Spec PyProof.Rows
inductive V where
  | non | bl (b : Bool) | int (i : Int) | str (x : Str) | byt (b : Array UInt8) | flt (b : UInt64) | ref (a : Addr) | ty (n : String)
  deriving DecidableEq
noncomputable def RelV : V → Value → Prop
  | .non, u => u = Value.none
  | .bl b, u => u = Value.bool b
  | .int i, u => ∃ t, u = Value.int i t
  | .str x, u => ∃ t, u = Value.str x t
  | .byt b, u => ∃ t, u = Value.bytes b t
  | .flt b, u => ∃ t, u = Value.float b t
  | .ref a, u => u = Value.ref a
  | .ty n, u => u = Value.type n
noncomputable abbrev Vals : List V → List Value → Prop := Paired RelV
theorem Vals.length {xs : List V} {us : List Value} (r : Vals xs us) : xs.length = us.length := Paired.length r
theorem Vals.get : ∀ {xs : List V} {us : List Value} {i : Nat} {x : V}, Vals xs us → xs[i]? = some x → ∃ u, us[i]? = some u ∧ RelV x u
  | _, _, _, _, .nil, e => by simp at e
  | _, _, 0, _, .cons r _, e => by simp at e; subst e; exact ⟨_, rfl, r⟩
  | _, _, i + 1, x, .cons _ t, e => by
    obtain ⟨u, h1, h2⟩ := Vals.get (i := i) (x := x) t (by simpa using e)
    exact ⟨u, by simpa using h1, h2⟩
theorem Vals.append : ∀ {xs ys : List V} {us ws : List Value}, Vals xs us → Vals ys ws → Vals (xs ++ ys) (us ++ ws)
  | _, _, _, _, .nil, s => s
  | _, _, _, _, .cons r t, s => .cons r (Vals.append t s)
theorem Vals.take : ∀ {xs : List V} {us : List Value} (n : Nat), Vals xs us → Vals (xs.take n) (us.take n)
  | _, _, 0, _ => .nil
  | _, _, _ + 1, .nil => .nil
  | _, _, n + 1, .cons r t => .cons r (Vals.take n t)
theorem Vals.drop : ∀ {xs : List V} {us : List Value} (n : Nat), Vals xs us → Vals (xs.drop n) (us.drop n)
  | _, _, 0, r => r
  | _, _, _ + 1, .nil => .nil
  | _, _, n + 1, .cons _ t => Vals.drop n t
noncomputable def RelO : Option V → Option Value → Prop
  | some v, some u => RelV v u
  | none, none => True
  | _, _ => False
noncomputable def KV {κ : Type} : List (κ × V) → List (κ × Value) → Prop := Paired fun (p : κ × V) (q : κ × Value) => p.1 = q.1 ∧ RelV p.2 q.2
noncomputable def kV : Key → V
  | .inl i => .int i
  | .inr x => .str x
inductive HO where
  /-- a list -/
  | lst (xs : List V)
  /-- a tuple (never changes) -/
  | tup (xs : List V)
  /-- a dict whose keys are ints and texts; one whose keys are tuples of ints and texts (the empty one is both) -/
  | dK (kvs : List (Key × V)) | dT (kvs : List (List Key × V))
  /-- a set of ints: its members, its size -/
  | set (S : Int → Bool) (n : Nat)
  /-- an instance of the class at C, its dict at dx, its attributes -/
  | ins (C dx : Addr) (fs : List (Str × V))
  /-- the dict of the instance at x -/
  | own (x : Addr)
  /-- the dict of an exception -/
  | xd (fs : List (Str × V))
  /-- a bound method, f of x -/
  | met (f x : Addr)
  /-- a range object lo, lo + 1, .. below hi -/
  | rng (lo hi : Int)
  /-- a thing that is known to the object (the script; a dict while a loop walks it): read, never written while it is so -/
  | frz (o : Obj) (u : HO)
  /-- a code object's table -/
  | tbl (ps : Array Value)
  /-- any other thing, by what is true of its one object (a def of one's own: SetO a S n := HO.ext fun h => ..) -/
  | ext (φ : Heap → Prop)
noncomputable abbrev Hp := Addr → Option HO
noncomputable def upd (H : Hp) (a : Addr) (o : HO) : Hp := fun b => if b = a then some o else H b
theorem upd_same {H : Hp} {a : Addr} {o : HO} : upd H a o a = some o := by unfold upd; rw [if_pos rfl]
theorem upd_ne {H : Hp} {a b : Addr} {o : HO} (h : b ≠ a) : upd H a o b = H b := by unfold upd; rw [if_neg h]
theorem ne_of {H : Hp} {a b : Addr} {o u : HO} (h : H a = some o) (h' : H b = some u) (d : o ≠ u) : a ≠ b := by
  intro e; subst e; rw [h] at h'; exact d (Option.some.inj h')
theorem ne_of_none {H : Hp} {a b : Addr} {o : HO} (h : H a = some o) (h' : H b = none) : a ≠ b := by
  intro e; subst e; rw [h] at h'; cases h'
section
variable (P : Program) (w : World)
noncomputable def ObjOk (H : Hp) (h : Heap) (a : Addr) : HO → Prop
  | .lst xs => xs.length ≤ sizeLine ∧ ∃ (its : List Value) (n : Nat), Vals xs its ∧ h.get? a = some { cls := .type "list", data := .seq its.toArray n }
  | .tup xs => xs.length ≤ sizeLine ∧ ∃ its : List Value, Vals xs its ∧ IsTup h a its.toArray
  | .dK kvs => kvs.length ≤ sizeLine ∧ (a == sysModules) = false ∧ ∃ vs, KV kvs vs ∧ h.DictOf (mixKind P w) a vs
  | .dT kvs => kvs.length ≤ sizeLine ∧ (a == sysModules) = false ∧ ∃ xs : List (List Key × Addr × Value),
      Paired (fun (p : List Key × V) (q : List Key × Addr × Value) => p.1 = q.1 ∧ H q.2.1 = some (.tup (p.1.map kV)) ∧ RelV p.2 q.2.2) kvs xs ∧
      ∃ o es ep, h.get? a = some o ∧ o.ExactDict ∧ o.data = .dict es ep ∧ es.toList = xs.map (entryOfKey (tupleKind (mixKind P w))) ∧ (xs.map (·.1)).Nodup
  | .set S n => h.SetOf (intKind P w) a S n
  | .ins C dx fs => H dx = some (.own a) ∧ fs.length ≤ 1000 ∧ dx ≠ a ∧ h.get? a = some (PySem.W.instObj C dx) ∧
      ∃ mA, h.Ns1 dx mA ∧ (∀ f, RelO (fs.lookup f) (mA f)) ∧ PySem.Within mA (fs.map (·.1))
  | .own _ => ∃ o, h.get? a = some o
  | .xd fs => ∃ mA, h.Ns1 a mA ∧ ∀ f, RelO (fs.lookup f) (mA f)
  | .rng lo hi => ∃ t u v, h.get? a = some { cls := .type "range", data := .fields #[.int lo t, .int hi u, .int 1 v] }
  | .frz o u => h.get? a = some o ∧ ObjOk H h a u
  | .tbl ps => h.get? a = some { cls := .none, data := .fields ps }
  | .met f x => h.get? a = some (PySem.W.methodObj (.ref f) (.ref x))
  | .ext φ => φ h ∧ (∃ o, h.get? a = some o) ∧ ∀ h1 h2 : Heap, φ h1 → (∀ o, h1.get? a = some o → h2.get? a = some o) → φ h2
noncomputable def HOk (H : Hp) (h : Heap) : Prop := ∀ a o, H a = some o → ObjOk P w H h a o
end
section
variable {P : Program} {w : World} {H H' : Hp} {h h' : Heap} {a : Addr} {o : HO}
theorem ObjOk.lt (x : ObjOk P w H h a o) : a < h.objs.size := by
  cases o with
  | lst xs => obtain ⟨_, _, _, _, e⟩ := x; exact Heap.lt_size e
  | tup xs => obtain ⟨_, _, _, p⟩ := x; exact p.lt
  | dK kvs => obtain ⟨_, _, _, _, o, _, _, e, _⟩ := x; exact Heap.lt_size e
  | dT kvs => obtain ⟨_, _, _, _, o, _, _, e, _⟩ := x; exact Heap.lt_size e
  | set S n => obtain ⟨o, _, _, _, e, _⟩ := x; exact Heap.lt_size e
  | ins C dx fs => obtain ⟨_, _, _, e, _⟩ := x; exact Heap.lt_size e
  | own y => obtain ⟨_, e⟩ := x; exact Heap.lt_size e
  | xd fs => obtain ⟨_, ⟨_, _, _, e, _⟩, _⟩ := x; exact Heap.lt_size e
  | rng lo hi => obtain ⟨_, _, _, e⟩ := x; exact Heap.lt_size e
  | frz ob u => obtain ⟨e, _⟩ := x; exact Heap.lt_size e
  | tbl ps => exact Heap.lt_size (show h.get? a = some _ from x)
  | met f y => exact Heap.lt_size (show h.get? a = some _ from x)
  | ext φ => obtain ⟨_, ⟨_, e⟩, _⟩ := x; exact Heap.lt_size e
theorem Paired.mapP {α β : Type} {F G : α → β → Prop} : ∀ {l₁ : List α} {l₂ : List β}, Paired F l₁ l₂ → (∀ a b, F a b → G a b) → Paired G l₁ l₂
  | _, _, .nil, _ => .nil
  | _, _, .cons r t, f => .cons (f _ _ r) (Paired.mapP t f)
theorem ObjOk.stay (x : ObjOk P w H h a o) (k : ∀ b u, (b = a ∨ H b = some (.own a)) → h.get? b = some u → h'.get? b = some u)
    (ho : ∀ b, H b = some (.own a) → H' b = some (.own a)) (ht : ∀ b xs, H b = some (.tup xs) → H' b = some (.tup xs)) : ObjOk P w H' h' a o := by
  induction o with
  | lst xs => obtain ⟨z, its, n, r, e⟩ := x; exact ⟨z, its, n, r, k _ _ (.inl rfl) e⟩
  | tup xs => obtain ⟨z, its, r, ob, e, c⟩ := x; exact ⟨z, its, r, ob, k _ _ (.inl rfl) e, c⟩
  | dK kvs => obtain ⟨z, y, vs, r, ob, es, ep, e, c⟩ := x; exact ⟨z, y, vs, r, ob, es, ep, k _ _ (.inl rfl) e, c⟩
  | dT kvs =>
    obtain ⟨z, y, xs, r, ob, es, ep, e, c⟩ := x
    exact ⟨z, y, xs, Paired.mapP r fun p q z => ⟨z.1, ht _ _ z.2.1, z.2.2⟩, ob, es, ep, k _ _ (.inl rfl) e, c⟩
  | set S n => obtain ⟨ob, es, ep, t, e, c⟩ := x; exact ⟨ob, es, ep, t, k _ _ (.inl rfl) e, c⟩
  | ins C dx fs =>
    obtain ⟨d, z, ne, e, mA, ⟨od, es, ep, e2, c⟩, r⟩ := x
    exact ⟨ho _ d, z, ne, k _ _ (.inl rfl) e, mA, ⟨od, es, ep, k _ _ (.inr d) e2, c⟩, r⟩
  | own y => obtain ⟨ob, e⟩ := x; exact ⟨ob, k _ _ (.inl rfl) e⟩
  | xd fs => obtain ⟨mA, ⟨od, es, ep, e, c⟩, r⟩ := x; exact ⟨mA, ⟨od, es, ep, k _ _ (.inl rfl) e, c⟩, r⟩
  | rng lo hi => obtain ⟨t, u, v, e⟩ := x; exact ⟨t, u, v, k _ _ (.inl rfl) e⟩
  | frz ob u ih => obtain ⟨e, q⟩ := x; exact ⟨k _ _ (.inl rfl) e, ih q⟩
  | tbl ps =>
    have e : h.get? a = some { cls := .none, data := .fields ps } := x
    show h'.get? a = some { cls := .none, data := .fields ps }
    exact k a _ (.inl rfl) e
  | met f y =>
    have e : h.get? a = some (PySem.W.methodObj (.ref f) (.ref y)) := x
    show h'.get? a = some (PySem.W.methodObj (.ref f) (.ref y))
    exact k a _ (.inl rfl) e
  | ext φ => obtain ⟨p, ⟨o, e⟩, st⟩ := x; exact ⟨st _ _ p fun o q => k _ _ (.inl rfl) q, ⟨o, k _ _ (.inl rfl) e⟩, st⟩
theorem HOk.lt (x : HOk P w H h) (e : H a = some o) : a < h.objs.size := (x a o e).lt
theorem HOk.fresh (x : HOk P w H h) (e : h.objs.size ≤ a) : H a = none := by
  cases q : H a with
  | none => rfl
  | some u => exact absurd (Nat.lt_of_lt_of_le (x.lt q) e) (Nat.lt_irrefl _)
theorem HOk.kept (x : HOk P w H h) (k : ∀ b u, h.get? b = some u → h'.get? b = some u) : HOk P w H h' := fun a o e =>
  (x a o e).stay (fun b u _ q => k b u q) (fun _ q => q) fun _ _ q => q
theorem HOk.laid (x : HOk P w H h) (k : ∀ b u, h.get? b = some u → h'.get? b = some u) (hp : h.objs.size ≤ a) (new : ObjOk P w (upd H a o) h' a o) : HOk P w (upd H a o) h' := fun b u e => by
  have hn := x.fresh hp
  by_cases hb : b = a
  · subst hb; rw [upd_same] at e; cases e; exact new
  · rw [upd_ne hb] at e
    exact (x b u e).stay (fun c v _ q => k c v q) (fun c q => by rw [upd_ne (ne_of_none q hn)]; exact q) fun c xs q => by rw [upd_ne (ne_of_none q hn)]; exact q
end
noncomputable def Rd (H : Hp) (a : Addr) (u : HO) : Prop := H a = some u ∨ ∃ o, H a = some (.frz o u)
theorem Rd.ok {P : Program} {w : World} {H : Hp} {h : Heap} {a : Addr} {u : HO} (r : Rd H a u) (x : HOk P w H h) : ObjOk P w H h a u := by
  rcases r with r | ⟨o, r⟩
  · exact x a u r
  · obtain ⟨_, q⟩ := x a _ r
    exact q
noncomputable def Mut : Option HO → Prop
  | some (.lst _) => True
  | some (.dK _) => True
  | some (.dT _) => True
  | some (.set _ _) => True
  | some (.ins _ _ _) => True
  | some (.ext _) => True
  | _ => False
section
variable {P : Program} {w : World} {H : Hp} {h h' : Heap} {x e : Addr} {o' : HO}
theorem HOk.write (ok : HOk P w H h) (mu : Mut (H x)) (he : e = x ∨ H e = some (.own x)) (k : ∀ b u, b ≠ e → h.get? b = some u → h'.get? b = some u) (heo : ∃ u, h'.get? e = some u)
    (new : ObjOk P w (upd H x o') h' x o') : HOk P w (upd H x o') h' := fun b u q => by
  have nown : ∀ c y, H c = some (.own y) → c ≠ x := fun c y r z => by subst z; rw [r] at mu; exact mu
  have ntup : ∀ c xs, H c = some (.tup xs) → c ≠ x := fun c xs r z => by subst z; rw [r] at mu; exact mu
  by_cases hb : b = x
  · subst hb; rw [upd_same] at q; cases q; exact new
  · rw [upd_ne hb] at q
    by_cases hbe : b = e
    · have q' : H b = some (.own x) := by
        rcases he with z | z
        · exact absurd (hbe.trans z) hb
        · rw [hbe]; exact z
      rw [q] at q'; cases q'
      obtain ⟨v, hv⟩ := heo
      exact ⟨v, by rw [hbe]; exact hv⟩
    · refine (ok b u q).stay (fun c v hc r => k c v ?_ r) (fun c r => by rw [upd_ne (nown c b r)]; exact r) fun c xs r => by rw [upd_ne (ntup c xs r)]; exact r
      rcases hc with rfl | hc
      · exact hbe
      · rintro rfl
        rcases he with z | z
        · exact nown c b hc z
        · rw [hc] at z; cases z; exact hb rfl
end
structure Un (fs ex : List Addr) (H H' : Hp) (h h' : Heap) : Prop where
  keep : ∀ b o, h.get? b = some o → H b = none → b ∉ fs → b ∉ ex → h'.get? b = some o
  slot : ∀ b o, h.get? b = some o → H b = none → b ∈ fs → b ∉ ex → ∃ sl, h'.get? b = some { o with slots := sl }
  free : ∀ b o, h.get? b = some o → H b = none → b ∉ ex → H' b = none
  there : ∀ b o, h.get? b = some o → b ∉ ex → ∃ o', h'.get? b = some o'
  tups : ∀ b xs, H b = some (.tup xs) → H' b = some (.tup xs)
  frzs : ∀ b o u, H b = some (.frz o u) → H' b = some (.frz o u)
  tbls : ∀ b ps, H b = some (.tbl ps) → ∃ more, H' b = some (.tbl (ps ++ more))
section
variable {fs fs' ex ex' : List Addr} {H H1 H2 : Hp} {h h1 h2 h' : Heap} {a x e : Addr} {o : HO}
theorem Un.any (u : Un fs ex H H1 h h1) {b : Addr} {ob : Obj} (q : h.get? b = some ob) (n : H b = none) (hx : b ∉ ex) : ∃ sl, h1.get? b = some { ob with slots := sl } := by
  by_cases hb : b ∈ fs
  · exact u.slot b ob q n hb hx
  · exact ⟨ob.slots, u.keep b ob q n hb hx⟩
theorem Un.kept (k : ∀ b u, h.get? b = some u → h'.get? b = some u) : Un fs ex H H h h' :=
  ⟨fun b ob q _ _ _ => k b ob q, fun b ob q _ _ _ => ⟨ob.slots, k b ob q⟩, fun _ _ _ n _ => n, fun b ob q _ => ⟨ob, k b ob q⟩, fun _ _ q => q, fun _ _ _ q => q, fun _ ps q => ⟨#[], by rw [q]; simp⟩⟩
theorem Un.refl : Un fs ex H H h h := Un.kept fun _ _ q => q
theorem Un.laid (k : ∀ b u, h.get? b = some u → h'.get? b = some u) (hp : h.objs.size ≤ a) (hn : H a = none) : Un fs ex H (upd H a o) h h' where
  keep := fun b u q _ _ _ => k b u q
  slot := fun b u q _ _ _ => ⟨u.slots, k b u q⟩
  free := fun b u q n _ => by rw [upd_ne (Nat.ne_of_lt (Nat.lt_of_lt_of_le (Heap.lt_size q) hp))]; exact n
  there := fun b u q _ => ⟨u, k b u q⟩
  tups := fun b xs q => by rw [upd_ne (ne_of_none q hn)]; exact q
  frzs := fun b u xs q => by rw [upd_ne (ne_of_none q hn)]; exact q
  tbls := fun b ps q => ⟨#[], by rw [upd_ne (ne_of_none q hn), q]; simp⟩
theorem Un.write (mu : Mut (H x)) (he : e = x ∨ H e = some (.own x)) (k : ∀ b u, b ≠ e → h.get? b = some u → h'.get? b = some u) (heo : ∃ u, h'.get? e = some u) : Un fs ex H (upd H x o) h h' := by
  have hx : ∀ b, H b = none → b ≠ x := fun b n z => by subst z; rw [n] at mu; exact mu
  have hb : ∀ b, H b = none → b ≠ e := fun b n z => by
    subst z
    rcases he with r | r
    · exact hx b n r
    · rw [n] at r; cases r
  have hm : ∀ b u, H b = some u → ¬ Mut (some u) → b ≠ x := fun b u q nm z => by subst z; rw [q] at mu; exact nm mu
  refine ⟨fun b u q n _ _ => k b u (hb b n) q, fun b u q n _ _ => ⟨u.slots, k b u (hb b n) q⟩, fun b u q n _ => by rw [upd_ne (hx b n)]; exact n, fun b u q _ => ?_,
    fun b xs q => by rw [upd_ne (hm b _ q fun z => z)]; exact q, fun b u xs q => by rw [upd_ne (hm b _ q fun z => z)]; exact q, fun b ps q => ⟨#[], by rw [upd_ne (hm b _ q fun z => z), q]; simp⟩⟩
  by_cases hbe : b = e
  · subst hbe; exact heo
  · exact ⟨u, k b u hbe q⟩
end
noncomputable def trk (h : Heap) (H : Hp) : List Addr := (List.range h.objs.size).filter fun a => (H a).isSome
noncomputable def hidT (h : Heap) (H : Hp) : Heap := PySem.W.hideAll h (trk h H)
theorem hidT_size (h : Heap) (H : Hp) : (hidT h H).objs.size = h.objs.size := PySem.W.hideAll_size _ _
theorem hidT_get {h : Heap} {H : Hp} {b : Addr} {o : Obj} (e : h.get? b = some o) (n : H b = none) : (hidT h H).get? b = some o :=
  PySem.W.hideAll_get _ e fun hm => by
    have q : (H b).isSome = true := (List.mem_filter.mp hm).2
    rw [n] at q; simp at q
theorem of_hidT {h : Heap} {H : Hp} {b : Addr} {o : Obj} (e : (hidT h H).get? b = some o) : h.get? b = some o ∧ H b = none := by
  have e' : h.get? b = some o := PySem.W.of_hideAll (trk h H) e
  refine ⟨e', ?_⟩
  cases q : H b with
  | none => rfl
  | some x =>
    have hm : b ∈ trk h H := List.mem_filter.mpr ⟨List.mem_range.mpr (Heap.lt_size e'), by simp [q]⟩
    have z : (hidT h H).get? b = none := PySem.W.hideAll_none (trk h H) hm
    rw [z] at e; cases e
end L2
namespace L2
open PySem PySem.Spec PyProof.Rows
structure Mod (K : PySem.W.Frag) (mg : Str → Option Value) (base : Heap) : Prop where
  kin : K.In base
  glob : base.Ns mainGlobals mg
  blt : ∃ mb, base.Ns builtinsNs mb ∧ ∀ x : Str, x ≠ "__name__" → mb x = bootBuiltins x
  nolimit : base.NoLimit
structure Cx where
  prog : Program
  w : World
  K : PySem.W.Frag
  mg : Str → Option Value
  base : Heap
  A : Around
  N : List Str
  s₀ : Shared
  H₀ : Hp
  env : Env
  outer : List Env
  stack : List Env
  ex : List Addr
  fn : Str → Bool
  calm : Bool
  pn : List (Addr × Obj)
  xe : Value → Shared → Prop
noncomputable def frs (l : List Env) : List Addr := l.filterMap (·.frame)
noncomputable abbrev Cx.fs (X : Cx) : List Addr := frs X.outer
noncomputable def Vis (sc : Scope) (x : Str) : Prop := sc.names.lookup x = some .local ∨ sc.names.lookup x = some .cell ∨ sc.names.lookup x = some .free
noncomputable def Loc (sc : Scope) (x : Str) : Prop := sc.names.lookup x = some .local ∨ sc.names.lookup x = some .cell
noncomputable def Look (env : Env) (h : Heap) (m : Str → Option Value) (x : Str) (u : Value) : Prop :=
  (env.kindOf x = some .local ∧ m x = some u) ∨ ((env.kindOf x = some .cell ∨ env.kindOf x = some .free) ∧ ∃ c, env.cells.lookup x = some c ∧ h.IsCell c (some u))
structure Cx.Ok (X : Cx) : Prop where
  mod : Mod X.K X.mg X.base
  kind : X.env.scope.kind = .function
  glob : X.env.globals = mainGlobals
  blt : X.env.builtins = builtinsNs
  above : X.s₀.heap.objs.size ≤ X.env.locals
  inj : ∀ x y c, X.env.cells.lookup x = some c → X.env.cells.lookup y = some c → x = y
  has : ∀ x, (X.env.kindOf x = some .cell ∨ X.env.kindOf x = some .free) → ∃ c, X.env.cells.lookup x = some c
  cab : ∀ x c, X.fn x = true → X.env.cells.lookup x = some c → X.s₀.heap.objs.size ≤ c
  hd : X.calm = true → X.A.handled = none
  frames : X.A.frames = some X.stack
  stk : X.stack = X.outer ∨ (X.stack = X.env :: X.outer ∧ X.env.frame = some X.env.locals)
  exf : ∀ b ∈ X.ex, b ≠ X.env.locals ∧ ∀ x c, X.env.cells.lookup x = some c → c ≠ b
  bs : ∀ b o, X.base.get? b = some o → X.s₀.heap.get? b = some o ∧ X.H₀ b = none
  bsz : X.base.objs.size ≤ X.s₀.heap.objs.size
  noex : ∀ b o, X.base.get? b = some o → b ∉ X.ex
  exfs : ∀ b ∈ X.ex, b ∉ X.fs
  funs : X.s₀.heap.FunFrames X.base X.outer
  frf : ∀ b ∈ X.fs, X.H₀ b = none
structure Inv (X : Cx) (pins : List (Addr × Obj)) (σ : List (Option V)) (H : Hp) (s : Shared) : Prop where
  ok : X.Ok
  os : s.os = X.s₀.os
  bare : AllBare s.gens
  base : Un X.fs X.ex X.H₀ H X.s₀.heap s.heap
  loc : ∃ m, s.heap.Ns X.env.locals m ∧ ∀ (i : Nat) (x : Str) (v : V), X.N[i]? = some x → σ[i]? = some (some v) → Vis X.env.scope x → ∃ u, RelV v u ∧ Look X.env s.heap m x u
  cell : ∀ x c, X.env.cells.lookup x = some c → ∃ v, s.heap.IsCell c v
  free : H X.env.locals = none
  freeC : ∀ x c, X.env.cells.lookup x = some c → H c = none
  pin : ∀ p ∈ X.pn ++ pins, s.heap.get? p.1 = some p.2 ∧ H p.1 = none ∧ p.1 ≠ X.env.locals ∧ p.1 ∉ X.fs ∧ ∀ v, p.2.data ≠ .cell v
  hok : HOk X.prog X.w H s.heap
  len : σ.length = X.N.length
section
variable {X : Cx} {pins : List (Addr × Obj)} {σ : List (Option V)} {H H' : Hp} {s : Shared} {h' : Heap}
theorem Cx.Ok.nofr (ok : X.Ok) {b : Addr} {o : Obj} (e : X.base.get? b = some o) : b ∉ X.fs := fun hb => by
  have := (ok.funs.mem hb).1
  rw [e] at this; cases this
theorem Inv.bs (I : Inv X pins σ H s) : ∀ b o, X.base.get? b = some o → s.heap.get? b = some o ∧ H b = none := fun b o e =>
  ⟨I.base.keep b o (I.ok.bs b o e).1 (I.ok.bs b o e).2 (I.ok.nofr e) (I.ok.noex b o e), I.base.free b o (I.ok.bs b o e).1 (I.ok.bs b o e).2 (I.ok.noex b o e)⟩
theorem Inv.bk (I : Inv X pins σ H s) : ∀ b o, X.base.get? b = some o → s.heap.get? b = some o := fun b o e => (I.bs b o e).1
theorem Inv.mod (I : Inv X pins σ H s) : Mod X.K X.mg X.base := I.ok.mod
theorem Inv.kIn (I : Inv X pins σ H s) : X.K.In s.heap := I.ok.mod.kin.keeps I.bk
theorem Inv.lt (I : Inv X pins σ H s) : X.env.locals < s.heap.objs.size := let ⟨_, hn, _⟩ := I.loc; hn.lt
theorem Inv.sz (I : Inv X pins σ H s) : X.s₀.heap.objs.size ≤ s.heap.objs.size := Nat.le_trans I.ok.above (Nat.le_of_lt I.lt)
theorem Inv.nofs (I : Inv X pins σ H s) {a : Addr} (h : s.heap.objs.size ≤ a) : a ∉ X.fs := fun hb => by
  obtain ⟨_, o, ho, _⟩ := I.ok.funs.mem hb
  exact absurd (Nat.lt_of_lt_of_le (Heap.lt_size ho) (Nat.le_trans I.sz h)) (Nat.lt_irrefl _)
theorem Inv.cne (I : Inv X pins σ H s) : ∀ x c, X.env.cells.lookup x = some c → c ≠ X.env.locals := fun x c e z => by
  obtain ⟨v, o, ho, hd⟩ := I.cell x c e
  obtain ⟨m, ⟨o', es, ep, ho', hd', _⟩, _⟩ := I.loc
  rw [z, ho'] at ho; cases ho; rw [hd'] at hd; cases hd
theorem Inv.funs (I : Inv X pins σ H s) : s.heap.FunFrames X.base X.outer := by
  have all : ∀ (l : List Env), (∀ b ∈ frs l, b ∈ X.fs) → X.s₀.heap.FunFrames X.base l → s.heap.FunFrames X.base l := by
    intro l
    induction l with
    | nil => intro _ _; trivial
    | cons env r ih =>
      intro hs hl
      obtain ⟨hk, ⟨L, o, hf, hn, ho, hd⟩, hr⟩ := hl
      have hL : L ∈ X.fs := hs L (by unfold frs; rw [List.filterMap_cons, hf]; exact List.mem_cons_self)
      obtain ⟨sl, e⟩ := I.base.slot L o ho (I.ok.frf L hL) hL fun z => I.ok.exfs L z hL
      exact ⟨hk, ⟨L, _, hf, hn, e, hd⟩, ih (fun b hb => hs b (by unfold frs; rw [List.filterMap_cons, hf]; exact List.mem_cons_of_mem _ hb)) hr⟩
  exact all X.outer (fun _ hb => hb) I.ok.funs
theorem Inv.stack (I : Inv X pins σ H s) : s.heap.FunFrames X.base X.stack := by
  rcases I.ok.stk with e | ⟨e, hf⟩
  · rw [e]; exact I.funs
  · rw [e]
    obtain ⟨m, hn, _⟩ := I.loc
    refine .cons (by rw [I.ok.kind]; decide) hf hn ?_ I.funs
    exact Heap.get?_none_of_le (Nat.le_trans I.ok.bsz I.ok.above)
theorem Inv.stkSub (I : Inv X pins σ H s) : ∀ b ∈ frs X.stack, b ∈ X.env.locals :: X.fs := fun b hb => by
  rcases I.ok.stk with e | ⟨e, hf⟩
  · rw [e] at hb; exact List.mem_cons_of_mem _ hb
  · rw [e] at hb
    unfold frs at hb
    rw [List.filterMap_cons, hf] at hb
    exact hb
theorem Inv.stkFree (I : Inv X pins σ H s) : ∀ b ∈ frs X.stack, H b = none := fun b hb => by
  rcases List.mem_cons.mp (I.stkSub b hb) with e | hb
  · rw [e]; exact I.free
  · obtain ⟨_, o, ho, _⟩ := I.ok.funs.mem hb
    exact I.base.free b o ho (I.ok.frf b hb) fun z => I.ok.exfs b z hb
theorem Inv.step {g' : Array GenState} {t' : Nat} {d' : Drawn} {ch : List Addr} (I : Inv X pins σ H s)
    (hch : ∀ b ∈ ch, (b ∈ X.ex ∨ X.s₀.heap.objs.size ≤ b) ∧ b ≠ X.env.locals ∧ (∀ x c, X.env.cells.lookup x = some c → c ≠ b) ∧ ∀ p ∈ X.pn ++ pins, p.1 ≠ b)
    (keep : ∀ b o, b ≠ X.env.locals → b ∉ X.fs → b ∉ ch → s.heap.get? b = some o → H b = none → h'.get? b = some o)
    (slot : ∀ b o, b ≠ X.env.locals → b ∈ X.fs → b ∉ ch → s.heap.get? b = some o → H b = none → ∃ sl, h'.get? b = some { o with slots := sl }) (free : ∀ b o, b ∉ ch → s.heap.get? b = some o → H b = none → H' b = none)
    (there : ∀ b o, b ∉ ch → s.heap.get? b = some o → ∃ o', h'.get? b = some o')
    (tups : ∀ b xs, H b = some (.tup xs) → H' b = some (.tup xs)) (frzs : ∀ b o u, H b = some (.frz o u) → H' b = some (.frz o u)) (tbls : ∀ b ps, H b = some (.tbl ps) → ∃ more, H' b = some (.tbl (ps ++ more)))
    (ns : ∀ m, s.heap.Ns X.env.locals m → h'.Ns X.env.locals m) (hok : HOk X.prog X.w H' h') (hg : AllBare g') :
    Inv X pins σ H' { s with heap := h', gens := g', drawn := d', toks := t' } := by
  have neL : ∀ b o, X.s₀.heap.get? b = some o → b ≠ X.env.locals := fun b o e => Nat.ne_of_lt (Nat.lt_of_lt_of_le (Heap.lt_size e) I.ok.above)
  have neC : ∀ b o, X.s₀.heap.get? b = some o → b ∉ X.ex → b ∉ ch := fun b o e hx hb => by
    rcases (hch b hb).1 with z | z
    · exact hx z
    · exact absurd (Nat.lt_of_lt_of_le (Heap.lt_size e) z) (Nat.lt_irrefl _)
  have cellK : ∀ x c, X.env.cells.lookup x = some c → ∀ v, s.heap.IsCell c v → h'.IsCell c v := fun x c e v ⟨o, ho, hd⟩ => by
    have nch : c ∉ ch := fun z => (hch c z).2.2.1 x c e rfl
    by_cases hc : c ∈ X.fs
    · obtain ⟨sl, q⟩ := slot c o (I.cne x c e) hc nch ho (I.freeC x c e)
      exact ⟨_, q, hd⟩
    · exact ⟨o, keep c o (I.cne x c e) hc nch ho (I.freeC x c e), hd⟩
  refine ⟨I.ok, I.os, hg, ⟨fun b o e n hb hx => ?_, fun b o e n hb hx => ?_, fun b o e n hx => ?_, fun b o e hx => ?_, fun b xs e => tups b xs (I.base.tups b xs e), fun b o xs e => frzs b o xs (I.base.frzs b o xs e), fun b ps e => ?_⟩, ?_, fun x c e => ?_, ?_, fun x c e => ?_, fun p hp => ?_, hok, I.len⟩
  · exact keep b o (neL b o e) hb (neC b o e hx) (I.base.keep b o e n hb hx) (I.base.free b o e n hx)
  · obtain ⟨sl, e1⟩ := I.base.slot b o e n hb hx
    obtain ⟨sl', e2⟩ := slot b _ (neL b o e) hb (neC b o e hx) e1 (I.base.free b o e n hx)
    exact ⟨sl', e2⟩
  · obtain ⟨o', e1⟩ := I.base.there b o e hx
    exact free b o' (neC b o e hx) e1 (I.base.free b o e n hx)
  · obtain ⟨o', e1⟩ := I.base.there b o e hx
    exact there b o' (neC b o e hx) e1
  · obtain ⟨m1, e1⟩ := I.base.tbls b ps e
    obtain ⟨m2, e2⟩ := tbls b _ e1
    exact ⟨m1 ++ m2, by rw [e2, Array.append_assoc]⟩
  · obtain ⟨m, hn, hl⟩ := I.loc
    refine ⟨m, ns m hn, fun i x v e1 e2 e3 => ?_⟩
    obtain ⟨u, r, l⟩ := hl i x v e1 e2 e3
    refine ⟨u, r, ?_⟩
    rcases l with l | ⟨k, c, e, z⟩
    · exact .inl l
    · exact .inr ⟨k, c, e, cellK x c e _ z⟩
  · obtain ⟨v, z⟩ := I.cell x c e
    exact ⟨v, cellK x c e v z⟩
  · obtain ⟨m, ⟨o, _, _, ho, _⟩, _⟩ := I.loc
    exact free _ o (fun z => (hch _ z).2.1 rfl) ho I.free
  · obtain ⟨v, o, ho, hd⟩ := I.cell x c e
    exact free c o (fun z => (hch c z).2.2.1 x c e rfl) ho (I.freeC x c e)
  · obtain ⟨e, n, ne, nf, d⟩ := I.pin p hp
    have nch : p.1 ∉ ch := fun z => (hch p.1 z).2.2.2 p hp rfl
    exact ⟨keep p.1 p.2 ne nf nch e n, free p.1 p.2 nch e n, ne, nf, d⟩
theorem Inv.un {t' : Nat} (I : Inv X pins σ H s) (u : Un X.fs [] H H' s.heap h') (hok : HOk X.prog X.w H' h') : Inv X pins σ H' { s with heap := h', toks := t' } := by
  obtain ⟨m, ⟨o, es, ep, ho, r⟩, _⟩ := id I.loc
  obtain ⟨sl, hL⟩ := u.any ho I.free (by simp)
  exact I.step (g' := s.gens) (d' := s.drawn) (ch := []) (fun _ z => nomatch z) (fun b o _ hb _ e n => u.keep b o e n hb (by simp)) (fun b o _ hb _ e n => u.slot b o e n hb (by simp)) (fun b o _ e n => u.free b o e n (by simp)) (fun b o _ e => u.there b o e (by simp)) u.tups u.frzs u.tbls (fun m' hm => by
    obtain ⟨o', es', ep', ho', r'⟩ := hm
    rw [ho] at ho'; cases ho'
    exact ⟨_, es', ep', hL, r'⟩) hok I.bare
theorem Inv.call {g' : Array GenState} {t' : Nat} {d' : Drawn} {ch : List Addr} (I : Inv X pins σ H s) (u : Un (frs X.stack) ch H H' s.heap h') (hok : HOk X.prog X.w H' h') (hg : AllBare g')
    (hch : ∀ b ∈ ch, (b ∈ X.ex ∨ X.s₀.heap.objs.size ≤ b) ∧ b ≠ X.env.locals ∧ (∀ x c, X.env.cells.lookup x = some c → c ≠ b) ∧ ∀ p ∈ X.pn ++ pins, p.1 ≠ b) :
    Inv X pins σ H' { s with heap := h', gens := g', drawn := d', toks := t' } := by
  obtain ⟨m, ⟨o, es, ep, ho, r⟩, _⟩ := id I.loc
  obtain ⟨sl, hL⟩ := u.any ho I.free fun z => (hch _ z).2.1 rfl
  exact I.step (ch := ch) hch (fun b o hL hb hc e n => u.keep b o e n (fun z => (List.mem_cons.mp (I.stkSub b z)).elim hL hb) hc) (fun b o _ _ hc e n => u.any e n hc) (fun b o hc e n => u.free b o e n hc) (fun b o hc e => u.there b o e hc) u.tups u.frzs u.tbls (fun m' hm => by
    obtain ⟨o', es', ep', ho', r'⟩ := hm
    rw [ho] at ho'; cases ho'
    exact ⟨_, es', ep', hL, r'⟩) hok hg
theorem Inv.turned {t' : Nat} {it : Addr} (I : Inv X pins σ H s) (k : ∀ b o, b ≠ it → s.heap.get? b = some o → h'.get? b = some o) (hn : H it = none) (hL : it ≠ X.env.locals)
    (h1 : it ∈ X.ex ∨ X.s₀.heap.objs.size ≤ it) (h2 : ∀ x c, X.env.cells.lookup x = some c → c ≠ it) (h3 : ∀ p ∈ X.pn ++ pins, p.1 ≠ it) : Inv X pins σ H { s with heap := h', toks := t' } := by
  have nit : ∀ b u, H b = some u → b ≠ it := fun b u e z => by rw [z, hn] at e; cases e
  refine I.step (g' := s.gens) (d' := s.drawn) (ch := [it]) (fun b hb => ?_) (fun b o _ _ hc e _ => k b o (fun z => hc (by simp [z])) e) (fun b o _ _ hc e _ => ⟨o.slots, k b o (fun z => hc (by simp [z])) e⟩) (fun _ _ _ _ n => n)
    (fun b o hc e => ⟨o, k b o (fun z => hc (by simp [z])) e⟩) (fun _ _ e => e) (fun _ _ _ e => e) (fun b ps e => ⟨#[], by rw [e]; simp⟩) (fun m hm => ?_) (fun b u e => ?_) I.bare
  · have e : b = it := by simpa using hb
    subst e
    exact ⟨h1, hL, h2, h3⟩
  · obtain ⟨o, es, ep, ho, r⟩ := hm
    exact ⟨o, es, ep, k _ o (Ne.symm hL) ho, r⟩
  · refine (I.hok b u e).stay (fun c v hc q => k c v ?_ q) (fun _ q => q) fun _ _ q => q
    rcases hc with z | z
    · rw [z]; exact nit b u e
    · exact nit c _ z
theorem Inv.tok (I : Inv X pins σ H s) (t : Nat) : Inv X pins σ H { s with toks := t } := I.un (h' := s.heap) (t' := t) Un.refl I.hok
theorem Inv.kept {t' : Nat} (I : Inv X pins σ H s) (k : ∀ b u, s.heap.get? b = some u → h'.get? b = some u) : Inv X pins σ H { s with heap := h', toks := t' } := I.un (Un.kept k) (I.hok.kept k)
theorem Inv.laid {a : Addr} {o : HO} {t' : Nat} (I : Inv X pins σ H s) (k : ∀ b u, s.heap.get? b = some u → h'.get? b = some u) (hp : s.heap.objs.size ≤ a) (new : ObjOk X.prog X.w (upd H a o) h' a o) :
    Inv X pins σ (upd H a o) { s with heap := h', toks := t' } := I.un (Un.laid k hp (I.hok.fresh hp)) (I.hok.laid k hp new)
theorem Inv.write {x e : Addr} {o : HO} {t' : Nat} (I : Inv X pins σ H s) (mu : Mut (H x)) (he : e = x ∨ H e = some (.own x)) (k : ∀ b u, b ≠ e → s.heap.get? b = some u → h'.get? b = some u) (heo : ∃ u, h'.get? e = some u)
    (new : ObjOk X.prog X.w (upd H x o) h' x o) : Inv X pins σ (upd H x o) { s with heap := h', toks := t' } := I.un (Un.write mu he k heo) (I.hok.write mu he k heo new)
theorem Inv.weak {σ' : List (Option V)} (I : Inv X pins σ H s) (hl : σ'.length = σ.length) (w : ∀ (i : Nat) v, σ'[i]? = some (some v) → σ[i]? = some (some v)) : Inv X pins σ' H s :=
  ⟨I.ok, I.os, I.bare, I.base, let ⟨m, hn, hl'⟩ := I.loc; ⟨m, hn, fun i x v e1 e2 e3 => hl' i x v e1 (w i v e2) e3⟩, I.cell, I.free, I.freeC, I.pin, I.hok, hl.trans I.len⟩
theorem Inv.pins_of {pins' : List (Addr × Obj)} (I : Inv X pins σ H s) (h : ∀ p ∈ pins', s.heap.get? p.1 = some p.2 ∧ H p.1 = none ∧ p.1 ≠ X.env.locals ∧ p.1 ∉ X.fs ∧ ∀ v, p.2.data ≠ .cell v) : Inv X pins' σ H s :=
  ⟨I.ok, I.os, I.bare, I.base, I.loc, I.cell, I.free, I.freeC, fun p hp => (List.mem_append.mp hp).elim (fun z => I.pin p (List.mem_append_left _ z)) (h p), I.hok, I.len⟩
theorem nodup_ix {N : List Str} (hN : N.Nodup) {i j : Nat} {x : Str} (a : N[i]? = some x) (b : N[j]? = some x) : i = j := by
  obtain ⟨h1, e1⟩ := List.getElem?_eq_some_iff.mp a
  obtain ⟨h2, e2⟩ := List.getElem?_eq_some_iff.mp b
  exact (List.getElem_inj hN).mp (e1.trans e2.symm)
theorem store_ok2 {M : Model} {A : Around} {E : Value → Shared → Prop} {i : Nat} {x : Str} {v : V} {u : Value} {Q : Unit → Shared → Prop} (I : Inv X pins σ H s) (hN : X.N.Nodup) (hi : X.N[i]? = some x) (hx : Loc X.env.scope x) (r : RelV v u)
    (h : ∀ s', Inv X pins (σ.set i (some v)) H s' → (∃ a, Heap.SameBut a s.heap s'.heap ∧ (a = X.env.locals ∨ X.env.cells.lookup x = some a)) → Q () s') (hf : X.fn x = true ∨ X.env.scope.names.lookup x = some .local := by first | exact .inl rfl | exact .inr rfl | assumption) : wpAny M A (storeName X.env x u) Q E s := by
  obtain ⟨m, hn, hl⟩ := id I.loc
  have hcls : (X.env.scope.kind == .class || (X.env.scope.kind == .module && X.env.locals != X.env.globals)) = false := by rw [I.ok.kind]; rfl
  have hiσ : i < σ.length := by rw [I.len]; exact (List.getElem?_eq_some_iff.mp hi).1
  have cne := I.cne
  have tracked : ∀ {a : Addr} {h' : Heap}, (∃ o, s.heap.get? a = some o ∧ H a = none) → Heap.SameBut a s.heap h' → HOk X.prog X.w H h' := fun {a h'} ha hs b ob e => by
    obtain ⟨_, _, hfree⟩ := ha
    refine (I.hok b ob e).stay (fun c w' hc q => (hs.2 c ?_).trans q) (fun _ q => q) fun _ _ q => q
    rintro rfl
    rcases hc with rfl | hc
    · rw [hfree] at e; cases e
    · rw [hfree] at hc; cases hc
  rcases hx with hk | hk
  · refine wpAny_storeName_local hk hn (fun h' hn' hs => ?_) hcls
    obtain ⟨oL, _, _, hoL, _⟩ := id hn
    refine h _ ⟨I.ok, I.os, I.bare, ⟨fun b o e n hb hx => ?_, fun b o e n hb hx => ?_, I.base.free, fun b o e hx => ?_, I.base.tups, I.base.frzs, I.base.tbls⟩, ⟨_, hn', fun j y v' e1 e2 e3 => ?_⟩, fun y c e => ?_, I.free, I.freeC, fun p hp => ?_, tracked ⟨oL, hoL, I.free⟩ hs, by simpa using I.len⟩ ⟨_, hs, .inl rfl⟩
    · exact (hs.2 b (Nat.ne_of_lt (Nat.lt_of_lt_of_le (Heap.lt_size e) I.ok.above))).trans (I.base.keep b o e n hb hx)
    · obtain ⟨sl, e1⟩ := I.base.slot b o e n hb hx
      exact ⟨sl, (hs.2 b (Nat.ne_of_lt (Nat.lt_of_lt_of_le (Heap.lt_size e) I.ok.above))).trans e1⟩
    · obtain ⟨o', e1⟩ := I.base.there b o e hx
      exact ⟨o', (hs.2 b (Nat.ne_of_lt (Nat.lt_of_lt_of_le (Heap.lt_size e) I.ok.above))).trans e1⟩
    · by_cases hj : j = i
      · subst hj
        rw [hi] at e1; cases e1
        rw [List.getElem?_set_self hiσ] at e2
        cases e2
        exact ⟨u, r, .inl ⟨hk, by simp⟩⟩
      · rw [List.getElem?_set_ne (Ne.symm hj)] at e2
        obtain ⟨u', r', q⟩ := hl j y v' e1 e2 e3
        refine ⟨u', r', ?_⟩
        rcases q with ⟨k, e⟩ | ⟨k, c, e, z⟩
        · refine .inl ⟨k, ?_⟩
          have : y ≠ x := fun e => hj (nodup_ix hN e1 (e ▸ hi))
          simp [this, e]
        · exact .inr ⟨k, c, e, z.sameBut hs (cne y c e)⟩
    · obtain ⟨w', z⟩ := I.cell y c e
      exact ⟨w', z.sameBut hs (cne y c e)⟩
    · obtain ⟨e, n, ne, nf, d⟩ := I.pin p hp
      exact ⟨(hs.2 p.1 ne).trans e, n, ne, nf, d⟩
  · have hfn : X.fn x = true := by
      rcases hf with z | z
      · exact z
      · rw [z] at hk; cases hk
    obtain ⟨c, hc⟩ := I.ok.has x (.inl hk)
    obtain ⟨w', z⟩ := I.cell x c hc
    refine wpAny_storeName_cell I.ok.kind hk hc z (fun h' hc' hs => ?_)
    obtain ⟨oc, hoc, hocd⟩ := id z
    refine h { s with heap := h' } ⟨I.ok, I.os, I.bare, ⟨fun b o e n hb hx => ?_, fun b o e n hb hx => ?_, I.base.free, fun b o e hx => ?_, I.base.tups, I.base.frzs, I.base.tbls⟩, ⟨m, hn.sameBut hs (Ne.symm (cne x c hc)), fun j y v' e1 e2 e3 => ?_⟩, fun y c' e => ?_, I.free, I.freeC, fun p hp => ?_, tracked ⟨oc, hoc, I.freeC x c hc⟩ hs, by simpa using I.len⟩ ⟨c, hs, .inr hc⟩
    · exact (hs.2 b (Nat.ne_of_lt (Nat.lt_of_lt_of_le (Heap.lt_size e) (I.ok.cab x c hfn hc)))).trans (I.base.keep b o e n hb hx)
    · obtain ⟨sl, e1⟩ := I.base.slot b o e n hb hx
      exact ⟨sl, (hs.2 b (Nat.ne_of_lt (Nat.lt_of_lt_of_le (Heap.lt_size e) (I.ok.cab x c hfn hc)))).trans e1⟩
    · obtain ⟨o', e1⟩ := I.base.there b o e hx
      exact ⟨o', (hs.2 b (Nat.ne_of_lt (Nat.lt_of_lt_of_le (Heap.lt_size e) (I.ok.cab x c hfn hc)))).trans e1⟩
    · by_cases hj : j = i
      · subst hj
        rw [hi] at e1; cases e1
        rw [List.getElem?_set_self hiσ] at e2
        cases e2
        exact ⟨u, r, .inr ⟨.inl hk, c, hc, hc'⟩⟩
      · rw [List.getElem?_set_ne (Ne.symm hj)] at e2
        obtain ⟨u', r', q⟩ := hl j y v' e1 e2 e3
        refine ⟨u', r', ?_⟩
        rcases q with q | ⟨k, c', e, z'⟩
        · exact .inl q
        · refine .inr ⟨k, c', e, z'.sameBut hs ?_⟩
          rintro rfl
          exact hj (nodup_ix hN e1 (I.ok.inj _ _ _ e hc ▸ hi))
    · by_cases hcc : c' = c
      · subst hcc; exact ⟨_, hc'⟩
      · obtain ⟨w2, z2⟩ := I.cell y c' e
        exact ⟨w2, z2.sameBut hs hcc⟩
    · obtain ⟨e, n, ne, nf, d⟩ := I.pin p hp
      refine ⟨(hs.2 p.1 ?_).trans e, n, ne, nf, d⟩
      intro q
      rw [q, hoc] at e
      have q' : oc = p.2 := Option.some.inj e
      exact d w' (by rw [← q']; exact hocd)
theorem store_ok {M : Model} {A : Around} {E : Value → Shared → Prop} {i : Nat} {x : Str} {v : V} {u : Value} {Q : Unit → Shared → Prop} (I : Inv X pins σ H s) (hN : X.N.Nodup) (hi : X.N[i]? = some x) (hx : Loc X.env.scope x) (r : RelV v u)
    (h : ∀ s', Inv X pins (σ.set i (some v)) H s' → Q () s') (hf : X.fn x = true ∨ X.env.scope.names.lookup x = some .local := by first | exact .inl rfl | exact .inr rfl | assumption) : wpAny M A (storeName X.env x u) Q E s :=
  store_ok2 I hN hi hx r (fun s' I' _ => h s' I') hf
theorem Inv.call' {s' : Shared} {ch : List Addr} (I : Inv X pins σ H s) (ho : s'.os = s.os) (u : Un (frs X.stack) ch H H' s.heap s'.heap) (hok : HOk X.prog X.w H' s'.heap) (hg : AllBare s'.gens)
    (hch : ∀ b ∈ ch, (b ∈ X.ex ∨ X.s₀.heap.objs.size ≤ b) ∧ b ≠ X.env.locals ∧ (∀ x c, X.env.cells.lookup x = some c → c ≠ b) ∧ ∀ p ∈ X.pn ++ pins, p.1 ≠ b) : Inv X pins σ H' s' := by
  obtain ⟨h', g', d', t', o'⟩ := s'
  have e : o' = s.os := ho
  subst e
  exact I.call (g' := g') (t' := t') (d' := d') u hok hg hch
end
noncomputable abbrev XK := Value → Option Addr → Hp → Prop
noncomputable abbrev St := List (Option V)
noncomputable abbrev VK := V → Hp → Prop
noncomputable abbrev TE := St → Hp → VK → Prop
noncomputable abbrev TT := St → Hp → (Bool → Hp → Prop) → Prop
noncomputable abbrev TA := St → Hp → (List V → Hp → Prop) → Prop
structure Ends where
  nx : St → Hp → Prop
  rt : VK
  bk : St → Hp → Prop := fun _ _ => False
  ct : St → Hp → Prop := fun _ _ => False
noncomputable abbrev TS := Ends → St → Hp → Prop
noncomputable def EP (X : Cx) (pins : List (Addr × Obj)) (σ : St) (Q : VK) (u : Value) (s' : Shared) : Prop := ∃ v H', Inv X pins σ H' s' ∧ RelV v u ∧ Q v H'
noncomputable def TP (X : Cx) (pins : List (Addr × Obj)) (σ : St) (Q : Bool → Hp → Prop) (b : Bool) (s' : Shared) : Prop := ∃ H', Inv X pins σ H' s' ∧ Q b H'
noncomputable def AP (X : Cx) (pins : List (Addr × Obj)) (σ : St) (Q : List V → Hp → Prop) (us : List Value) (s' : Shared) : Prop := ∃ vs H', Inv X pins σ H' s' ∧ Vals vs us ∧ Q vs H'
noncomputable def SP (X : Cx) (pins : List (Addr × Obj)) (D : Ends) (f : Flow) (s' : Shared) : Prop :=
  match f with
  | .next => ∃ σ' H', Inv X pins σ' H' s' ∧ D.nx σ' H'
  | .brk => ∃ σ' H', Inv X pins σ' H' s' ∧ D.bk σ' H'
  | .cont => ∃ σ' H', Inv X pins σ' H' s' ∧ D.ct σ' H'
  | .ret u => ∃ v σ' H', Inv X pins σ' H' s' ∧ RelV v u ∧ D.rt v H'
noncomputable def PE (X : Cx) (e : Expr) (t : TE) : Prop :=
  ∀ (pins : List (Addr × Obj)) (s : Shared) (σ : St) (H : Hp) (Q : VK), Inv X pins σ H s → t σ H Q → wpAny (model X.prog X.w) X.A (eval e X.env) (EP X pins σ Q) X.xe s
noncomputable def PT (X : Cx) (e : Expr) (t : TT) : Prop :=
  ∀ (pins : List (Addr × Obj)) (s : Shared) (σ : St) (H : Hp) (Q : Bool → Hp → Prop), Inv X pins σ H s → t σ H Q → wpAny (model X.prog X.w) X.A (isTrue e X.env (eval e X.env)) (TP X pins σ Q) X.xe s
noncomputable def PW (X : Cx) (e : Expr) (t : TT) : Prop :=
  ∀ (whole : Sem Value) (pins : List (Addr × Obj)) (s : Shared) (σ : St) (H : Hp) (Q : Bool → Hp → Prop), Inv X pins σ H s → t σ H Q → wpAny (model X.prog X.w) X.A (isTrue e X.env whole) (TP X pins σ Q) X.xe s
theorem PW.pt {X : Cx} {e : Expr} {t : TT} (h : PW X e t) : PT X e t := h _
noncomputable def PA (X : Cx) (es : List Expr) (t : TA) : Prop :=
  ∀ (pos : Pos) (pins : List (Addr × Obj)) (s : Shared) (σ : St) (H : Hp) (Q : List V → Hp → Prop), Inv X pins σ H s → t σ H Q → wpAny (model X.prog X.w) X.A (spliced (backTo pos (starEach es X.env))) (AP X pins σ Q) X.xe s
noncomputable def PS (X : Cx) (st : Stmt) (t : TS) : Prop :=
  ∀ (pins : List (Addr × Obj)) (s : Shared) (σ : St) (H : Hp) (D : Ends), Inv X pins σ H s → t D σ H → wpAny (model X.prog X.w) X.A (exec st X.env) (SP X pins D) X.xe s
noncomputable def PSs (X : Cx) (st : List Stmt) (t : TS) : Prop :=
  ∀ (pins : List (Addr × Obj)) (s : Shared) (σ : St) (H : Hp) (D : Ends), Inv X pins σ H s → t D σ H → wpAny (model X.prog X.w) X.A (execs st X.env) (SP X pins D) X.xe s
theorem thn {α : Type} {t : Sem α} {Q Q' : α → Shared → Prop} {M : Model} {A : Around} {E : Value → Shared → Prop} {s : Shared} (h : wpAny M A t Q E s) (hQ : ∀ a s, Q a s → Q' a s) : wpAny M A t Q' E s := wpAny_mono h hQ fun _ _ x => x
end L2
namespace L2
open PySem PySem.Spec PyProof.Rows
section
variable {X : Cx}
inductive tVar (i : Nat) (σ : St) (H : Hp) (Q : VK) : Prop
  | mk (v : _) (c0 : σ[i]? = some (some v)) (c1 : Q v H) : tVar i σ H Q
noncomputable def tC (v : V) : TE := fun _ H Q => Q v H
theorem pe_var {i : Nat} {x : Str} {pos : Pos} (hN : X.N[i]? = some x) (hv : Vis X.env.scope x) (hd : (x == ("__debug__" : Str)) = false := by decide) (hcd : (x == ("__classdict__" : Str)) = false := by decide) : PE X (.Name x pos) (tVar i) := by
  intro pins s σ H Q I h
  obtain ⟨v, e, h⟩ := h
  obtain ⟨m, hn, hl⟩ := I.loc
  obtain ⟨u, r, l⟩ := hl i x v hN e hv
  have fin : EP X pins σ Q u s := ⟨v, H, I, r, h⟩
  rcases l with ⟨hk, hm⟩ | ⟨hk, c, hc, hcell⟩
  · exact wpAny_Name (wpAny_loadName_local I.ok.kind hk hn hm fin) hd
  · rcases hk with hk | hk
    · exact wpAny_Name (wpAny_loadName_cell I.ok.kind hk hc hcell fin) hd
    · exact wpAny_Name (wpAny_loadName_free I.ok.kind hk hc hcell fin hcd) hd
theorem pe_int {i j pos} : PE X (.Constant (.int i) j pos) (tC (.int i)) := fun _ _ _ H _ I h => wpAny_Constant_int ⟨.int i, H, I.tok _, ⟨_, rfl⟩, h⟩
theorem pe_bl {b j pos} : PE X (.Constant (.bool b) j pos) (tC (.bl b)) := fun _ _ _ H _ I h => Constant_bool ⟨.bl b, H, I, rfl, h⟩
theorem pe_non {j pos} : PE X (.Constant .none j pos) (tC .non) := fun _ _ _ H _ I h => Constant_none ⟨.non, H, I, rfl, h⟩
noncomputable def Gl (X : Cx) (x : Str) : Prop := X.env.kindOf x = some .globalImplicit
theorem ld_glob {E : Value → Shared → Prop} {pins : List (Addr × Obj)} {s : Shared} {σ : St} {H : Hp} {x : Str} {u : Value} {pos : Pos} {Q : Value → Shared → Prop} (I : Inv X pins σ H s) (hg : Gl X x) (hm : X.mg x = some u) (h : Q u s)
    (hd : (x == ("__debug__" : Str)) = false := by decide) : wpAny (model X.prog X.w) X.A (eval (.Name x pos) X.env) Q E s :=
  Calls.Name_function_global I.ok.kind hg (Calls.loadGlobal_global (by rw [I.ok.glob]; exact I.mod.glob.keeps I.bk) hm h) hd
theorem ld_blt {E : Value → Shared → Prop} {pins : List (Addr × Obj)} {s : Shared} {σ : St} {H : Hp} {x : Str} {u : Value} {pos : Pos} {Q : Value → Shared → Prop} (I : Inv X pins σ H s) (hg : Gl X x) (hm : X.mg x = none) (hv : bootBuiltins x = some u) (h : Q u s)
    (hn : x ≠ "__name__" := by decide) (hd : (x == ("__debug__" : Str)) = false := by decide) : wpAny (model X.prog X.w) X.A (eval (.Name x pos) X.env) Q E s := by
  obtain ⟨mb, h1, h2⟩ := I.mod.blt
  exact Calls.Name_function_global I.ok.kind hg (Calls.loadGlobal_builtin (by rw [I.ok.glob]; exact I.mod.glob.keeps I.bk) hm (by rw [I.ok.blt]; exact h1.keeps I.bk) ((h2 x hn).trans hv) h) hd
theorem pe_bltn {x : Str} {v : V} {u : Value} {pos : Pos} (hg : Gl X x) (hm : X.mg x = none) (hv : bootBuiltins x = some u) (r : RelV v u) (hn : x ≠ "__name__" := by decide) (hd : (x == ("__debug__" : Str)) = false := by decide) : PE X (.Name x pos) (tC v) :=
  fun _ _ _ H _ I h => ld_blt I hg hm hv ⟨v, H, I, r, h⟩ hn hd
variable {a b : Expr} {ta tb : TE} {pos : Pos}
inductive isB0 (Q : Bool → Hp → Prop) (x : V) (H1 : Hp) : Prop
  | mk (c : _) (c0 : x = .bl c) (c1 : Q c H1) : isB0 Q x H1
noncomputable def tB (t : TE) : TT := fun σ H Q => t σ H fun x H1 => isB0 Q x H1
theorem pt_val {e : Expr} {t : TE} (h : PE X e t) (he : ∀ whole, isTrue e X.env whole = (do let v ← whole; standAt e.pos; holding [v] (truthy v)) := by intro _; rfl) : PT X e (tB t) := by
  intro pins s σ H Q I hw
  refine isTrue_plain (thn (h pins s σ H _ I hw) fun v s1 ⟨x, H1, I1, r1, q1⟩ => ?_) (he _)
  obtain ⟨d, rfl, q⟩ := q1
  cases r1
  exact wpAny_truthy_bool ⟨H1, I1, q⟩
variable {tA tB' : TT} {rest : List Expr}
noncomputable def tOr (t u : TT) : TT := fun σ H Q => t σ H fun c H1 => if c = true then Q true H1 else u σ H1 Q
noncomputable def tNot (t : TT) : TT := fun σ H Q => t σ H fun c H1 => Q (!c) H1
theorem pw_or1 (ha : PT X a tA) : PW X (.BoolOp .Or [a] pos) tA := by
  intro wh pins s σ H Q I h
  refine isTrue_or (thn (ha pins s σ H Q I h) fun c s1 e => ?_)
  cases c with
  | false => exact isTrue_or_nil e
  | true => exact e
theorem pw_or (ha : PT X a tA) (hb : PW X (.BoolOp .Or (b :: rest) pos) tB') : PW X (.BoolOp .Or (a :: b :: rest) pos) (tOr tA tB') := by
  intro wh pins s σ H Q I h
  refine isTrue_or (thn (ha pins s σ H _ I h) fun c s1 ⟨H1, I1, q1⟩ => ?_)
  cases c with
  | true => exact ⟨H1, I1, q1⟩
  | false => exact hb wh pins s1 σ H1 Q I1 q1
theorem pt_not (ha : PT X a tA) : PT X (.UnaryOp .Not a pos) (tNot tA) := by
  intro pins s σ H Q I h
  exact isTrue_not (ha pins s σ H (fun c H1 => Q (!c) H1) I h)
noncomputable def tIf (t : TT) (ta tb : TE) : TE := fun σ H Q => t σ H fun c H1 => if c = true then ta σ H1 Q else tb σ H1 Q
theorem pe_ifExp {c : Expr} (hc : PT X c tA) (ha : PE X a ta) (hb : PE X b tb) : PE X (.IfExp c a b pos) (tIf tA ta tb) := by
  intro pins s σ H Q I h
  refine wpAny_IfExp (thn (hc pins s σ H _ I h) fun d s1 ⟨H1, I1, q1⟩ => ?_)
  cases d with
  | true => exact ha pins s1 σ H1 Q I1 q1
  | false => exact hb pins s1 σ H1 Q I1 q1
end
end L2
namespace L2
open PySem PySem.Spec PyProof.Rows
noncomputable def SqL (K : PySem.W.Frag) (H : Hp) (a : Addr) (xs : List V) : Prop :=
  Rd H a (.lst xs) ∨
    ∃ (o : Obj) (its : Array Value) (n : Nat), K.lookup a = some o ∧ o.cls = .type "list" ∧ o.dict = none ∧ o.data = .seq its n ∧ its.size ≤ sizeLine ∧ Vals xs its.toList
noncomputable def SqT (K : PySem.W.Frag) (H : Hp) (a : Addr) (xs : List V) : Prop :=
  Rd H a (.tup xs) ∨
    ∃ (o : Obj) (its : Array Value) (n : Nat), K.lookup a = some o ∧ o.cls = .type "tuple" ∧ o.data = .seq its n ∧ its.size ≤ sizeLine ∧ Vals xs its.toList
noncomputable def absV : Value → Option V
  | .none => some .non
  | .bool b => some (.bl b)
  | .int i _ => some (.int i)
  | .str x _ => some (.str x)
  | .bytes b _ => some (.byt b)
  | .float b _ => some (.flt b)
  | .ref a => some (.ref a)
  | .type n => some (.ty n)
  | _ => none
theorem RelV.abs {x : V} {u : Value} (r : RelV x u) : absV u = some x := by
  cases x with
  | non => cases r; rfl
  | bl _ => cases r; rfl
  | int _ => obtain ⟨t, rfl⟩ := r; rfl
  | str _ => obtain ⟨t, rfl⟩ := r; rfl
  | byt _ => obtain ⟨t, rfl⟩ := r; rfl
  | flt _ => obtain ⟨t, rfl⟩ := r; rfl
  | ref _ => cases r; rfl
  | ty _ => cases r; rfl
theorem RelV.inj {x y : V} {u : Value} (r : RelV x u) (q : RelV y u) : x = y := Option.some.inj (r.abs.symm.trans q.abs)
theorem Vals.inj : ∀ {xs ys : List V} {us : List Value}, Vals xs us → Vals ys us → xs = ys
  | _, _, _, .nil, .nil => rfl
  | _, _, _, .cons r t, .cons r' t' => by rw [r.inj r', Vals.inj t t']
section
variable {X : Cx} {pins : List (Addr × Obj)} {σ : St} {H : Hp} {s : Shared} {a : Addr} {xs ys : List V}
theorem SqL.of {K : PySem.W.Frag} (h : H a = some (.lst xs)) : SqL K H a xs := .inl (.inl h)
theorem SqT.of {K : PySem.W.Frag} (h : H a = some (.tup xs)) : SqT K H a xs := .inl (.inl h)
theorem Inv.list (I : Inv X pins σ H s) (h : SqL X.K H a xs) : ∃ its : List Value, Vals xs its ∧ PlainL s.heap a its.toArray ∧ xs.length ≤ sizeLine := by
  rcases h with h | ⟨o, its, n, hk, hc, hd, hs, hz, r⟩
  · obtain ⟨z, its, n, r, e⟩ := h.ok I.hok
    exact ⟨its, r, ⟨_, n, e, rfl, rfl, rfl⟩, z⟩
  · refine ⟨its.toList, r, ⟨o, n, I.kIn a o hk, hc, hd, by simpa using hs⟩, ?_⟩
    have e := r.length
    simp only [Array.length_toList] at e
    lia
theorem Inv.tuple (I : Inv X pins σ H s) (h : SqT X.K H a xs) : ∃ its : List Value, Vals xs its ∧ IsTup s.heap a its.toArray ∧ xs.length ≤ sizeLine := by
  rcases h with h | ⟨o, its, n, hk, hc, hs, hz, r⟩
  · obtain ⟨z, its, r, p⟩ := h.ok I.hok
    exact ⟨its, r, p, z⟩
  · refine ⟨its.toList, r, ⟨o, I.kIn a o hk, hc, n, by simpa using hs⟩, ?_⟩
    have e := r.length
    simp only [Array.length_toList] at e
    lia
theorem Inv.list_inj (I : Inv X pins σ H s) (h : SqL X.K H a xs) (h' : SqL X.K H a ys) : xs = ys := by
  obtain ⟨its, r, ⟨o, n, e, _, _, d⟩, _⟩ := I.list h
  obtain ⟨its', r', ⟨o', n', e', _, _, d'⟩, _⟩ := I.list h'
  rw [e] at e'; cases e'
  rw [d] at d'
  injection d' with d1 _
  have : its = its' := by simpa using congrArg Array.toList d1
  subst this
  exact r.inj r'
end
noncomputable abbrev Cx.wish (X : Cx) (E : Value → Shared → Prop) : Cx := { X with xe := E }
noncomputable abbrev Cx.nox (X : Cx) : Cx := X.wish fun _ _ => False
theorem Cx.Ok.wish {X : Cx} (ok : X.Ok) (E : Value → Shared → Prop) : (X.wish E).Ok :=
  ⟨ok.mod, ok.kind, ok.glob, ok.blt, ok.above, ok.inj, ok.has, ok.cab, ok.hd, ok.frames, ok.stk, ok.exf, ok.bs, ok.bsz, ok.noex, ok.exfs, ok.funs, ok.frf⟩
theorem Cx.Ok.unwish {X : Cx} {E : Value → Shared → Prop} (ok : (X.wish E).Ok) : X.Ok :=
  ⟨ok.mod, ok.kind, ok.glob, ok.blt, ok.above, ok.inj, ok.has, ok.cab, ok.hd, ok.frames, ok.stk, ok.exf, ok.bs, ok.bsz, ok.noex, ok.exfs, ok.funs, ok.frf⟩
section
variable {X : Cx} {pins : List (Addr × Obj)} {σ : St} {H : Hp} {s : Shared} {E : Value → Shared → Prop}
theorem Inv.wish (I : Inv X pins σ H s) (E : Value → Shared → Prop) : Inv (X.wish E) pins σ H s := ⟨I.ok.wish E, I.os, I.bare, I.base, I.loc, I.cell, I.free, I.freeC, I.pin, I.hok, I.len⟩
theorem Inv.unwish (I : Inv (X.wish E) pins σ H s) : Inv X pins σ H s := ⟨I.ok.unwish, I.os, I.bare, I.base, I.loc, I.cell, I.free, I.freeC, I.pin, I.hok, I.len⟩
theorem SP.unwish {D : Ends} {f : Flow} {s' : Shared} (h : SP (X.wish E) pins D f s') : SP X pins D f s' := by
  cases f with
  | next => obtain ⟨σ', H', I, q⟩ := h; exact ⟨σ', H', I.unwish, q⟩
  | brk => obtain ⟨σ', H', I, q⟩ := h; exact ⟨σ', H', I.unwish, q⟩
  | cont => obtain ⟨σ', H', I, q⟩ := h; exact ⟨σ', H', I.unwish, q⟩
  | ret u => obtain ⟨v, σ', H', I, r, q⟩ := h; exact ⟨v, σ', H', I.unwish, r, q⟩
theorem PSs.nox {st : List Stmt} {t : TS} (h : PSs X.nox st t) : PSs X st t := fun pins s σ H D I hw =>
  wpAny_mono (h pins s σ H D (I.wish _) hw) (fun _ _ q => q.unwish) fun _ _ z => False.elim z
end
section
variable {X : Cx} {st : Stmt} {rest : List Stmt} {t u : TS} {e : Expr} {te : TE} {pos : Pos}
noncomputable def tNext : TS := fun D σ H => D.nx σ H
noncomputable def tSeq (t u : TS) : TS := fun D σ H => t { D with nx := u D } σ H
theorem pss_nil : PSs X [] tNext := fun _ _ σ H _ I h => wpAny_execs_nil ⟨σ, H, I, h⟩
theorem pss_cons (h1 : PS X st t) (h2 : PSs X rest u) : PSs X (st :: rest) (tSeq t u) := by
  intro pins s σ H D I h
  refine wpAny_execs_cons (thn (h1 pins s σ H { D with nx := u D } I h) fun f s1 q => ?_)
  cases f with
  | next =>
    obtain ⟨σ', H', I', q⟩ := q
    exact h2 pins s1 σ' H' D I' q
  | ret v => exact q
  | brk => exact q
  | cont => exact q
theorem pss_one (h1 : PS X st t) : PSs X [st] t := by
  intro pins s σ H D I h
  refine wpAny_execs_cons (thn (h1 pins s σ H D I h) fun f s1 q => ?_)
  cases f with
  | next => exact wpAny_execs_nil q
  | ret v => exact q
  | brk => exact q
  | cont => exact q
noncomputable def tRet (te : TE) : TS := fun D σ H => te σ H D.rt
theorem ps_ret (he : PE X e te) : PS X (.Return (some e) pos) (tRet te) := by
  intro pins s σ H D I h
  exact wpAny_Return_some (thn (he pins s σ H _ I h) fun v s1 ⟨x, H1, I1, r1, q1⟩ => ⟨x, σ, H1, I1, r1, q1⟩)
noncomputable def tIfS (c : TT) (t u : TS) : TS := fun D σ H => c σ H fun b H1 => if b = true then t D σ H1 else u D σ H1
theorem ps_if {c : Expr} {a b : List Stmt} {tc : TT} (hc : PT X c tc) (ha : PSs X a t) (hb : PSs X b u) : PS X (.If c a b pos) (tIfS tc t u) := by
  intro pins s σ H D I h
  refine wpAny_If (thn (hc pins s σ H _ I h) fun d s1 ⟨H1, I1, q1⟩ => ?_)
  cases d with
  | true => exact ha pins s1 σ H1 D I1 q1
  | false => exact hb pins s1 σ H1 D I1 q1
end
noncomputable abbrev TG := V → St → Hp → (St → Hp → Prop) → Prop
noncomputable abbrev TGs := List V → St → Hp → (St → Hp → Prop) → Prop
noncomputable def PG (X : Cx) (target : Expr) (t : TG) : Prop :=
  ∀ (pins : List (Addr × Obj)) (s : Shared) (σ : St) (H : Hp) (v : V) (u : Value) (Q : St → Hp → Prop), Inv X pins σ H s → RelV v u → t v σ H Q →
    wpAny (model X.prog X.w) X.A (assign target X.env u) (fun _ s' => ∃ σ' H', Inv X pins σ' H' s' ∧ Q σ' H') X.xe s
noncomputable def PGs (X : Cx) (ts : List Expr) (t : TGs) : Prop :=
  ∀ (pins : List (Addr × Obj)) (s : Shared) (σ : St) (H : Hp) (vs : List V) (us : List Value) (Q : St → Hp → Prop), Inv X pins σ H s → Vals vs us → t vs σ H Q →
    wpAny (model X.prog X.w) X.A (assignInOrder ((assignEach ts X.env).map (·.2)) us) (fun _ s' => ∃ σ' H', Inv X pins σ' H' s' ∧ Q σ' H') X.xe s
section
variable {X : Cx} {pos : Pos}
noncomputable def gName (i : Nat) : TG := fun v σ H Q => Q (σ.set i (some v)) H
theorem pg_name {i : Nat} {x : Str} (hN : X.N.Nodup) (hi : X.N[i]? = some x) (hx : Loc X.env.scope x) (hf : X.fn x = true ∨ X.env.scope.names.lookup x = some .local := by first | exact .inl rfl | exact .inr rfl | assumption) : PG X (.Name x pos) (gName i) := by
  intro pins s σ H v u Q I r h
  exact wpAny_assign_Name (store_ok I hN hi hx r (fun s' I' => ⟨_, H, I', h⟩) hf)
noncomputable def gNil : TGs := fun vs σ H Q => vs = [] ∧ Q σ H
inductive gCons (t : TG) (u : TGs) (vs : List V) (σ : St) (H : Hp) (Q : St → Hp → Prop) : Prop
  | mk (v : _) (r : _) (c0 : vs = v :: r) (c1 : t v σ H fun σ' H' => u r σ' H' Q) : gCons t u vs σ H Q
theorem pgs_nil : PGs X [] gNil := by
  intro pins s σ H vs us Q I r h
  obtain ⟨e, h⟩ := h
  subst e
  cases r
  exact assignInOrder_nil ⟨σ, H, I, h⟩
theorem pgs_cons {e : Expr} {es : List Expr} {t : TG} {u : TGs} (h1 : PG X e t) (h2 : PGs X es u)
    (hs : (assignEach (e :: es) X.env).map (·.2) = assign e X.env :: (assignEach es X.env).map (·.2) := by rfl) : PGs X (e :: es) (gCons t u) := by
  intro pins s σ H vs us Q I r h
  obtain ⟨v, vr, e1, h⟩ := h
  subst e1
  cases r with
  | cons r rr =>
    rw [hs]
    refine assignInOrder_cons (thn (h1 pins s σ H _ _ _ I r h) fun _ s1 ⟨σ1, H1, I1, q1⟩ => ?_)
    exact h2 pins s1 σ1 H1 _ _ Q I1 rr q1
inductive gTup (K : PySem.W.Frag) (n : Nat) (t : TGs) (v : V) (σ : St) (H : Hp) (Q : St → Hp → Prop) : Prop
  | mk (a : _) (xs : _) (c0 : v = .ref a) (c1 : SqT K H a xs) (c2 : xs.length = n) (c3 : t xs σ H Q) : gTup K n t v σ H Q
theorem pg_tup {es : List Expr} {k : Nat} {t : TGs} {n : Nat} (hc : X.calm = true) (h : PGs X es t)
    (hn : (assignEach es X.env).length = n := by rfl) (hst : (assignEach es X.env).findIdx? (·.1) = none := by rfl) : PG X (.Tuple es k pos) (gTup X.K n t) := by
  intro pins s σ H v u Q I r hw
  obtain ⟨a, xs, e1, hq, hl, hw⟩ := hw
  subst e1
  cases r
  obtain ⟨its, rv, ht, hz⟩ := I.tuple hq
  refine assign_Tuple_tuple (I.ok.hd hc) ht (by simp [hn, ← hl, rv.length]) hst fun h' hx => ?_
  have I1 : Inv X pins σ H { s with heap := h' } := I.kept (t' := s.toks) fun b o e => hx b o (Nat.ne_of_lt (Heap.lt_size e)) e
  exact h pins _ σ H xs _ Q I1 (by simpa using rv) hw
noncomputable def tAsg (te : TE) (g : TG) : TS := fun D σ H => te σ H fun x H1 => g x σ H1 D.nx
theorem ps_set {i : Nat} {x : Str} {e : Expr} {te : TE} {pos' : Pos} (hN : X.N.Nodup) (hi : X.N[i]? = some x) (hx : Loc X.env.scope x) (he : PE X e te) (hs : swapsWith e (some (.Name x pos')) pos.line X.env = pure false := by rfl) (hf : X.fn x = true ∨ X.env.scope.names.lookup x = some .local := by first | exact .inl rfl | exact .inr rfl | assumption) :
    PS X (.Assign [.Name x pos'] e pos) (tAsg te (gName i)) := by
  intro pins s σ H D I h
  refine wpAny_Assign_Name (thn (he pins s σ H _ I h) fun v s1 ⟨y, H1, I1, r1, q1⟩ => ?_) hs
  exact store_ok I1 hN hi hx r1 (fun s2 I2 => ⟨_, H1, I2, q1⟩) hf
end
structure It where
  go : Nat → Hp → Prop
  yld : Nat → Hp → V → Hp → Prop
  stop : Nat → Hp → Prop
noncomputable def FpOk (X : Cx) (pins : List (Addr × Obj)) (H : Hp) (b : Addr) : Prop :=
  H b = none ∧ b ≠ X.env.locals ∧ b ∉ X.fs ∧ (b ∈ X.ex ∨ X.s₀.heap.objs.size ≤ b) ∧ (∀ x c, X.env.cells.lookup x = some c → c ≠ b) ∧ ∀ p ∈ X.pn ++ pins, p.1 ≠ b
theorem Inv.fpOk {X : Cx} {pins : List (Addr × Obj)} {σ : St} {H H' : Hp} {s : Shared} {b : Addr} (I : Inv X pins σ H s) (hb : s.heap.objs.size ≤ b) (hn : H' b = none) : FpOk X pins H' b := by
  refine ⟨hn, Nat.ne_of_gt (Nat.lt_of_lt_of_le I.lt hb), I.nofs hb, .inr (Nat.le_trans I.sz hb), fun x c e z => ?_, fun p hp z => ?_⟩
  · obtain ⟨v, q⟩ := I.cell x c e
    exact absurd (Nat.lt_of_lt_of_le q.lt (by rw [z]; exact hb)) (Nat.lt_irrefl _)
  · exact absurd (Nat.lt_of_lt_of_le (Heap.lt_size (I.pin p hp).1) (by rw [z]; exact hb)) (Nat.lt_irrefl _)
structure Turn (P : Program) (w : World) (K : PySem.W.Frag) (tg : Expr) (J : It) (fp : List Addr) (it : Addr) (tn : Nat → Heap → Prop) : Prop where
  mem : it ∈ fp
  obj : ∀ i h, tn i h → ∀ b ∈ fp, ∃ o, h.get? b = some o ∧ ∀ v, o.data ≠ .cell v
  keep : ∀ i h h', tn i h → (∀ b ∈ fp, ∀ o, h.get? b = some o → h'.get? b = some o) → tn i h'
  item : ∀ (X : Cx), X.prog = P → X.w = w → X.K = K → X.calm = true → ∀ (i : Nat) (pins : List (Addr × Obj)) (s : Shared) (σ : St) (H : Hp) (E : Value → Shared → Prop), Inv X pins σ H s → (∀ b ∈ fp, FpOk X pins H b) → tn i s.heap → J.go i H →
    wpAny (model P w) X.A (pyNext (.ref it)) (fun r s1 => ∃ u, r = some u ∧
      wpAny (model P w) X.A (letOwnedTupleGo tg (.ref it) u) (fun _ s2 => ∃ x H', Inv X pins σ H' s2 ∧ RelV x u ∧ J.yld i H x H' ∧ tn (i + 1) s2.heap ∧ ∀ b ∈ fp, H' b = none) E s1) E s
  done : ∀ (X : Cx), X.prog = P → X.w = w → X.K = K → X.calm = true → ∀ (i : Nat) (pins : List (Addr × Obj)) (s : Shared) (σ : St) (H : Hp) (E : Value → Shared → Prop), Inv X pins σ H s → (∀ b ∈ fp, FpOk X pins H b) → tn i s.heap → J.stop i H →
    wpAny (model P w) X.A (pyNext (.ref it)) (fun r s1 => r = none ∧ Inv X pins σ H s1) E s
  self : ∀ (A : Around) (i : Nat) (s : Shared) (Q : Value → Shared → Prop) (E : Value → Shared → Prop), tn i s.heap → Q (.ref it) s → wpAny (model P w) A (pyIter (.ref it)) Q E s
noncomputable abbrev TI := St → Hp → (It → Hp → Prop) → Prop
noncomputable def PIE (X : Cx) (pins : List (Addr × Obj)) (σ : St) (tg : Expr) (R : It → Hp → Prop) (itv : Value) (s2 : Shared) : Prop :=
  ∃ (it : Addr) (fp : List Addr) (tn : Nat → Heap → Prop) (J : It) (H' : Hp), itv = .ref it ∧ Inv X pins σ H' s2 ∧ Turn X.prog X.w X.K tg J fp it tn ∧ tn 0 s2.heap ∧ (∀ b ∈ fp, FpOk X pins H' b) ∧ R J H'
noncomputable def PI (X : Cx) (tg iter : Expr) (wi : TI) : Prop :=
  ∀ (pins : List (Addr × Obj)) (s : Shared) (σ : St) (H : Hp) (R : It → Hp → Prop), Inv X pins σ H s → wi σ H R →
    wpAny (model X.prog X.w) X.A (eval iter X.env) (fun v s1 => wpAny (model X.prog X.w) X.A (pyIter v) (PIE X pins σ tg R) X.xe s1) X.xe s
theorem go_of {M : Model} {A : Around} {E : Value → Shared → Prop} {s : Shared} {tg : Expr} {it : Addr} {u : Value} {o : Obj} {n : String} {vs : Array Value} {Q : Unit → Shared → Prop} (ho : s.heap.get? it = some o) (hc : o.cls = .type n) (hd : o.data = .fields vs)
    (hn : ["enumerate", "zip", "dict_itemiterator", "dict_reverseitemiterator", "odict_iterator", "itertools.zip_longest", "itertools.pairwise"].contains n = false) (hQ : Q () s) : wpAny M A (letOwnedTupleGo tg (.ref it) u) Q E s := by
  unfold letOwnedTupleGo
  cases tg <;> first
    | exact wpAny_pure hQ
    | (cases u <;> first
        | exact wpAny_pure hQ
        | (refine wpAny_bind (wpAny_load ho ?_)
           rw [hc, hd]
           show wpAny M A (if (["enumerate", "zip", "dict_itemiterator", "dict_reverseitemiterator", "odict_iterator", "itertools.zip_longest", "itertools.pairwise"].contains n && vs[0]? == some (rawInt _)) = true then _ else _) Q E s
           rw [if_neg (by intro h; rw [hn, Bool.false_and] at h; cases h)]
           exact wpAny_pure hQ))
noncomputable def Itl (K : PySem.W.Frag) (a : Addr) : It :=
  ⟨fun i H => ∃ xs x, SqL K H a xs ∧ xs[i]? = some x, fun i H x H' => H' = H ∧ ∀ xs, SqL K H a xs → xs[i]? = some x, fun i H => ∃ xs, SqL K H a xs ∧ xs.length ≤ i⟩
noncomputable def Itr (lo : Int) (n : Nat) : It := ⟨fun i _ => i < n, fun i H x H' => H' = H ∧ x = .int (lo + i), fun i _ => n ≤ i⟩
theorem turn_list {P : Program} {w : World} {K : PySem.W.Frag} {tg : Expr} (a it : Addr) : Turn P w K tg (Itl K a) [it] it (fun i h => h.IsListIter it a i) where
  mem := by simp
  obj := fun i h st b hb => by
    have e : b = it := by simpa using hb
    subst e
    obtain ⟨o, e, c, d⟩ := st
    exact ⟨o, e, fun v z => by rw [d] at z; cases z⟩
  keep := fun i h h' st k => st.at fun o e => k it (by simp) o e
  item := by
    intro X hP hw hK hc i pins s σ H E I hf st hg
    subst hP hw hK
    obtain ⟨xs, x, hq, hx⟩ := hg
    obtain ⟨its, rv, p, hz⟩ := I.list hq
    obtain ⟨u, hu, ru⟩ := rv.get hx
    obtain ⟨f0, f1, f2, f3, f4, f5⟩ := hf it (by simp)
    refine wpAny_pyNext_list_item st p.isList (x := u) (by simpa using hu) fun h' st' sb => ?_
    have I1 : Inv X pins σ H { s with heap := h' } := I.turned (t' := s.toks) (fun b o hb e => (sb.2 b hb).trans e) f0 f1 f3 f4 f5
    obtain ⟨o, e, c, d⟩ := id st'
    exact ⟨u, rfl, go_of (s := { s with heap := h' }) e c d (by decide) ⟨x, H, I1, ru, ⟨rfl, fun ys hy => by rw [I.list_inj hy hq]; exact hx⟩, st', fun b hb => (hf b hb).1⟩⟩
  done := by
    intro X hP hw hK hc i pins s σ H E I hf st hg
    subst hP hw hK
    obtain ⟨xs, hq, hx⟩ := hg
    obtain ⟨its, rv, p, hz⟩ := I.list hq
    obtain ⟨f0, f1, f2, f3, f4, f5⟩ := hf it (by simp)
    have hl := rv.length
    exact wpAny_pyNext_list_end (I.ok.hd hc) st p.isList (by simp; lia) fun h' eb => ⟨rfl, I.turned (t' := s.toks) (fun b o hb e => eb b o hb e) f0 f1 f3 f4 f5⟩
  self := fun _ _ _ _ _ st h => wpAny_pyIter_listiter st h
theorem turn_range {P : Program} {w : World} {K : PySem.W.Frag} {tg : Expr} (it : Addr) (lo : Int) (n : Nat) : Turn P w K tg (Itr lo n) [it] it (fun i h => IsRangeIter h it (lo + (i : Nat) * 1) ((n : Int) - (i : Nat)) 1) where
  mem := by simp
  obj := fun i h st b hb => by
    have e : b = it := by simpa using hb
    subst e
    exact ⟨_, st, fun v z => by
      have z' : Data.fields _ = Data.cell v := z
      cases z'⟩
  keep := fun i h h' st k => k it (by simp) _ st
  item := by
    intro X hP hw hK hc i pins s σ H E I hf st hg
    subst hP hw hK
    obtain ⟨f0, f1, f2, f3, f4, f5⟩ := hf it (by simp)
    have W := Walks.range (prog := X.prog) (w := X.w) (I.ok.hd hc) it lo 1 n
    refine W.item i s _ _ hg st fun v h' tk hv st' kk => ?_
    obtain ⟨t, rfl⟩ := hv
    have I1 : Inv X pins σ H { s with heap := h', toks := tk } := I.turned (fun b o hb e => kk b o (by simpa using hb) e) f0 f1 f3 f4 f5
    refine ⟨_, rfl, go_of (s := { s with heap := h', toks := tk }) (n := "range_iterator") st' rfl rfl (by decide) ⟨.int (lo + i), H, I1, ⟨t, ?_⟩, ⟨rfl, rfl⟩, st', fun b hb => (hf b hb).1⟩⟩
    rw [Int.mul_one]
  done := by
    intro X hP hw hK hc i pins s σ H E I hf st hg
    subst hP hw hK
    obtain ⟨f0, f1, f2, f3, f4, f5⟩ := hf it (by simp)
    exact wpAny_pyNext_range_end (I.ok.hd hc) st (by have : n ≤ i := hg; lia) fun h' eb => ⟨rfl, I.turned (t' := s.toks) (fun b o hb e => eb b o hb e) f0 f1 f3 f4 f5⟩
  self := fun _ _ _ _ _ st h => wpAny_pyIter_rangeiter st h
end L2
namespace L2
open PySem PySem.Spec PyProof.Rows
section
variable {X : Cx} {tg : Expr}
noncomputable def iList (K : PySem.W.Frag) (tl : TE) : TI := fun σ H R => tl σ H fun x H1 => ∃ a, x = .ref a ∧ (∃ xs, SqL K H1 a xs) ∧ R (Itl K a) H1
theorem pi_list {l : Expr} {tl : TE} (hl : PE X l tl) : PI X tg l (iList X.K tl) := by
  intro pins s σ H R I h
  refine thn (hl pins s σ H _ I h) fun v s1 ⟨x, H1, I1, r1, q1⟩ => ?_
  obtain ⟨a, e, ⟨xs, hq⟩, q⟩ := q1
  subst e
  cases r1
  obtain ⟨its, rv, p, hz⟩ := I1.list hq
  refine wpAny_pyIter_list p.isList ?_
  refine ⟨s1.heap.objs.size, [s1.heap.objs.size], _, _, H1, rfl, I1.kept (t' := s1.toks) fun b o e => Heap.get?_push_of_some _ e, turn_list a _, ⟨_, Heap.get?_push_size _ rfl, rfl, rfl⟩, fun b hb => ?_, q⟩
  have e : b = s1.heap.objs.size := by simpa using hb
  subst e
  exact I1.fpOk (Nat.le_refl _) (I1.hok.fresh (Nat.le_refl _))
theorem range_it {pins : List (Addr × Obj)} {σ : St} {H : Hp} {s : Shared} {R : It → Hp → Prop} {E : Value → Shared → Prop} {lo hi : Int} {t u v : Tok} {tk : Nat} (I : Inv X pins σ H s) (h1 : -(2 ^ 62) ≤ lo) (h2 : lo < 2 ^ 62) (h3 : -(2 ^ 62) ≤ hi) (h4 : hi < 2 ^ 62)
    (q : R (Itr lo (hi - lo).toNat) H) : wpAny (model X.prog X.w) X.A (pyIter (.ref s.heap.objs.size)) (PIE X pins σ tg R) E { s with heap := s.heap.push { cls := .type "range", data := .fields #[.int lo t, .int hi u, .int 1 v] }, toks := tk } := by
  refine wpAny_pyIter_range (IsRange.new ..) (small_one h1 h2 h3 h4) ?_
  have I1 : Inv X pins σ H { s with heap := s.heap.push { cls := .type "range", data := .fields #[.int lo t, .int hi u, .int 1 v] }, toks := tk } := I.kept fun b o e => Heap.get?_push_of_some _ e
  refine ⟨(s.heap.push { cls := .type "range", data := .fields #[.int lo t, .int hi u, .int 1 v] }).objs.size, [(s.heap.push { cls := .type "range", data := .fields #[.int lo t, .int hi u, .int 1 v] }).objs.size], _, _, H, rfl,
    I1.kept (t' := tk) fun b o e => Heap.get?_push_of_some _ e, turn_range _ lo (hi - lo).toNat, ?_, fun b hb => ?_, q⟩
  · have e1 : lo + ((0 : Nat) : Int) * 1 = lo := by simp
    have e2 : (((hi - lo).toNat : Nat) : Int) - ((0 : Nat) : Int) = Builtin.Range.rangeSize lo hi 1 := by rw [rangeSize_one]; split <;> lia
    show IsRangeIter _ _ (lo + ((0 : Nat) : Int) * 1) ((((hi - lo).toNat : Nat) : Int) - ((0 : Nat) : Int)) 1
    rw [e1, e2]
    exact Heap.get?_push_size _ rfl
  · have e : b = (s.heap.push { cls := .type "range", data := .fields #[.int lo t, .int hi u, .int 1 v] }).objs.size := by simpa using hb
    subst e
    exact I1.fpOk (Nat.le_refl _) (I1.hok.fresh (Nat.le_refl _))
noncomputable def iRng1 (ta : TA) : TI := fun σ H R => ta σ H fun vs H1 => ∃ j : Int, vs = [.int j] ∧ -(2 ^ 62) ≤ j ∧ j < 2 ^ 62 ∧ R (Itr 0 j.toNat) H1
theorem pi_range1 {a : Expr} {ta : TA} {p pos : Pos} (hg : Gl X "range") (hm : X.mg "range" = none) (ha : PA X [a] ta) (hs : starEach [a] X.env = [(false, eval a X.env)] := by rfl) : PI X tg (.Call (.Name "range" p) [a] [] pos) (iRng1 ta) := by
  intro pins s σ H R I h
  refine Call_ (ld_blt I hg hm boot_range (PyProof.Rows.callWith_type1 (thn (ha pos pins s σ H _ I h) fun us s1 ⟨vs, H1, I1, r1, q1⟩ => ?_) hs rfl))
  obtain ⟨j, e, q1, q2, q⟩ := q1
  subst e
  cases r1 with
  | cons r rr =>
    cases rr
    obtain ⟨t, rfl⟩ := r
    exact call_range_1 (range_it I1 (by lia) (by lia) q1 q2 (by simpa using q))
noncomputable def tFor (wi : TI) (g : TG) (tb : TS) : TS := fun D σ H => wi σ H fun J H1 => ∃ W : Nat → Nat → St → Hp → Prop, (∃ m, W 0 m σ H1) ∧ ∀ i m σ H, W i m σ H →
  (J.stop i H ∧ D.nx σ H) ∨ (J.go i H ∧ ∃ N : St → Hp → Prop, (∀ σ' H', N σ' H' → ∃ m', m' < m ∧ W (i + 1) m' σ' H') ∧ ∀ x H', J.yld i H x H' → g x σ H' fun σ2 H2 => tb { D with nx := N, ct := N, bk := D.nx } σ2 H2)
noncomputable def pinsAt (fp : List Addr) (h : Heap) : List (Addr × Obj) := fp.filterMap fun b => (h.get? b).map fun o => (b, o)
theorem mem_pinsAt {fp : List Addr} {h : Heap} {b : Addr} {o : Obj} (hb : b ∈ fp) (e : h.get? b = some o) : (b, o) ∈ pinsAt fp h := List.mem_filterMap.mpr ⟨b, hb, by rw [e]; rfl⟩
theorem of_pinsAt {fp : List Addr} {h : Heap} {p : Addr × Obj} (hp : p ∈ pinsAt fp h) : p.1 ∈ fp ∧ h.get? p.1 = some p.2 := by
  obtain ⟨b, hb, e⟩ := List.mem_filterMap.mp hp
  cases q : h.get? b with
  | none => rw [q] at e; cases e
  | some o =>
    rw [q] at e
    have e' : (b, o) = p := Option.some.inj e
    subst e'
    exact ⟨hb, q⟩
theorem Inv.pinned {pins : List (Addr × Obj)} {σ : St} {H : Hp} {s : Shared} {fp : List Addr} (I : Inv X pins σ H s) (hf : ∀ b ∈ fp, FpOk X pins H b) (ho : ∀ b ∈ fp, ∃ o, s.heap.get? b = some o ∧ ∀ v, o.data ≠ .cell v) : Inv X (pins ++ pinsAt fp s.heap) σ H s :=
  I.pins_of fun p hp => (List.mem_append.mp hp).elim (fun z => I.pin p (List.mem_append_right _ z)) fun z => by
    obtain ⟨hb, e⟩ := of_pinsAt z
    obtain ⟨f0, f1, f2, _⟩ := hf p.1 hb
    obtain ⟨o, e', d⟩ := ho p.1 hb
    rw [e] at e'; cases e'
    exact ⟨e, f0, f1, f2, d⟩
theorem Inv.unpinned {pins pl : List (Addr × Obj)} {σ : St} {H : Hp} {s : Shared} (I : Inv X (pins ++ pl) σ H s) : Inv X pins σ H s := I.pins_of fun p hp => I.pin p (List.mem_append_right _ (List.mem_append_left _ hp))
theorem ps_for {iter : Expr} {body : List Stmt} {wi : TI} {g : TG} {tb : TS} {pos : Pos} (hp : PassesOwn (model X.prog X.w) X.A X.env X.xe) (hc : X.calm = true) (hi : PI X tg iter wi) (hg : PG X tg g) (hb : PSs X body tb)
    (hs : ∀ x, foldedSetIterable iter X.env x = pure x := by intro _; rfl) : PS X (.For tg iter body [] pos) (tFor wi g tb) := by
  intro pins s σ H D I h
  refine wpAny_For (thn (hi pins s σ H _ I h) fun v s1 h1 => thn h1 fun itv s2 h2 => ?_) hs
  obtain ⟨it, fp, tn, J, H2, e, I2, T, st2, f2, W, ⟨m0, w0⟩, turn⟩ := h2
  subst e
  -- what stays true of the iterator's objects through the loop
  have stat : ∀ {H' : Hp}, (∀ b ∈ fp, H' b = none) → ∀ b ∈ fp, FpOk X pins H' b := fun hn b hb => ⟨hn b hb, (f2 b hb).2⟩
  refine codeAny_forLoop_any (fun n s' => ∃ i σ' H', Inv X pins σ' H' s' ∧ tn i s'.heap ∧ (∀ b ∈ fp, H' b = none) ∧ W i n σ' H') ?_ m0 ⟨0, σ, H2, I2, st2, fun b hb => (f2 b hb).1, w0⟩
  rintro n s3 ⟨i, σ3, H3, I3, st3, fr3, w3⟩
  rcases turn i n σ3 H3 w3 with ⟨stop, qn⟩ | ⟨go, N, hN, step⟩
  · refine wpAny_passesOwn hp (thn (T.done X rfl rfl rfl hc i pins s3 σ3 H3 X.xe I3 (stat fr3) st3 stop) fun r s4 ⟨hr, I4⟩ => ?_)
    subst hr
    exact wpAny_execs_nil ⟨σ3, H3, I4, qn⟩
  · refine wpAny_passesOwn hp (thn (T.item X rfl rfl rfl hc i pins s3 σ3 H3 X.xe I3 (stat fr3) st3 go) fun r s4 ⟨u, hr, h4⟩ => ?_)
    subst hr
    refine wpAny_passesOwn hp (thn h4 fun _ s5 ⟨x, H5, I5, r5, y5, st5, fr5⟩ => ?_)
    have I5' := I5.pinned (stat fr5) (T.obj _ _ st5)
    refine wpAny_passesOwn hp (thn (hg _ s5 σ3 H5 x u _ I5' r5 (step x H5 y5)) fun _ s6 ⟨σ6, H6, I6, q6⟩ => ?_)
    refine wpAny_passesOwn hp (thn (hb _ s6 σ6 H6 _ I6 q6) fun f s7 q7 => ?_)
    have again : ∀ {σ7 : St} {H7 : Hp}, Inv X (pins ++ pinsAt fp s5.heap) σ7 H7 s7 → N σ7 H7 → ∃ m, m < n ∧ ∃ i σ' H', Inv X pins σ' H' s7 ∧ tn i s7.heap ∧ (∀ b ∈ fp, H' b = none) ∧ W i m σ' H' := fun {σ7 H7} I7 n7 => by
      obtain ⟨m', hm, w7⟩ := hN σ7 H7 n7
      refine ⟨m', hm, i + 1, σ7, H7, I7.unpinned, T.keep _ _ _ st5 fun b hb o e => (I7.pin (b, o) (List.mem_append_right _ (List.mem_append_right _ (mem_pinsAt hb e)))).1, fun b hb => ?_, w7⟩
      obtain ⟨o, e, d⟩ := T.obj _ _ st5 b hb
      exact (I7.pin (b, o) (List.mem_append_right _ (List.mem_append_right _ (mem_pinsAt hb e)))).2.1
    cases f with
    | next => obtain ⟨σ7, H7, I7, n7⟩ := q7; exact again I7 n7
    | cont => obtain ⟨σ7, H7, I7, n7⟩ := q7; exact again I7 n7
    | brk => obtain ⟨σ7, H7, I7, q7⟩ := q7; exact ⟨σ7, H7, I7.unpinned, q7⟩
    | ret v => obtain ⟨x7, σ7, H7, I7, r7, q7⟩ := q7; exact ⟨x7, σ7, H7, I7.unpinned, r7, q7⟩
end
theorem for_list {K : PySem.W.Frag} {a : Addr} {xs : List V} {g : TG} {tb : TS} {D : Ends} {σ : St} {H : Hp} (Pv : Nat → St → Hp → Prop) (h0 : Pv 0 σ H) (hl : ∀ i σ H, i ≤ xs.length → Pv i σ H → SqL K H a xs)
    (hs : ∀ i x σ H, xs[i]? = some x → Pv i σ H → g x σ H fun σ2 H2 => tb { D with nx := Pv (i + 1), ct := Pv (i + 1), bk := D.nx } σ2 H2) (hd : ∀ σ H, Pv xs.length σ H → D.nx σ H) :
    ∃ W : Nat → Nat → St → Hp → Prop, (∃ m, W 0 m σ H) ∧ ∀ i m σ H, W i m σ H →
      ((Itl K a).stop i H ∧ D.nx σ H) ∨ ((Itl K a).go i H ∧ ∃ N : St → Hp → Prop, (∀ σ' H', N σ' H' → ∃ m', m' < m ∧ W (i + 1) m' σ' H') ∧ ∀ x H', (Itl K a).yld i H x H' → g x σ H' fun σ2 H2 => tb { D with nx := N, ct := N, bk := D.nx } σ2 H2) := by
  refine ⟨fun i m σ H => m = xs.length - i ∧ i ≤ xs.length ∧ Pv i σ H, ⟨xs.length, by simp, Nat.zero_le _, h0⟩, ?_⟩
  rintro i m σ H ⟨rfl, hi, p⟩
  have q := hl i σ H hi p
  by_cases hlt : i < xs.length
  · refine .inr ⟨⟨xs, xs[i], q, by simp [hlt]⟩, Pv (i + 1), fun σ' H' p' => ⟨xs.length - (i + 1), by lia, rfl, hlt, p'⟩, fun x H' y => ?_⟩
    obtain ⟨e, y⟩ := y
    subst e
    exact hs i x σ _ (y xs q) p
  · have e : i = xs.length := by lia
    subst e
    exact .inl ⟨⟨xs, q, Nat.le_refl _⟩, hd σ H p⟩
end L2
namespace L2
open PySem PySem.Spec PyProof.Rows
noncomputable abbrev R2 := V → V → Hp → VK → Prop
noncomputable def OpR (X : Cx) (f : Value → Value → Sem Value) (r : R2) : Prop :=
  ∀ (pins : List (Addr × Obj)) (s : Shared) (σ : St) (H : Hp) (x y : V) (v u : Value) (Q : VK), Inv X pins σ H s → RelV x v → RelV y u → r x y H Q →
    wpAny (model X.prog X.w) X.A (f v u) (EP X pins σ Q) X.xe s
noncomputable def CallR (X : Cx) (f : Value) (r : List V → Hp → VK → Prop) : Prop :=
  ∀ (pins : List (Addr × Obj)) (s : Shared) (σ : St) (H : Hp) (xs : List V) (us : List Value) (Q : VK), Inv X pins σ H s → Vals xs us → r xs H Q →
    wpAny (model X.prog X.w) X.A (call f us) (EP X pins σ Q) X.xe s
noncomputable def tOp (r : R2) (ta tb : TE) : TE := fun σ H Q => ta σ H fun x H1 => tb σ H1 fun y H2 => r x y H2 Q
inductive rI (C : Int → Int → Prop) (g : Int → Int → V) (x : V) (y : V) (H : Hp) (Q : VK) : Prop
  | mk (i : _) (j : _) (c0 : x = .int i) (c1 : y = .int j) (c2 : C i j) (c3 : Q (g i j) H) : rI C g x y H Q
inductive rI0 (g : Int → Int → V) (x : V) (y : V) (H : Hp) (Q : VK) : Prop
  | mk (i : _) (j : _) (c0 : x = .int i) (c1 : y = .int j) (c2 : Q (g i j) H) : rI0 g x y H Q
section
variable {X : Cx} {a b c : Expr} {ta tb tc : TE} {pos : Pos}
theorem binT (ha : PE X a ta) (hb : PE X b tb) {pins : List (Addr × Obj)} {s : Shared} {σ : St} {H : Hp} {R : V → V → Hp → Prop} (I : Inv X pins σ H s)
    (h : ta σ H fun x H1 => tb σ H1 fun y H2 => R x y H2) {Q : Value → Shared → Prop} {f : Value → Value → Sem Value}
    (hf : ∀ v u s2 x y H2, Inv X pins σ H2 s2 → RelV x v → RelV y u → R x y H2 → wpAny (model X.prog X.w) X.A (f v u) Q X.xe s2) :
    wpAny (model X.prog X.w) X.A (eval a X.env) (fun v s₁ => wpAny (model X.prog X.w) X.A (eval b X.env) (fun u s₂ => wpAny (model X.prog X.w) X.A (f v u) Q X.xe s₂) X.xe s₁) X.xe s := by
  refine thn (ha pins s σ H _ I h) fun v s1 ⟨x, H1, I1, r1, q1⟩ => ?_
  refine thn (hb pins s1 σ H1 _ I1 q1) fun u s2 ⟨y, H2, I2, r2, q2⟩ => ?_
  exact hf v u s2 x y H2 I2 r1 r2 q2
theorem pe_op {op : Operator} {r : R2} (ho : OpR X (binaryOp op) r) (ha : PE X a ta) (hb : PE X b tb) : PE X (.BinOp a op b pos) (tOp r ta tb) := by
  intro pins s σ H Q I h
  exact wpAny_BinOp (binT ha hb I h fun v u s2 x y H2 I2 rx ry q => ho pins s2 σ H2 x y v u Q I2 rx ry q)
theorem opI {f : Value → Value → Sem Value} {C : Int → Int → Prop} {g : Int → Int → Int}
    (rule : ∀ (i j : Int) (t u : Tok) (s : Shared) (Q : Value → Shared → Prop) (E : Value → Shared → Prop), C i j → Q (.int (g i j) s.toks) { s with toks := s.toks + 1 } → wpAny (model X.prog X.w) X.A (f (.int i t) (.int j u)) Q E s) :
    OpR X f (rI C fun i j => .int (g i j)) := by
  intro pins s σ H x y v u Q I rx ry h
  obtain ⟨i, j, rfl, rfl, hc, q⟩ := h
  obtain ⟨t, rfl⟩ := rx
  obtain ⟨t', rfl⟩ := ry
  exact rule i j t t' s _ _ hc ⟨.int (g i j), H, I.tok _, ⟨_, rfl⟩, q⟩
theorem opI0 {f : Value → Value → Sem Value} {g : Int → Int → Int}
    (rule : ∀ (i j : Int) (t u : Tok) (s : Shared) (Q : Value → Shared → Prop) (E : Value → Shared → Prop), Q (.int (g i j) s.toks) { s with toks := s.toks + 1 } → wpAny (model X.prog X.w) X.A (f (.int i t) (.int j u)) Q E s) :
    OpR X f (rI0 fun i j => .int (g i j)) := by
  intro pins s σ H x y v u Q I rx ry h
  obtain ⟨i, j, rfl, rfl, q⟩ := h
  obtain ⟨t, rfl⟩ := rx
  obtain ⟨t', rfl⟩ := ry
  exact rule i j t t' s _ _ ⟨.int (g i j), H, I.tok _, ⟨_, rfl⟩, q⟩
theorem opB0 {f : Value → Value → Sem Value} {g : Int → Int → Bool}
    (rule : ∀ (i j : Int) (t u : Tok) (s : Shared) (Q : Value → Shared → Prop) (E : Value → Shared → Prop), Q (.bool (g i j)) s → wpAny (model X.prog X.w) X.A (f (.int i t) (.int j u)) Q E s) :
    OpR X f (rI0 fun i j => .bl (g i j)) := by
  intro pins s σ H x y v u Q I rx ry h
  obtain ⟨i, j, rfl, rfl, q⟩ := h
  obtain ⟨t, rfl⟩ := rx
  obtain ⟨t', rfl⟩ := ry
  exact rule i j t t' s _ _ ⟨.bl (g i j), H, I, rfl, q⟩
noncomputable def CPow (i j : Int) : Prop := 0 ≤ j ∧ j ≤ 1000000 ∧ i.natAbs < 2 ^ 64
noncomputable def CMul (i j : Int) : Prop := (-(2 ^ 64) < i ∧ i < 2 ^ 64) ∨ (-(2 ^ 64) < j ∧ j < 2 ^ 64)
theorem CMul.ok {i j : Int} (h : CMul i j) : IntMulOk i j := by
  rcases h with ⟨h1, h2⟩ | ⟨h1, h2⟩
  · exact .of_left (intBits_le_64 h1 h2)
  · exact .of_right (intBits_le_64 h1 h2)
theorem two_pow_nn (k : Nat) : (0 : Int) ≤ 2 ^ k := by
  rw [two_pow_cast]
  exact Int.natCast_nonneg _
theorem op_add : OpR X (binaryOp .Add) (rI0 fun i j => .int (i + j)) := opI0 fun _ _ _ _ _ _ _ q => add_int q
theorem op_mul : OpR X (binaryOp .Mult) (rI CMul fun i j => .int (i * j)) := opI fun _ _ _ _ _ _ _ hc q => mul_int q hc.ok
theorem op_mod : OpR X (binaryOp .Mod) (rI (fun _ j => 0 < j) fun i j => .int (i % j)) := opI fun i j _ _ _ _ _ hc q => by
  have h1 : (0 : Int) < j := hc
  exact mod_int' (by lia) (by rw [Int.fmod_eq_emod_of_nonneg i (by lia)]; exact q)
theorem op_pow : OpR X (binaryOp .Pow) (rI CPow fun i j => .int (i ^ j.toNat)) := opI fun _ _ _ _ _ _ _ hc q => pow_int_small hc.1 hc.2.1 hc.2.2 q
theorem op_shl : OpR X (binaryOp .LShift) (rI CPow fun i j => .int (i * 2 ^ j.toNat)) := opI fun _ _ _ _ _ _ _ hc q => lshift_int_small hc.1 hc.2.1 hc.2.2 q
theorem op_shr : OpR X (binaryOp .RShift) (rI (fun _ j => 0 ≤ j) fun i j => .int (i / 2 ^ j.toNat)) := opI fun i j _ _ _ _ _ hc q =>
  rshift_int hc (by rw [Int.fdiv_eq_ediv_of_nonneg i (two_pow_nn _)]; exact q)
theorem op_and : OpR X (binaryOp .BitAnd) (rI0 fun i j => .int (Builtin.bitAnd i j)) := opI0 fun _ _ _ _ _ _ _ q => and_int q
theorem op_or : OpR X (binaryOp .BitOr) (rI0 fun i j => .int (Builtin.bitOr i j)) := opI0 fun _ _ _ _ _ _ _ q => or_int q
theorem op_xor : OpR X (binaryOp .BitXor) (rI0 fun i j => .int (Builtin.bitXor i j)) := opI0 fun _ _ _ _ _ _ _ q => xor_int q
end
noncomputable def scal : V → V → Bool
  | .non, .non => true | .non, .int _ => true | .int _, .non => true | .non, .bl _ => true | .bl _, .non => true | .non, .str _ => true | .str _, .non => true
  | .int _, .int _ => true | .bl _, .bl _ => true | .str _, .str _ => true | .byt _, .byt _ => true
  | .int _, .str _ => true | .str _, .int _ => true | .bl _, .str _ => true | .str _, .bl _ => true
  | _, _ => false
noncomputable def rEq : R2 := fun x y H Q => scal x y = true ∧ Q (.bl (decide (x = y))) H
noncomputable def rNe : R2 := fun x y H Q => scal x y = true ∧ Q (.bl (!decide (x = y))) H
theorem dec_int {i j : Int} : decide (V.int i = V.int j) = (i == j) := by
  rw [Bool.eq_iff_iff]
  simp
theorem dec_bl {i j : Bool} : decide (V.bl i = V.bl j) = (i == j) := by
  rw [Bool.eq_iff_iff]
  simp
theorem dec_str {i j : Str} : decide (V.str i = V.str j) = (i == j) := by
  rw [Bool.eq_iff_iff]
  simp
theorem dec_byt {i j : Array UInt8} : decide (V.byt i = V.byt j) = (i.toList == j.toList) := by
  rw [Bool.eq_iff_iff]
  cases i
  cases j
  simp
section
variable {X : Cx} {a b c : Expr} {ta tb tc : TE} {pos : Pos}
theorem fin_bl {pins : List (Addr × Obj)} {σ : St} {H : Hp} {s : Shared} {Q : VK} {k k' : Bool} (I : Inv X pins σ H s) (q : Q (.bl k) H) (e : k = k') : EP X pins σ Q (.bool k') s := by
  subst e
  exact ⟨.bl k, H, I, rfl, q⟩
theorem op_eq : OpR X (compareOp .Eq) rEq := by
  intro pins s σ H x y v u Q I rx ry h
  obtain ⟨hs, q⟩ := h
  cases x with
  | non =>
    cases rx
    cases y with
    | non => cases ry; exact PySem.EqNone.eq_none_none (fin_bl I q (by simp))
    | bl j => cases ry; exact PySem.EqNone.eq_none_bool (fin_bl I q (by simp))
    | int j => obtain ⟨t', rfl⟩ := ry; exact PySem.EqNone.eq_none_int (fin_bl I q (by simp))
    | str j => obtain ⟨t', rfl⟩ := ry; exact PySem.EqNone.eq_none_str (fin_bl I q (by simp))
    | _ => exact absurd (show false = true from hs) Bool.false_ne_true
  | bl i =>
    cases rx
    cases y with
    | non => cases ry; exact PySem.EqNone.eq_bool_none (fin_bl I q (by simp))
    | bl j => cases ry; exact eq_bool (fin_bl I q dec_bl)
    | str j => obtain ⟨t', rfl⟩ := ry; exact PySem.EqMixed.eq_bool_str (fin_bl I q (by simp))
    | _ => exact absurd (show false = true from hs) Bool.false_ne_true
  | int i =>
    obtain ⟨t, rfl⟩ := rx
    cases y with
    | non => cases ry; exact PySem.EqNone.eq_int_none (fin_bl I q (by simp))
    | int j => obtain ⟨t', rfl⟩ := ry; exact eq_int (fin_bl I q dec_int)
    | str j => obtain ⟨t', rfl⟩ := ry; exact PySem.EqMixed.eq_int_str (fin_bl I q (by simp))
    | _ => exact absurd (show false = true from hs) Bool.false_ne_true
  | str i =>
    obtain ⟨t, rfl⟩ := rx
    cases y with
    | non => cases ry; exact PySem.EqNone.eq_str_none (fin_bl I q (by simp))
    | bl j => cases ry; exact PySem.EqMixed.eq_str_bool (fin_bl I q (by simp))
    | int j => obtain ⟨t', rfl⟩ := ry; exact PySem.EqMixed.eq_str_int (fin_bl I q (by simp))
    | str j => obtain ⟨t', rfl⟩ := ry; exact eq_str (fin_bl I q dec_str)
    | _ => exact absurd (show false = true from hs) Bool.false_ne_true
  | byt i =>
    obtain ⟨t, rfl⟩ := rx
    cases y with
    | byt j => obtain ⟨t', rfl⟩ := ry; exact PySem.W.eq_bytes (fin_bl I q dec_byt)
    | _ => exact absurd (show false = true from hs) Bool.false_ne_true
  | _ => cases y <;> exact absurd (show false = true from hs) Bool.false_ne_true
theorem op_ne : OpR X (compareOp .NotEq) rNe := by
  intro pins s σ H x y v u Q I rx ry h
  obtain ⟨hs, q⟩ := h
  cases x with
  | non =>
    cases rx
    cases y with
    | non => cases ry; exact PySem.EqNone.ne_none_none (fin_bl I q (by simp))
    | bl j => cases ry; exact PySem.EqNone.ne_none_bool (fin_bl I q (by simp))
    | int j => obtain ⟨t', rfl⟩ := ry; exact PySem.EqNone.ne_none_int (fin_bl I q (by simp))
    | str j => obtain ⟨t', rfl⟩ := ry; exact PySem.EqNone.ne_none_str (fin_bl I q (by simp))
    | _ => exact absurd (show false = true from hs) Bool.false_ne_true
  | bl i =>
    cases rx
    cases y with
    | non => cases ry; exact PySem.EqNone.ne_bool_none (fin_bl I q (by simp))
    | bl j => cases ry; exact ne_bool (fin_bl I q (congrArg not dec_bl))
    | str j => obtain ⟨t', rfl⟩ := ry; exact PySem.EqMixed.ne_bool_str (fin_bl I q (by simp))
    | _ => exact absurd (show false = true from hs) Bool.false_ne_true
  | int i =>
    obtain ⟨t, rfl⟩ := rx
    cases y with
    | non => cases ry; exact PySem.EqNone.ne_int_none (fin_bl I q (by simp))
    | int j => obtain ⟨t', rfl⟩ := ry; exact ne_int (fin_bl I q (congrArg not dec_int))
    | str j => obtain ⟨t', rfl⟩ := ry; exact PySem.EqMixed.ne_int_str (fin_bl I q (by simp))
    | _ => exact absurd (show false = true from hs) Bool.false_ne_true
  | str i =>
    obtain ⟨t, rfl⟩ := rx
    cases y with
    | non => cases ry; exact PySem.EqNone.ne_str_none (fin_bl I q (by simp))
    | bl j => cases ry; exact PySem.EqMixed.ne_str_bool (fin_bl I q (by simp))
    | int j => obtain ⟨t', rfl⟩ := ry; exact PySem.EqMixed.ne_str_int (fin_bl I q (by simp))
    | str j => obtain ⟨t', rfl⟩ := ry; exact ne_str (fin_bl I q (congrArg not dec_str))
    | _ => exact absurd (show false = true from hs) Bool.false_ne_true
  | byt i =>
    obtain ⟨t, rfl⟩ := rx
    cases y with
    | byt j => obtain ⟨t', rfl⟩ := ry; exact PySem.W.ne_bytes (fin_bl I q (congrArg not dec_byt))
    | _ => exact absurd (show false = true from hs) Bool.false_ne_true
  | _ => cases y <;> exact absurd (show false = true from hs) Bool.false_ne_true
theorem op_gt : OpR X (compareOp .Gt) (rI0 fun i j => .bl (decide (j < i))) := opB0 fun _ _ _ _ _ _ _ q => gt_int q
theorem op_isN : OpR X (compareOp .Is) (fun x y H Q => y = .non ∧ Q (.bl (decide (x = .non))) H) := by
  intro pins s σ H x y v u Q I rx ry h
  obtain ⟨rfl, q⟩ := h
  cases ry
  refine is_none_gen (fin_bl I q ?_)
  cases x <;> first
    | (cases rx; rfl)
    | (obtain ⟨t, rfl⟩ := rx; rfl)
theorem nomark (b : Expr) {op : CmpOp} (h : op ≠ .In := by decide) (h2 : op ≠ .NotIn := by decide) : behindInMarks op b = false := by
  have e1 : (op == CmpOp.In) = false := by cases op <;> first | rfl | exact absurd rfl h
  have e2 : (op == CmpOp.NotIn) = false := by cases op <;> first | rfl | exact absurd rfl h2
  cases b <;> simp [behindInMarks, e1, e2]
theorem pe_cmpR {op : CmpOp} {r : R2} (ho : OpR X (compareOp op) r) (ha : PE X a ta) (hb : PE X b tb) (hm : behindInMarks op b = false) : PE X (.Compare a [op] [b] pos) (tOp r ta tb) := by
  intro pins s σ H Q I h
  exact wpAny_Compare1 (binT ha hb I h fun v u s2 x y H2 I2 rx ry q => ho pins s2 σ H2 x y v u Q I2 rx ry q) hm
inductive isB (Q : Bool → Hp → Prop) (x : V) (H' : Hp) : Prop
  | mk (k : _) (c0 : x = .bl k) (c1 : Q k H') : isB Q x H'
noncomputable def tTest (t : TE) : TT := fun σ H Q => t σ H fun x H' => isB Q x H'
theorem pt_cmpR {op : CmpOp} {r : R2} (ho : OpR X (compareOp op) r) (ha : PE X a ta) (hb : PE X b tb) (hm : behindInMarks op b = false) : PT X (.Compare a [op] [b] pos) (tTest (tOp r ta tb)) := by
  intro pins s σ H Q I h
  refine wpAny_isTrue_Compare1 (thn (ha pins s σ H _ I h) fun v s1 ⟨x, H1, I1, r1, q1⟩ => thn (hb pins s1 σ H1 _ I1 q1) fun u s2 ⟨y, H2, I2, r2, q2⟩ =>
    thn (ho pins s2 σ H2 x y v u _ I2 r1 r2 q2) fun c s3 ⟨z, H3, I3, r3, k, e, q3⟩ => ?_) hm
  subst e
  cases r3
  exact wpAny_truthy_bool ⟨H3, I3, q3⟩
theorem line63 : (sizeLine : Nat) < 2 ^ 63 := by rw [sizeLine_eq]; decide
theorem vals1 {x : V} {us : List Value} (r : Vals [x] us) : ∃ u, us = [u] ∧ RelV x u := by
  cases r with
  | cons r1 r2 => cases r2; exact ⟨_, rfl, r1⟩
theorem vals2 {x y : V} {us : List Value} (r : Vals [x, y] us) : ∃ u w', us = [u, w'] ∧ RelV x u ∧ RelV y w' := by
  cases r with
  | cons r1 r2 =>
    cases r2 with
    | cons r3 r4 => cases r4; exact ⟨_, _, rfl, r1, r3⟩
theorem call_max2 (hc : X.calm = true) : CallR X (.builtin "max") (fun xs H Q => ∃ i j, xs = [.int i, .int j] ∧ Q (.int (if j > i then j else i)) H) := by
  intro pins s σ H xs us Q I r h
  obtain ⟨i, j, rfl, q⟩ := h
  obtain ⟨u, w', rfl, ⟨t, rfl⟩, ⟨t', rfl⟩⟩ := vals2 r
  refine max_two_ints (I.ok.hd hc) fun h' tk k => ⟨_, H, I.kept k, ?_, q⟩
  by_cases hj : j > i
  · rw [if_pos hj, if_pos hj]; exact ⟨_, rfl⟩
  · rw [if_neg hj, if_neg hj]; exact ⟨_, rfl⟩
noncomputable def LenV (K : PySem.W.Frag) (x : V) (H : Hp) (n : Nat) : Prop :=
  match x with
  | .str y => y.length ≤ sizeLine ∧ n = y.length
  | .byt y => y.size ≤ sizeLine ∧ n = y.size
  | .ref p => (∃ xs, SqL K H p xs ∧ n = xs.length) ∨ ∃ xs, SqT K H p xs ∧ n = xs.length
  | _ => False
inductive rLen (K : PySem.W.Frag) (xs : List V) (H : Hp) (Q : VK) : Prop
  | mk (x : _) (n : _) (c0 : xs = [x]) (c1 : LenV K x H n) (c2 : Q (.int n) H) : rLen K xs H Q
theorem call_len : CallR X (.builtin "len") (rLen X.K) := by
  intro pins s σ H xs us Q I r h
  obtain ⟨x, n, rfl, e, q⟩ := h
  obtain ⟨u, rfl, rx⟩ := vals1 r
  have hl := line63
  have hs : sizeLine = 16777216 := sizeLine_eq
  cases x with
  | str y =>
    obtain ⟨t, rfl⟩ := rx
    obtain ⟨hy, e'⟩ : y.length ≤ sizeLine ∧ n = y.length := e
    subst e'
    exact len_str (by lia) ⟨.int _, H, I.tok _, ⟨_, rfl⟩, q⟩
  | byt y =>
    obtain ⟨t, rfl⟩ := rx
    obtain ⟨hy, e'⟩ : y.size ≤ sizeLine ∧ n = y.size := e
    subst e'
    exact PySem.W.len_bytes (by lia) ⟨.int _, H, I.tok _, ⟨_, rfl⟩, q⟩
  | ref p =>
    cases rx
    have e' : (∃ xs, SqL X.K H p xs ∧ n = xs.length) ∨ ∃ xs, SqT X.K H p xs ∧ n = xs.length := e
    rcases e' with ⟨xs, hx, e'⟩ | ⟨xs, hx, e'⟩
    · subst e'
      obtain ⟨its, r', pl, hz⟩ := I.list hx
      have hlen := r'.length
      exact Calls.call_len_list pl.isList (by simp only [List.size_toArray]; lia) ⟨.int xs.length, H, I.tok _, ⟨_, by simp only [List.size_toArray]; rw [hlen]⟩, q⟩
    · subst e'
      obtain ⟨its, r', pl, hz⟩ := I.tuple hx
      have hlen := r'.length
      exact len_tuple pl (by simp only [List.size_toArray]; lia) ⟨.int xs.length, H, I.tok _, ⟨_, by simp only [List.size_toArray]; rw [hlen]⟩, q⟩
  | _ => exact (show False from e).elim
end
end L2
namespace L2
open PySem PySem.Spec PyProof.Rows
end L2
namespace L2
open PySem PySem.Spec PyProof.Rows
structure Room (k : Nat) (A : Around) : Prop where
  hd : A.handled = none
  dp : A.depth + 3 * k + 5 < recursionLimit
  un : A.units + 16 * k + 200 < cLine
theorem Room.mono {j k : Nat} {A : Around} (r : Room k A) (h : j ≤ k) : Room j A := ⟨r.hd, by have := r.dp; lia, by have := r.un; lia⟩
theorem Room.deeper {k : Nat} {A : Around} (r : Room (k + 1) A) (env : Env) : Room k (A.deeper env) :=
  ⟨r.hd, by have := r.dp; show A.depth + 1 + 3 * k + 5 < _; lia, by have := r.un; show A.units + 3 + 16 * k + 200 < _; lia⟩
theorem Room.depth {k : Nat} {A : Around} (r : Room k A) : A.depth < recursionLimit := by have := r.dp; lia
theorem Room.units {k : Nat} {A : Around} (r : Room k A) : A.units + 64 < cLine := by have := r.un; lia
noncomputable def tNil : TA := fun _ H Q => Q [] H
noncomputable def tCons (ta : TE) (tr : TA) : TA := fun σ H Q => ta σ H fun x H1 => tr σ H1 fun xs H2 => Q (x :: xs) H2
section
variable {X : Cx} {e : Expr} {es : List Expr} {te : TE} {t : TA} {pos : Pos}
theorem pa_nil : PA X [] tNil := fun _ _ _ _ H Q I h => Calls.spliced_nil ⟨[], H, I, .nil, h⟩
theorem pa_cons (ha : PE X e te) (hr : PA X es t) (hs : starEach (e :: es) X.env = (false, eval e X.env) :: starEach es X.env := by rfl) : PA X (e :: es) (tCons te t) := by
  intro pos pins s σ H Q I h
  rw [hs]
  show wpAny _ _ (spliced ((false, eval e X.env) :: backTo pos (starEach es X.env))) _ _ s
  refine Calls.spliced_cons (thn (ha pins s σ H _ I h) fun u s1 ⟨x, H1, I1, r1, q1⟩ => ?_)
  exact thn (hr pos pins s1 σ H1 _ I1 q1) fun us s2 ⟨xs, H2, I2, r2, q2⟩ => ⟨x :: xs, H2, I2, .cons r1 r2, q2⟩
noncomputable def tTup (t : TA) : TE := fun σ H Q => t σ H fun xs H1 => xs.length ≤ sizeLine ∧ ∀ p, H1 p = none → Q (.ref p) (upd H1 p (.tup xs))
noncomputable def tLst (t : TA) : TE := fun σ H Q => t σ H fun xs H1 => xs.length ≤ sizeLine ∧ ∀ p, H1 p = none → Q (.ref p) (upd H1 p (.lst xs))
theorem pe_tup {x1} (h : PA X es t) : PE X (.Tuple es x1 pos) (tTup t) := by
  intro pins s σ H Q I hq
  refine wpAny_Tuple_spliced (thn (h pos pins s σ H _ I hq) fun us s1 ⟨xs, H1, I1, r, z, q⟩ => ⟨by rw [← r.length]; exact z, ?_⟩)
  have hf : H1 s1.heap.objs.size = none := I1.hok.fresh (Nat.le_refl _)
  refine ⟨.ref s1.heap.objs.size, upd H1 s1.heap.objs.size (.tup xs), I1.laid (t' := s1.toks) (fun b u e => Heap.get?_push_of_some _ e) (Nat.le_refl _) ?_, rfl, q _ hf⟩
  exact ⟨z, us, r, ⟨_, Heap.get?_push_size _ rfl, rfl, _, rfl⟩⟩
theorem pe_lst (h : PA X es t) : PE X (.List es pos) (tLst t) := by
  intro pins s σ H Q I hq
  refine wpAny_List_spliced (thn (h pos pins s σ H _ I hq) fun us s1 ⟨xs, H1, I1, r, z, q⟩ => ⟨by rw [← r.length]; exact z, ?_⟩)
  have hf : H1 s1.heap.objs.size = none := I1.hok.fresh (Nat.le_refl _)
  refine ⟨.ref s1.heap.objs.size, upd H1 s1.heap.objs.size (.lst xs), I1.laid (t' := s1.toks) (fun b u e => Heap.get?_push_of_some _ e) (Nat.le_refl _) ?_, rfl, q _ hf⟩
  exact ⟨z, us, 0, r, Heap.get?_push_size _ rfl⟩
end
noncomputable abbrev Sp := List V → Hp → VK → XK → Prop
noncomputable abbrev CXT := List Env → Hp → Shared → XK → Value → Shared → Prop
structure Env0 (P : Program) (w : World) (K : PySem.W.Frag) (mg : Str → Option Value) (base : Heap) (A : Around) (outer : List Env) (s : Shared) (H : Hp) : Prop where
  frames : A.frames = some outer
  mod : Mod K mg base
  bs : ∀ b o, base.get? b = some o → s.heap.get? b = some o ∧ H b = none
  bsz : base.objs.size ≤ s.heap.objs.size
  funs : s.heap.FunFrames base outer
  frf : ∀ b ∈ frs outer, H b = none
  hok : HOk P w H s.heap
  bare : AllBare s.gens
noncomputable def CE (outer : List Env) (P : Program) (w : World) (H : Hp) (s : Shared) (Q : VK) (u : Value) (s' : Shared) : Prop :=
  ∃ v H', s'.os = s.os ∧ AllBare s'.gens ∧ Un (frs outer) [] H H' s.heap s'.heap ∧ HOk P w H' s'.heap ∧ RelV v u ∧ Q v H'
noncomputable def CR (CX : CXT) (outer : List Env) (P : Program) (w : World) (H : Hp) (s : Shared) (Q : VK) (E : XK) (r : Result) (s' : Shared) : Prop :=
  match r with
  | .ok (.ret u) => CE outer P w H s Q u s'
  | .ok _ => False
  | .error e => CX outer H s E e s'
structure FnOk (P : Program) (w : World) (K : PySem.W.Frag) (mg : Str → Option Value) (base : Heap) (CX : CXT) (k : Nat) (f : Addr) (fd : FuncData) (ps : List Str) (sp : Sp) : Prop where
  len : ∀ vs H Q E, sp vs H Q E → vs.length = ps.length
  run : ∀ (A : Around) (outer : List Env) (s : Shared) (H : Hp) (args : Args) (us : List Value) (vs : List V) (Q : VK) (E : XK), Room k A → Env0 P w K mg base A outer s H → BindsTo s fd args (ps.zip us) → Vals vs us → sp vs H Q E →
    codeAny (model P w) A (.call (.ref f) args) (CR CX outer P w H s Q E) s
theorem FnOk.imp {P : Program} {w : World} {K : PySem.W.Frag} {mg : Str → Option Value} {base : Heap} {CX : CXT} {k : Nat} {f : Addr} {fd : FuncData} {ps : List Str} {sp sp' : Sp} (F : FnOk P w K mg base CX k f fd ps sp)
    (h : ∀ vs H Q E, sp' vs H Q E → sp vs H Q E) : FnOk P w K mg base CX k f fd ps sp' :=
  ⟨fun vs H Q E q => F.len vs H Q E (h _ _ _ _ q), fun A outer s H args us vs Q E hr he hb hv hs => F.run A outer s H args us vs Q E hr he hb hv (h _ _ _ _ hs)⟩
section
variable {X : Cx} {pins : List (Addr × Obj)} {σ : St} {H : Hp} {s s' : Shared}
theorem Inv.env0 (I : Inv X pins σ H s) : Env0 X.prog X.w X.K X.mg X.base X.A X.stack s H :=
  ⟨I.ok.frames, I.ok.mod, I.bs, Nat.le_trans I.ok.bsz I.sz, I.stack, I.stkFree, I.hok, I.bare⟩
theorem Inv.after {Q : VK} {u : Value} (I : Inv X pins σ H s) (h : CE X.stack X.prog X.w H s Q u s') : EP X pins σ Q u s' := by
  obtain ⟨v, H', os, bare, un, hok, r, q⟩ := h
  obtain ⟨hh, g, d, t, os'⟩ := s'
  obtain rfl : os' = s.os := os
  exact ⟨v, H', I.call (h' := hh) (g' := g) (d' := d) (t' := t) (ch := []) un hok bare (fun b z => absurd z (by simp)), r, q⟩
end
noncomputable def tCall (sp : Sp) (dvs : List V) (E : XK) (t : TA) : TE := fun σ H Q => t σ H fun vs H1 => sp (vs ++ dvs) H1 Q E
noncomputable def Binds (K : PySem.W.Frag) (fd : FuncData) (ps : List Str) (ds : List Value) : Prop :=
  ∀ (s : Shared) (us : List Value), K.In s.heap → (us ++ ds).length = ps.length → BindsTo s fd ⟨us, []⟩ (ps.zip (us ++ ds))
theorem Binds.all {K : PySem.W.Frag} {fd : FuncData} {ps : List Str} (h : ∀ us : List Value, us.length = ps.length → bindArgs fd ⟨us, []⟩ = pure (ps.zip us)) : Binds K fd ps [] := fun s us _ hl => by
  rw [List.append_nil] at hl ⊢
  exact .of_eq (h us hl)
noncomputable def Passes (CX : CXT) (X : Cx) (E : XK) : Prop := ∀ (pins : List (Addr × Obj)) (σ : St) (H : Hp) (s : Shared) (e : Value) (s' : Shared), Inv X pins σ H s → CX X.stack H s E e s' → X.xe e s'
section
variable {X : Cx} {CX : CXT} {k : Nat} {f C : Addr} {fd : FuncData} {ps : List Str} {sp : Sp} {dvs : List V} {ds : List Value} {E : XK} {x m : Str} {p pos apos : Pos} {e o : Expr} {es : List Expr} {ta : TE} {t : TA}
theorem run_fn {pins : List (Addr × Obj)} {σ : St} {H : Hp} {s : Shared} {Q : VK} {us : List Value} {vs : List V} (F : FnOk X.prog X.w X.K X.mg X.base CX k f fd ps sp) (hr : Room k X.A) (hb : Binds X.K fd ps ds) (hd : Vals dvs ds) (hx : Passes CX X E)
    (I : Inv X pins σ H s) (r : Vals vs us) (h : sp (vs ++ dvs) H Q E) : wpAny (model X.prog X.w) X.A (call (.ref f) us) (EP X pins σ Q) X.xe s := by
  have r2 : Vals (vs ++ dvs) (us ++ ds) := r.append hd
  have hl : (us ++ ds).length = ps.length := by rw [← r2.length]; exact F.len _ _ _ _ h
  refine wpAny_call (codeAny_mono (F.run X.A X.stack s H ⟨us, []⟩ (us ++ ds) (vs ++ dvs) Q E hr I.env0 (hb s us I.kIn hl) r2 h) fun r s' hq => ?_)
  cases r with
  | error e => exact hx pins σ H s e s' I hq
  | ok fl =>
    cases fl with
    | ret u => exact I.after hq
    | next => exact False.elim hq
    | brk => exact False.elim hq
    | cont => exact False.elim hq
theorem pe_call (F : FnOk X.prog X.w X.K X.mg X.base CX k f fd ps sp) (hr : Room k X.A) (hg : Gl X x) (hm : X.mg x = some (.ref f)) (hk : PySem.W.keepIn X.K (.ref f) = true) (hb : Binds X.K fd ps ds) (hd : Vals dvs ds) (hx : Passes CX X E)
    (ha : PA X (e :: es) t) (hdb : (x == ("__debug__" : Str)) = false := by decide) (he : starEach (e :: es) X.env = (false, eval e X.env) :: starEach es X.env := by rfl) (hpl : (backTo pos (starEach es X.env)).any (·.1) = false := by rfl) :
    PE X (.Call (.Name x p) (e :: es) [] pos) (tCall sp dvs E t) := by
  intro pins s σ H Q I h
  refine wpAny_Call_Name_kw (ld_glob I hg hm ?_ hdb)
  refine PySem.W.callWith_K (h₀ := X.base) I.ok.mod.kin hk (thn (ha pos pins s σ H _ I h) fun us s1 ⟨vs, H1, I1, r, q⟩ => ⟨I1.kIn, ?_⟩) he hpl
  exact run_fn F hr hb hd hx I1 r q
end
structure FnScope (N P : List Str) (sc : Scope) : Prop where
  kind : sc.kind = .function
  co : sc.isCoroutine = false
  gen : sc.isGenerator = false
  nd : N.Nodup
  pre : N.take P.length = P
  par : ∀ x ∈ P, sc.names.lookup x = some .local ∨ sc.names.lookup x = some .cell
  nofree : ∀ y ∈ sc.names, y.2 ≠ .free
theorem bindL_out {kindOf : Str → Option NameKind} {x : Str} : ∀ {binds : List (Str × Value)} {m : Str → Option Value}, (∀ v, (x, v) ∉ binds) → bindL kindOf binds m x = m x
  | [], _, _ => rfl
  | (n, v) :: r, m, h => by
    unfold bindL
    rw [bindL_out fun w hw => h w (List.mem_cons_of_mem _ hw)]
    split
    · have : x ≠ n := by rintro rfl; exact h v List.mem_cons_self
      simp [this]
    · rfl
theorem bindC_out {kindOf : Str → Option NameKind} {x : Str} : ∀ {binds : List (Str × Value)} {m : Str → Option Value}, (∀ v, (x, v) ∉ binds) → bindC kindOf binds m x = m x
  | [], _, _ => rfl
  | (n, v) :: r, m, h => by
    unfold bindC
    rw [bindC_out fun w hw => h w (List.mem_cons_of_mem _ hw)]
    split
    · rfl
    · have : x ≠ n := by rintro rfl; exact h v List.mem_cons_self
      simp [this]
theorem bindL_get {kindOf : Str → Option NameKind} {x : Str} {v : Value} : ∀ {P : List Str} {vs : List Value} {i : Nat} {m : Str → Option Value}, P.Nodup → P[i]? = some x → vs[i]? = some v → kindOf x = some .local →
    bindL kindOf (P.zip vs) m x = some v
  | [], _, _, _, _, h, _, _ => by simp at h
  | _ :: _, [], _, _, _, _, h, _ => by simp at h
  | p :: P, w :: vs, 0, m, nd, h1, h2, hk => by
    simp at h1 h2; subst h1; subst h2
    show bindL kindOf ((p, w) :: P.zip vs) m p = _
    unfold bindL
    rw [bindL_out fun v hv => (List.nodup_cons.mp nd).1 (List.of_mem_zip hv).1, if_pos hk]
    simp
  | p :: P, w :: vs, i + 1, m, nd, h1, h2, hk => by
    show bindL kindOf ((p, w) :: P.zip vs) m x = _
    unfold bindL
    exact bindL_get (i := i) (List.nodup_cons.mp nd).2 (by simpa using h1) (by simpa using h2) hk
theorem bindC_get {kindOf : Str → Option NameKind} {x : Str} {v : Value} : ∀ {P : List Str} {vs : List Value} {i : Nat} {m : Str → Option Value}, P.Nodup → P[i]? = some x → vs[i]? = some v → kindOf x ≠ some .local →
    bindC kindOf (P.zip vs) m x = some v
  | [], _, _, _, _, h, _, _ => by simp at h
  | _ :: _, [], _, _, _, _, h, _ => by simp at h
  | p :: P, w :: vs, 0, m, nd, h1, h2, hk => by
    simp at h1 h2; subst h1; subst h2
    show bindC kindOf ((p, w) :: P.zip vs) m p = _
    unfold bindC
    rw [bindC_out fun v hv => (List.nodup_cons.mp nd).1 (List.of_mem_zip hv).1, if_neg hk]
    simp
  | p :: P, w :: vs, i + 1, m, nd, h1, h2, hk => by
    show bindC kindOf ((p, w) :: P.zip vs) m x = _
    unfold bindC
    exact bindC_get (i := i) (List.nodup_cons.mp nd).2 (by simpa using h1) (by simpa using h2) hk
noncomputable def start (N : List Str) (vs : List V) : St := vs.map some ++ List.replicate (N.length - vs.length) none
noncomputable def cxOf (CX : CXT) (P : Program) (w : World) (K : PySem.W.Frag) (mg : Str → Option Value) (base : Heap) (N : List Str) (qual : Str) (scope : Scope) (f : Addr) (cd : Value) (A : Around) (outer : List Env) (s : Shared) (H : Hp) (E : XK) : Cx where
  prog := P
  w := w
  K := K
  mg := mg
  base := base
  A := A.deeper (envOfC qual scope s.heap.objs.size f cd)
  N := N
  s₀ := s
  H₀ := H
  env := envOfC qual scope s.heap.objs.size f cd
  outer := outer
  stack := envOfC qual scope s.heap.objs.size f cd :: outer
  ex := []
  calm := true
  fn := fun _ => true
  pn := []
  xe := fun e s' => wpAny (model P w) (A.deeper (envOfC qual scope s.heap.objs.size f cd)) (leaving (envOfC qual scope s.heap.objs.size f cd) e) (fun _ s'' => CX outer H s E e s'') (fun e' s'' => CX outer H s E e' s'') s'
theorem cell_has {sc : Scope} {n : Nat} {x : Str} (h : sc.names.lookup x = some .cell) : ∃ c, (cellsFrom n sc.names []).lookup x = some c := by
  have q := PySem.W.cellsFrom_some sc.names n [] (.inl h)
  exact Option.isSome_iff_exists.mp q
theorem inv_start {CX : CXT} {P : Program} {w : World} {K : PySem.W.Frag} {mg : Str → Option Value} {base : Heap} {N ps : List Str} {qual : Str} {scope : Scope} {f : Addr} {cd : Value} {A : Around} {outer : List Env} {s s1 : Shared} {H : Hp} {E : XK} {us : List Value} {vs : List V}
    (S : FnScope N ps scope) (hd : A.handled = none) (e0 : Env0 P w K mg base A outer s H) (hl : vs.length = ps.length) (r : Vals vs us)
    (x : InCallC s s.heap.objs.size (bindL (envOfC qual scope s.heap.objs.size f cd).kindOf (ps.zip us) fun _ => none) (cellsFrom (s.heap.objs.size + 1) scope.names []) (bindC (envOfC qual scope s.heap.objs.size f cd).kindOf (ps.zip us) fun _ => none) s1) :
    Inv (cxOf CX P w K mg base N qual scope f cd A outer s H E) [] (start N vs) H s1 := by
  have hpl : ps.length ≤ N.length := by have := congrArg List.length S.pre; rw [List.length_take] at this; lia
  obtain ⟨h1, tk, rfl, hk⟩ := x.done
  have noA : ∀ b : Addr, b ∉ (cxOf CX P w K mg base N qual scope f cd A outer s H E).ex := fun b z => absurd (show b ∈ ([] : List Addr) from z) (by simp)
  refine ⟨⟨e0.mod, S.kind, rfl, rfl, Nat.le_refl _, fun y z c h1 h2 => ?_, fun y hy => ?_, fun y c _ h => ?_, fun _ => hd, Around.frames_deeper e0.frames, .inr ⟨rfl, rfl⟩, fun b z => absurd z (noA b), e0.bs, e0.bsz, fun b _ _ => noA b, fun b z => absurd z (noA b), e0.funs, e0.frf⟩,
    rfl, e0.bare, Un.kept hk, ⟨_, x.toInCall.ns, fun i y v h1 h2 h3 => ?_⟩, fun y c h => ⟨_, x.cell y c h⟩, e0.hok.fresh (Nat.le_refl _), fun y c h => ?_, fun p hp => absurd (show p ∈ ([] : List (Addr × Obj)) from hp) (by simp), e0.hok.kept hk, ?_⟩
  · exact name_of_addr x.apart (PySem.mem_of_lookup h1) (PySem.mem_of_lookup h2)
  · have hy : scope.names.lookup y = some .cell ∨ scope.names.lookup y = some .free := hy
    rcases hy with hy | hy
    · exact cell_has hy
    · exact absurd rfl (S.nofree _ (PySem.mem_of_lookup hy))
  · exact Nat.le_of_lt (x.above y c (PySem.mem_of_lookup h))
  · have hi : i < vs.length := by
      unfold start at h2
      by_cases hi : i < vs.length
      · exact hi
      · rw [List.getElem?_append_right (by simpa using hi)] at h2
        rw [List.getElem?_replicate] at h2
        split at h2 <;> cases h2
    have ha : vs[i]? = some v := by
      unfold start at h2
      rw [List.getElem?_append_left (by simpa using hi), List.getElem?_map] at h2
      cases e : vs[i]? with
      | none => rw [e] at h2; cases h2
      | some a => rw [e] at h2; cases h2; rfl
    obtain ⟨u, hu, rv⟩ := r.get ha
    have hp : ps[i]? = some y := by
      rw [← S.pre, List.getElem?_take_of_lt (by lia)]; exact h1
    have ndP : ps.Nodup := by rw [← S.pre]; exact S.nd.sublist (List.take_sublist _ _)
    refine ⟨u, rv, ?_⟩
    rcases S.par y (List.mem_of_getElem? hp) with k | k
    · exact .inl ⟨k, bindL_get ndP hp hu k⟩
    · obtain ⟨c, e⟩ := cell_has (n := s.heap.objs.size + 1) k
      refine .inr ⟨.inl k, c, e, ?_⟩
      have q := x.cell y c e
      rw [bindC_get ndP hp hu (by show scope.names.lookup y ≠ _; rw [k]; decide)] at q
      exact q
  · exact e0.hok.fresh (Nat.le_of_lt (x.above y c (PySem.mem_of_lookup h)))
  · unfold start
    show _ = N.length
    rw [List.length_append, List.length_map, List.length_replicate]
    lia
theorem fn_of {CX : CXT} {P : Program} {w : World} {K : PySem.W.Frag} {mg : Str → Option Value} {base : Heap} {k : Nat} {f : Addr} {name qual : Str} {params : Arguments} {body : List Stmt} {scope : Scope} {dV kV doc pm cdv ct oc : Value} {an od : Option Addr}
    {osl : Array (Option Value)} {N ps : List Str} {sp : Sp} (lk : K.lookup f = some ⟨oc, od, .func (PySem.W.fnOf name qual params body scope dV kV doc pm an cdv ct), osl⟩) (hcd : PySem.W.codeIn K cdv qual = true) (S : FnScope N ps scope)
    (len : ∀ vs H Q E, sp vs H Q E → vs.length = ps.length)
    (hbody : ∀ (A : Around) (outer : List Env) (s : Shared) (H : Hp) (vs : List V) (Q : VK) (E : XK), Room k (A.deeper (envOfC qual scope s.heap.objs.size f cdv)) → sp vs H Q E →
      ∃ t, PSs (cxOf CX P w K mg base N qual scope f cdv A outer s H E) body t ∧ t { nx := fun _ H' => Q .non H', rt := Q } (start N vs) H) :
    FnOk P w K mg base CX (k + 1) f (PySem.W.fnOf name qual params body scope dV kV doc pm an cdv ct) ps sp := by
  refine ⟨len, fun A outer s H args us vs Q E hr e0 hb r hsp => ?_⟩
  have hl := len _ _ _ _ hsp
  have KX : K.In s.heap := e0.mod.kin.keeps fun b o e => (e0.bs b o e).1
  have lim : s.heap.NoLimit := e0.mod.nolimit.keeps fun b o e => (e0.bs b o e).1
  have hkind : ∀ y ∈ ps.zip us, scope.names.lookup y.1 = some .local ∨ (scope.names.lookup y.1 = some .cell ∧ ((cellsFrom (s.heap.objs.size + 1) scope.names []).lookup y.1).isSome = true) := fun ⟨n, v⟩ hy => by
    rcases S.par n (List.of_mem_zip hy).1 with q | q
    · exact .inl q
    · exact .inr ⟨q, PySem.W.cellsFrom_some _ _ _ (.inl q)⟩
  refine codeAny_call_function hr.depth (KX _ _ lk) rfl S.co S.gen rfl (PySem.W.codeRec_of KX hcd) (hb _ _ _ _ ?_)
  refine wpAny_newFunctionEnv_cells S.kind hkind fun env he s1 x => ?_
  subst he
  refine ⟨lim.keeps x.toInCall.keep, codeAny_func ?_⟩
  obtain ⟨t, ht, hq⟩ := hbody A outer s H vs Q E (hr.deeper _) hsp
  have I : Inv (cxOf CX P w K mg base N qual scope f cdv A outer s H E) [] (start N vs) H s1 := inv_start S hr.hd e0 hl r x
  refine wpAny_mono (ht [] s1 (start N vs) H _ I hq) (fun fl s' hs => ?_) fun e s' hs => hs
  have fin : ∀ {σ' : St} {H' : Hp} {v : V} {u : Value}, Inv (cxOf CX P w K mg base N qual scope f cdv A outer s H E) [] σ' H' s' → RelV v u → Q v H' → CE outer P w H s Q u s' :=
    fun {σ' H' v u} J rv q => ⟨v, H', J.os, J.bare, J.base, J.hok, rv, q⟩
  cases fl with
  | ret u =>
    obtain ⟨v, σ', H', J, rv, q⟩ := hs
    exact fin J rv q
  | next =>
    obtain ⟨σ', H', J, q⟩ := hs
    exact fin (v := V.non) (u := Value.none) J rfl q
  | brk =>
    obtain ⟨_, _, _, q⟩ := hs
    exact False.elim q
  | cont =>
    obtain ⟨_, _, _, q⟩ := hs
    exact False.elim q
end L2
namespace L2
open PySem PySem.Spec PyProof.Rows
section
variable {X : Cx} {x : Str} {p pos : Pos} {e : Expr} {es : List Expr} {t : TA} {id T : String} {r : List V → Hp → VK → Prop}
noncomputable def tCB (r : List V → Hp → VK → Prop) (t : TA) : TE := fun σ H Q => t σ H fun vs H1 => r vs H1 Q
theorem pe_callB (hc : CallR X (.builtin id) r) (hg : Gl X x) (hm : X.mg x = none) (hv : bootBuiltins x = some (.builtin id)) (ha : PA X (e :: es) t) (hn : x ≠ "__name__" := by decide) (hdb : (x == ("__debug__" : Str)) = false := by decide)
    (he : starEach (e :: es) X.env = (false, eval e X.env) :: starEach es X.env := by rfl) (hpl : (backTo pos (starEach es X.env)).any (·.1) = false := by rfl) : PE X (.Call (.Name x p) (e :: es) [] pos) (tCB r t) := by
  intro pins s σ H Q I h
  refine wpAny_Call_Name_kw (ld_blt I hg hm hv ?_ hn hdb)
  exact PyProof.Rows.callWith_builtin1 (thn (ha pos pins s σ H _ I h) fun us s1 ⟨vs, H1, I1, r1, q1⟩ => hc pins s1 σ H1 vs us Q I1 r1 q1) he hpl
theorem pe_callTy (hc : CallR X (.type T) r) (hg : Gl X x) (hm : X.mg x = none) (hv : bootBuiltins x = some (.type T)) (ha : PA X (e :: es) t) (hn : x ≠ "__name__" := by decide) (hdb : (x == ("__debug__" : Str)) = false := by decide)
    (he : starEach (e :: es) X.env = (false, eval e X.env) :: starEach es X.env := by rfl) (hpl : (backTo pos (starEach es X.env)).any (·.1) = false := by rfl) : PE X (.Call (.Name x p) (e :: es) [] pos) (tCB r t) := by
  intro pins s σ H Q I h
  refine wpAny_Call_Name_kw (ld_blt I hg hm hv ?_ hn hdb)
  exact PyProof.Rows.callWith_type1 (thn (ha pos pins s σ H _ I h) fun us s1 ⟨vs, H1, I1, r1, q1⟩ => hc pins s1 σ H1 vs us Q I1 r1 q1) he hpl
end
end L2
namespace HT
open PySem PyProof.Rows
section
open PySem.SeqAt
open PySem.AutoSeq1 (wpAny_loadPart')
open PySem.MeetsSeq PySem.MeetsSeq2 PySem.MeetsSeq3
end
section
variable {prog : Program} {w : World} {A : Around} {E : Value → Shared → Prop} {s : Shared}
noncomputable def sIx (n d : Nat) : Option Int → Nat
  | none => d
  | some v => if v < 0 then (v + (n : Int)).toNat else min v.toNat n
theorem sIx_none (n d : Nat) : sIx n d none = d := rfl
theorem sIx_nat (n d k : Nat) : sIx n d (some (k : Int)) = min k n := by
  show (if (k : Int) < 0 then ((k : Int) + (n : Int)).toNat else min (k : Int).toNat n) = min k n
  rw [if_neg (by lia), Int.toNat_natCast]
end
end HT
namespace L2
open PySem PySem.Spec PyProof.Rows
noncomputable abbrev TO := St → Hp → (Option Int → Hp → Prop) → Prop
noncomputable def PO (X : Cx) (e : Option Expr) (t : TO) : Prop :=
  ∀ (pins : List (Addr × Obj)) (s : Shared) (σ : St) (H : Hp) (Q : Option Int → Hp → Prop), Inv X pins σ H s → t σ H Q →
    wpAny (model X.prog X.w) X.A (evalPart e X.env) (fun u s' => ∃ o H', Inv X pins σ H' s' ∧ IsPart u o ∧ Q o H') X.xe s
noncomputable def tNoPart : TO := fun _ H Q => Q none H
noncomputable def tPart (t : TE) : TO := fun σ H Q => t σ H fun x H1 => ∃ i, x = .int i ∧ Q (some i) H1
section
variable {X : Cx} {e : Expr} {te : TE} {lo hi : Option Expr} {tl th : TO} {pos p2 : Pos}
theorem po_none : PO X none tNoPart := by
  intro pins s σ H Q I h
  rw [evalPart_none]
  exact wpAny_pure ⟨none, H, I, .none, h⟩
theorem po_some (h : PE X e te) : PO X (some e) (tPart te) := by
  intro pins s σ H Q I hw
  rw [evalPart_some]
  refine thn (h pins s σ H _ I hw) fun u s1 ⟨x, H1, I1, r1, q1⟩ => ?_
  obtain ⟨i, rfl, q⟩ := q1
  obtain ⟨t, rfl⟩ := r1
  exact ⟨some i, H1, I1, .int i t, q⟩
noncomputable def SlR (X : Cx) (r : V → Option Int → Option Int → Hp → VK → Prop) : Prop :=
  ∀ (pins : List (Addr × Obj)) (s : Shared) (σ : St) (H : Hp) (x : V) (v vl vu : Value) (lo hi : Option Int) (sl : Addr) (Q : VK), Inv X pins σ H s → RelV x v → s.heap.IsSliceOf sl vl vu .none → IsPart vl lo → IsPart vu hi → r x lo hi H Q →
    ∃ T id, typeLookup (.type T) "__getitem__" = pure (some (.builtin id)) ∧ s.TypeIs v T ∧ wpAny (model X.prog X.w) X.A (getItem v (.ref sl)) (EP X pins σ Q) X.xe s
noncomputable def tSl (r : V → Option Int → Option Int → Hp → VK → Prop) (te : TE) (tl th : TO) : TE := fun σ H Q => te σ H fun x H1 => tl σ H1 fun l H2 => th σ H2 fun u H3 => r x l u H3 Q
theorem pe_slice {r : V → Option Int → Option Int → Hp → VK → Prop} (hr : SlR X r) (he : PE X e te) (hl : PO X lo tl) (hu : PO X hi th) : PE X (.Subscript e (.Slice lo hi none p2) pos) (tSl r te tl th) := by
  intro pins s σ H Q I h
  refine Subscript_ (thn (he pins s σ H _ I h) fun v s1 ⟨x, H1, I1, r1, q1⟩ => ?_)
  refine wpAny_Slice (thn (hl pins s1 σ H1 _ I1 q1) fun vl s2 ⟨l, H2, I2, pl, q2⟩ => thn (hu pins s2 σ H2 _ I2 q2) fun vu s3 ⟨u, H3, I3, pu, q3⟩ => ?_)
  rw [evalPart_none]
  refine wpAny_pure ?_
  have I4 : Inv X pins σ H3 { s3 with heap := s3.heap.push { cls := .type "slice", data := .fields #[vl, vu, .none] } } := I3.kept (t' := s3.toks) fun b ob q => Heap.get?_push_of_some _ q
  obtain ⟨T, id, hT, ht, hg⟩ := hr pins { s3 with heap := s3.heap.push { cls := .type "slice", data := .fields #[vl, vu, .none] } } σ H3 x v vl vu l u s3.heap.objs.size Q I4 r1 (Heap.IsSliceOf.new ..) pl pu q3
  show wpAny (model X.prog X.w) X.A (subscriptTail e (.Slice lo hi none p2) v (.ref s3.heap.objs.size)) (EP X pins σ Q) X.xe { s3 with heap := s3.heap.push { cls := .type "slice", data := .fields #[vl, vu, .none] } }
  exact tail_any (ops := [.ref s3.heap.objs.size, v]) ht hT hg (by with_unfolding_all rfl)
noncomputable def cutV (xs : List V) (lo hi : Option Int) : List V := (xs.drop (HT.sIx xs.length 0 lo)).take (HT.sIx xs.length xs.length hi - HT.sIx xs.length 0 lo)
theorem cutV_length (xs : List V) (lo hi : Option Int) : (cutV xs lo hi).length ≤ xs.length := by
  unfold cutV
  rw [List.length_take, List.length_drop]
  lia
end
end L2
namespace L2
open PySem PySem.Spec PyProof.Rows
noncomputable def ixN (n : Nat) (i : Int) : Option Nat := if 0 ≤ i then (if i < n then some i.toNat else none) else if -(n : Int) ≤ i then some (i + n).toNat else none
noncomputable def atI {α : Type} (xs : List α) (i : Int) : Option α := (ixN xs.length i).bind fun j => xs[j]?
theorem ixN_seq {n : Nat} {i : Int} {j : Nat} (h : ixN n i = some j) : seqIndex? i n = some j ∧ j < n ∧ -(n : Int) ≤ i ∧ i < n := by
  unfold ixN at h
  by_cases h0 : 0 ≤ i
  · rw [if_pos h0] at h
    by_cases h1 : i < n
    · rw [if_pos h1] at h
      have e : i.toNat = j := Option.some.inj h
      exact ⟨by rw [seqIndex_of h0 h1, e], by lia, by lia, h1⟩
    · rw [if_neg h1] at h; cases h
  · rw [if_neg h0] at h
    by_cases h1 : -(n : Int) ≤ i
    · rw [if_pos h1] at h
      have e : (i + n).toNat = j := Option.some.inj h
      exact ⟨by rw [seqIndex_neg (by lia) h1, e], by lia, h1, by lia⟩
    · rw [if_neg h1] at h; cases h
theorem atI_get {α : Type} {xs : List α} {i : Int} {v : α} (h : atI xs i = some v) : ∃ j, seqIndex? i xs.length = some j ∧ xs[j]? = some v ∧ j < xs.length ∧ -(xs.length : Int) ≤ i ∧ i < xs.length := by
  unfold atI at h
  cases e : ixN xs.length i with
  | none => rw [e] at h; cases h
  | some j =>
    rw [e] at h
    obtain ⟨h1, h2, h3, h4⟩ := ixN_seq e
    exact ⟨j, h1, h, h2, h3, h4⟩
theorem atI_nat {α : Type} {xs : List α} {j : Nat} {v : α} (h : xs[j]? = some v) : atI xs (j : Int) = some v := by
  have hj : j < xs.length := (List.getElem?_eq_some_iff.mp h).1
  have e : ixN xs.length (j : Int) = some j := by
    unfold ixN
    rw [if_pos (by lia), if_pos (by lia)]; simp
  unfold atI; rw [e]; exact h
noncomputable def PlainIx (b : Expr) : Prop := ∀ o i, subscripted b false o i = operate [o, i] (getItem o i)
noncomputable def IxR (X : Cx) (r : R2) : Prop :=
  ∀ (value slice : Expr) (pins : List (Addr × Obj)) (s : Shared) (σ : St) (H : Hp) (x y : V) (v u : Value) (Q : VK), Inv X pins σ H s → RelV x v → RelV y u → r x y H Q →
    subscripted slice false v u = operate [v, u] (getItem v u) → wpAny (model X.prog X.w) X.A (subscriptTail value slice v u) (EP X pins σ Q) X.xe s
noncomputable def MtR (X : Cx) (id : String) (r : V → List V → Hp → VK → Prop) : Prop :=
  ∀ (pins : List (Addr × Obj)) (s : Shared) (σ : St) (H : Hp) (x : V) (xs : List V) (v : Value) (us : List Value) (Q : VK), Inv X pins σ H s → RelV x v → Vals xs us → r x xs H Q →
    wpAny (model X.prog X.w) X.A (call (.builtin id) (v :: us)) (EP X pins σ Q) X.xe s
section
variable {X : Cx} {a b : Expr} {ta tb : TE} {pos : Pos}
theorem pe_ix {r : R2} (hr : IxR X r) (ha : PE X a ta) (hb : PE X b tb) (hs : PlainIx b) : PE X (.Subscript a b pos) (tOp r ta tb) := by
  intro pins s σ H Q I h
  exact Subscript_ (binT ha hb I h fun v u s2 x y H2 I2 rx ry q => hr a b pins s2 σ H2 x y v u Q I2 rx ry q (hs _ _))
inductive rIxL (K : PySem.W.Frag) (x : V) (y : V) (H : Hp) (Q : VK) : Prop
  | mk (p : _) (xs : _) (i : _) (v : _) (c0 : x = .ref p) (c1 : y = .int i) (c2 : SqL K H p xs) (c3 : atI xs i = some v) (c4 : Q v H) : rIxL K x y H Q
theorem ix_list : IxR X (rIxL X.K) := by
  intro value slice pins s σ H x y v u Q I rx ry h hs
  obtain ⟨p, xs, i, z, rfl, rfl, hq, he, q⟩ := h
  cases rx
  obtain ⟨t, rfl⟩ := ry
  obtain ⟨its, r, pl, hz⟩ := I.list hq
  obtain ⟨j, h1, h2, h3, h4, h5⟩ := atI_get he
  obtain ⟨w, ew, rw'⟩ := r.get h2
  have hl := r.length
  have hn := line63
  have fin : EP X pins σ Q w s := ⟨z, H, I, rw', q⟩
  by_cases h0 : 0 ≤ i
  · have hj : i.toNat = j := by
      rw [seqIndex_of h0 h5] at h1
      exact Option.some.inj h1
    exact item_listR pl.isList h0 (by lia) (by rw [hj]; simpa using ew) fin hs
  · have hj : (i + (its.toArray.size : Int)).toNat = j := by
      rw [seqIndex_neg (by lia) h4] at h1
      rw [List.size_toArray, ← hl]
      exact Option.some.inj h1
    exact subscriptTail_builtinR (x := w) pl.isList.typeIs slot_list_getitem.lookup
      (wpAny_getItem_list_neg (Q := fun r s' => r = w ∧ EP X pins σ Q r s') pl.isList (by lia) (by rw [List.size_toArray] <;> lia) (by lia) (by rw [hj]; simpa using ew) ⟨rfl, fin⟩) hs
theorem slice_bounds (lo hi : Option Int) (n : Nat) : (sliceBounds lo hi none n).1 = ((HT.sIx n 0 lo : Nat) : Int) ∧ (sliceBounds lo hi none n).2.1 = ((HT.sIx n n hi : Nat) : Int) ∧ (sliceBounds lo hi none n).2.2 = 1 := by
  refine ⟨?_, ?_, rfl⟩
  · cases lo with
    | none => simp [sliceBounds, HT.sIx]
    | some i =>
      simp only [sliceBounds, HT.sIx, Option.getD_none, show (1 : Int) > 0 by decide, if_true]
      by_cases h : i < 0
      · simp only [h, if_true] <;> lia
      · simp only [h, if_false] <;> lia
  · cases hi with
    | none => simp [sliceBounds, HT.sIx]
    | some i =>
      simp only [sliceBounds, HT.sIx, Option.getD_none, show (1 : Int) > 0 by decide, if_true]
      by_cases h : i < 0
      · simp only [h, if_true] <;> lia
      · simp only [h, if_false] <;> lia
theorem slicePick_cut (its : List Value) (lo hi : Option Int) : slicePick its.toArray lo hi none = ((its.drop (HT.sIx its.length 0 lo)).take (HT.sIx its.length its.length hi - HT.sIx its.length 0 lo)).toArray := by
  obtain ⟨h1, h2, h3⟩ := slice_bounds lo hi its.toArray.size
  unfold slicePick
  rw [h1, h2, h3]
  simp only [sliceRange_one, pick_run, List.size_toArray] <;> rfl
noncomputable def rSlL (K : PySem.W.Frag) : V → Option Int → Option Int → Hp → VK → Prop := fun x lo hi H Q => ∃ a xs, x = .ref a ∧ SqL K H a xs ∧ ∀ p, H p = none → Q (.ref p) (upd H p (.lst (cutV xs lo hi)))
theorem sl_list : SlR X (rSlL X.K) := by
  intro pins s σ H x v vl vu lo hi sl Q I rx hs pl pu h
  obtain ⟨a, xs, rfl, hx, q⟩ := h
  cases rx
  obtain ⟨its, r, ht, hz⟩ := I.list hx
  have hlen := r.length
  refine ⟨"list", _, slot_list_getitem.lookup, ht.isList.typeIs, ?_⟩
  refine wpAny_getItem_list_slice ht.isList hs pl pu .none (by simp) ?_ (by rw [List.size_toArray] <;> lia)
  rw [slicePick_cut, ← hlen]
  refine ⟨.ref s.heap.objs.size, _, I.laid (t' := s.toks) (o := .lst (cutV xs lo hi)) (fun b ob q => Heap.get?_push_of_some _ q) (Nat.le_refl _) ?_, rfl, q _ (I.hok.fresh (Nat.le_refl _))⟩
  exact ⟨Nat.le_trans (cutV_length xs lo hi) hz, _, 0, (r.drop (HT.sIx xs.length 0 lo)).take (HT.sIx xs.length xs.length hi - HT.sIx xs.length 0 lo), Heap.get?_push_size _ rfl⟩
noncomputable def flatV : V → Bool
  | .non => true
  | .bl _ => true
  | .int _ => true
  | .str _ => true
  | _ => false
noncomputable def eqV : V → V → Bool
  | .non, .non => true
  | .bl a, .bl b => a == b
  | .bl a, .int b => (if a then 1 else 0) == b
  | .int a, .bl b => a == (if b then 1 else 0)
  | .int a, .int b => a == b
  | .str a, .str b => a == b
  | _, _ => false
theorem eqAt_V {A : Around} {s : Shared} {y x : V} {u v : Value} (ry : RelV y u) (rx : RelV x v) (fy : flatV y = true) (fx : flatV x = true) : SeqAt.EqAt A s u v (eqV y x) := by
  cases y with
  | non =>
    cases ry
    cases x with
    | non => cases rx; exact SeqAt.EqAt.same _
    | bl b => cases rx; exact SeqAt.EqAt.none_bool b
    | int b => obtain ⟨t, rfl⟩ := rx; exact SeqAt.EqAt.none_int b t
    | str b => obtain ⟨t, rfl⟩ := rx; exact SeqAt.EqAt.none_str b t
    | _ => exact absurd (show false = true from fx) Bool.false_ne_true
  | bl a =>
    cases ry
    cases x with
    | non => cases rx; exact SeqAt.EqAt.bool_none a
    | bl b => cases rx; exact SeqAt.EqAt.bool_bool a b
    | int b => obtain ⟨t, rfl⟩ := rx; exact SeqAt.EqAt.bool_int a b t
    | str b => obtain ⟨t, rfl⟩ := rx; exact SeqAt.EqAt.bool_str a b t
    | _ => exact absurd (show false = true from fx) Bool.false_ne_true
  | int a =>
    obtain ⟨t', rfl⟩ := ry
    cases x with
    | non => cases rx; exact SeqAt.EqAt.int_none a t'
    | bl b => cases rx; exact SeqAt.EqAt.int_bool a t' b
    | int b => obtain ⟨t, rfl⟩ := rx; exact SeqAt.EqAt.int_int a t' b t
    | str b => obtain ⟨t, rfl⟩ := rx; exact SeqAt.EqAt.int_str a t' b t
    | _ => exact absurd (show false = true from fx) Bool.false_ne_true
  | str a =>
    obtain ⟨t', rfl⟩ := ry
    cases x with
    | non => cases rx; exact SeqAt.EqAt.str_none a t'
    | bl b => cases rx; exact SeqAt.EqAt.str_bool a t' b
    | int b => obtain ⟨t, rfl⟩ := rx; exact SeqAt.EqAt.str_int a t' b t
    | str b => obtain ⟨t, rfl⟩ := rx; exact SeqAt.EqAt.str_str a t' b t
    | _ => exact absurd (show false = true from fx) Bool.false_ne_true
  | _ => exact absurd (show false = true from fy) Bool.false_ne_true
noncomputable def eqU (x : V) (u : Value) : Bool := match u with
  | .none => eqV .non x
  | .bool b => eqV (.bl b) x
  | .int i _ => eqV (.int i) x
  | .str z _ => eqV (.str z) x
  | _ => false
theorem eqU_of {x y : V} {u : Value} (r : RelV y u) (f : flatV y = true) : eqU x u = eqV y x := by
  cases y with
  | non => cases r; rfl
  | bl b => cases r; rfl
  | int i => obtain ⟨t, rfl⟩ := r; rfl
  | str z => obtain ⟨t, rfl⟩ := r; rfl
  | _ => exact absurd (show false = true from f) Bool.false_ne_true
theorem any_eqU {x : V} : ∀ {xs : List V} {us : List Value}, Vals xs us → xs.all flatV = true → us.any (eqU x) = xs.any fun y => eqV y x
  | _, _, .nil, _ => rfl
  | y :: xs, u :: us, .cons r t, f => by
    rw [List.all_cons, Bool.and_eq_true] at f
    rw [List.any_cons, List.any_cons, eqU_of r f.1, any_eqU t f.2]
theorem mem_eqAt {A : Around} {s : Shared} {x : V} {v : Value} (rx : RelV x v) (fx : flatV x = true) : ∀ {xs : List V} {us : List Value}, Vals xs us → xs.all flatV = true → ∀ u ∈ us, SeqAt.EqAt A s u v (eqU x u)
  | _, _, .nil, _ => fun u hu => by cases hu
  | y :: xs, u :: us, .cons r t, f => fun u' hu => by
    rw [List.all_cons, Bool.and_eq_true] at f
    rcases List.mem_cons.mp hu with rfl | hu
    · rw [eqU_of r f.1]; exact eqAt_V r rx f.1 fx
    · exact mem_eqAt rx fx t f.2 u' hu
noncomputable def inV (x : V) (xs : List V) : Bool := xs.any fun y => eqV y x
inductive rIn (K : PySem.W.Frag) (neg : Bool) (x : V) (y : V) (H : Hp) (Q : VK) : Prop
  | mk (p : _) (xs : _) (c0 : y = .ref p) (c1 : (SqL K H p xs ∨ SqT K H p xs)) (c2 : flatV x = true) (c3 : xs.all flatV = true) (c4 : Q (.bl (if neg then !inV x xs else inV x xs)) H) : rIn K neg x y H Q
theorem op_in_seq : OpR X (compareOp .In) (rIn X.K false) := by
  intro pins s σ H x y v u Q I rx ry h
  obtain ⟨p, xs, rfl, hq, fx, fs, q⟩ := h
  cases ry
  rcases hq with hq | hq
  · obtain ⟨its, r, pl, hz⟩ := I.list hq
    refine SeqAt.in_listAt (eqU x) pl.isList (fun w hw => mem_eqAt rx fx r fs w (by simpa using hw)) ⟨.bl _, H, I, rfl, ?_⟩
    rw [show its.toArray.any (eqU x) = its.any (eqU x) by simp, any_eqU r fs]
    exact q
  · obtain ⟨its, r, pl, hz⟩ := I.tuple hq
    refine SeqAt.in_tupleAt (eqU x) pl (fun w hw => mem_eqAt rx fx r fs w (by simpa using hw)) ⟨.bl _, H, I, rfl, ?_⟩
    rw [show its.toArray.any (eqU x) = its.any (eqU x) by simp, any_eqU r fs]
    exact q
theorem op_notIn_seq : OpR X (compareOp .NotIn) (rIn X.K true) := by
  intro pins s σ H x y v u Q I rx ry h
  obtain ⟨p, xs, rfl, hq, fx, fs, q⟩ := h
  cases ry
  rcases hq with hq | hq
  · obtain ⟨its, r, pl, hz⟩ := I.list hq
    refine SeqAt.notIn_listAt (eqU x) pl.isList (fun w hw => mem_eqAt rx fx r fs w (by simpa using hw)) ⟨.bl _, H, I, rfl, ?_⟩
    rw [show its.toArray.any (eqU x) = its.any (eqU x) by simp, any_eqU r fs]
    exact q
  · obtain ⟨its, r, pl, hz⟩ := I.tuple hq
    refine SeqAt.notIn_tupleAt (eqU x) pl (fun w hw => mem_eqAt rx fx r fs w (by simpa using hw)) ⟨.bl _, H, I, rfl, ?_⟩
    rw [show its.toArray.any (eqU x) = its.any (eqU x) by simp, any_eqU r fs]
    exact q
theorem call_list_of : CallR X (.type "list") (fun xs H Q => ∃ p ys, xs = [.ref p] ∧ (SqL X.K H p ys ∨ SqT X.K H p ys) ∧ ∀ l, H l = none → Q (.ref l) (upd H l (.lst ys))) := by
  intro pins s σ H xs us Q I r h
  obtain ⟨p, ys, rfl, hq, q⟩ := h
  obtain ⟨u, rfl, rx⟩ := vals1 r
  cases rx
  have fin : ∀ (its : List Value), Vals ys its → ys.length ≤ sizeLine → ∀ (h' : Heap) (c' : Nat), (∀ b o', s.heap.get? b = some o' → h'.get? b = some o') →
      h'.get? s.heap.objs.size = some { cls := .type "list", dict := none, data := .seq its.toArray c', slots := #[] } → EP X pins σ Q (.ref s.heap.objs.size) { s with heap := h' } := fun its r' hz h' c' kp e =>
    ⟨.ref s.heap.objs.size, _, I.laid (t' := s.toks) kp (Nat.le_refl _) (show ObjOk X.prog X.w _ h' _ (.lst ys) from ⟨hz, its, c', r', e⟩), rfl, q _ (I.hok.fresh (Nat.le_refl _))⟩
  rcases hq with hq | hq
  · obtain ⟨its, r', pl, hz⟩ := I.list hq
    have hlen := r'.length
    obtain ⟨o, ho, hc, n, hd⟩ := pl.isList
    exact call_list_seq p (.inl rfl) ho hc hd (fun h' c' kp e => fin its r' hz h' c' kp e) (by simp only [List.size_toArray] <;> lia)
  · obtain ⟨its, r', pl, hz⟩ := I.tuple hq
    have hlen := r'.length
    obtain ⟨o, ho, hc, n, hd⟩ := pl
    exact call_list_seq p (.inr rfl) ho hc hd (fun h' c' kp e => fin its r' hz h' c' kp e) (by simp only [List.size_toArray] <;> lia)
noncomputable def tyV (K : PySem.W.Frag) (T : String) (x : V) (H : Hp) : Prop := match x with
  | .str _ => T = "str"
  | .int _ => T = "int"
  | .ref p => (T = "list" ∧ ∃ xs, SqL K H p xs) ∨ (T = "tuple" ∧ ∃ o, K.lookup p = some o ∧ o.cls = .type "tuple" ∧ o.dict = none) ∨
      (T = "dict" ∧ ((∃ kvs, H p = some (.dK kvs)) ∨ ∃ kvs, H p = some (.dT kvs))) ∨ (T = "set" ∧ ∃ S n, H p = some (.set S n))
  | _ => False
theorem tyV_is {pins : List (Addr × Obj)} {σ : St} {H : Hp} {s : Shared} {T : String} {x : V} {v : Value} (I : Inv X pins σ H s) (r : RelV x v) (ty : tyV X.K T x H) :
    s.TypeIs v T ∧ ∀ a, v = .ref a → ∃ ob, s.heap.get? a = some ob ∧ ob.dict = none := by
  cases x with
  | str z =>
    obtain ⟨t, rfl⟩ := r
    cases (show T = "str" from ty)
    exact ⟨typeIs_str s z t, fun _ e => nomatch e⟩
  | int i =>
    obtain ⟨t, rfl⟩ := r
    cases (show T = "int" from ty)
    exact ⟨typeIs_int s i t, fun _ e => nomatch e⟩
  | ref p =>
    cases r
    rcases ty with ⟨rfl, xs, hq⟩ | ⟨rfl, o, hk, hc, hd⟩ | ⟨rfl, hk⟩ | ⟨rfl, S, n, hk⟩
    · obtain ⟨its, _, pl, _⟩ := I.list hq
      refine ⟨pl.isList.typeIs, fun a e => ?_⟩
      cases e
      obtain ⟨o, n, e, c, hd, _⟩ := pl
      exact ⟨o, e, hd⟩
    · refine ⟨⟨o, I.kIn p o hk, hc⟩, fun a e => ?_⟩
      cases e
      exact ⟨o, I.kIn _ o hk, hd⟩
    · have z : ∃ o, s.heap.get? p = some o ∧ o.ExactDict := by
        rcases hk with ⟨kvs, hk⟩ | ⟨kvs, hk⟩
        · obtain ⟨_, _, _, _, o, _, _, e, ex, _⟩ := I.hok p _ hk
          exact ⟨o, e, ex⟩
        · obtain ⟨_, _, _, _, o, _, _, e, ex, _⟩ := I.hok p _ hk
          exact ⟨o, e, ex⟩
      obtain ⟨o, e, ex⟩ := z
      refine ⟨⟨o, e, ex.1⟩, fun a e2 => ?_⟩
      cases e2
      exact ⟨o, e, ex.2.1⟩
    · obtain ⟨o, _, _, _, e, ex, _⟩ := I.hok p _ hk
      refine ⟨⟨o, e, ex.1⟩, fun a e2 => ?_⟩
      cases e2
      exact ⟨o, e, ex.2.1⟩
  | _ => exact False.elim ty
noncomputable def tBM0 (K : PySem.W.Frag) (T : String) (r : V → List V → Hp → VK → Prop) (to : TE) : TE := fun σ H Q => to σ H fun x H1 => tyV K T x H1 ∧ r x [] H1 Q
variable {o e : Expr} {es : List Expr} {to : TE} {t : TA} {name : Str} {apos cpos : Pos} {T id : String} {r : V → List V → Hp → VK → Prop}
theorem pe_bm0 (pa : PlainAttrs T) (slot : Slot T name id) (hty : typeOf (.builtin id) = pure (.type "method_descriptor")) (hm : MtR X id r) (ho : PE X o to)
    (hbase : attributeBase o name X.env (eval o X.env) = eval o X.env := by rfl) (hline : (apos.endLine == cpos.line) = true := by rfl) : PE X (.Call (.Attribute o name apos) [] [] cpos) (tBM0 X.K T r to) := by
  intro pins s σ H Q I h
  refine wpAny_Call_method0_late hbase hline (thn (ho pins s σ H _ I h) fun v s1 ⟨x, H1, I1, r1, ty, q1⟩ => ?_)
  obtain ⟨h1, h2⟩ := tyV_is I1 r1 ty
  exact ⟨T, id, pa, slot, hty, h1, h2, Calls.callWith_builtin rfl (PySem.evalArgs_none (hm pins s1 σ H1 x [] v [] Q I1 r1 .nil q1))⟩
end
end L2
namespace L2
open PySem PySem.Spec PyProof.Rows
noncomputable def MtM (X : Cx) (id : String) (r : V → List V → Hp → VK → Prop) : Prop :=
  ∀ (pins : List (Addr × Obj)) (s : Shared) (σ : St) (H : Hp) (x : V) (xs : List V) (v : Value) (us : List Value) (Q : VK), Inv X pins σ H s → RelV x v → Vals xs us → r x xs H Q →
    wpAny (model X.prog X.w) X.A (call (.builtin id) (v :: us)) (EP X pins σ Q) X.xe s
theorem Vals.one : ∀ {x : V} {us : List Value}, Vals [x] us → ∃ u, us = [u] ∧ RelV x u
  | _, _, .cons r .nil => ⟨_, rfl, r⟩
section
variable {X : Cx} {pins : List (Addr × Obj)} {σ : St} {H : Hp} {s : Shared} {l b : Addr} {xs ys zs : List V}
theorem Inv.lset {its its' : List Value} {n : Nat} {f : Array Value → Array Value} {t' : Nat} (I : Inv X pins σ H s) (hH : H l = some (.lst xs))
    (e : s.heap.get? l = some { cls := .type "list", data := .seq its.toArray n }) (hf : f its.toArray = its'.toArray) (hv : Vals ys its') (hz : ys.length ≤ sizeLine) :
    Inv X pins σ (upd H l (.lst ys)) { s with heap := s.heap.update l (Obj.mapSeq f), toks := t' } := by
  have q := PySem.IsL.update e f
  rw [hf] at q
  refine I.write (x := l) (e := l) (by rw [hH]; exact trivial) (.inl rfl) (fun b' u hb hu => (Heap.get?_update_other s.heap (Obj.mapSeq f) (Ne.symm hb)).trans hu) ⟨_, q⟩ ?_
  exact ⟨hz, its', _, hv, q⟩
theorem Inv.lstM (I : Inv X pins σ H s) (hH : H l = some (.lst xs)) : xs.length ≤ sizeLine ∧ ∃ (its : List Value) (n : Nat), Vals xs its ∧ xs.length = its.length ∧ s.heap.get? l = some { cls := .type "list", data := .seq its.toArray n } := by
  obtain ⟨z, its, n, r, e⟩ := I.hok l _ hH
  exact ⟨z, its, n, r, r.length, e⟩
end
section
variable {X : Cx}
noncomputable def rAppend : V → List V → Hp → VK → Prop := fun x vs H Q => ∃ l xs y, x = .ref l ∧ vs = [y] ∧ H l = some (.lst xs) ∧ xs.length < sizeLine ∧ Q .non (upd H l (.lst (xs ++ [y])))
theorem mt_append : MtM X "list.append" rAppend := by
  intro pins s σ H x vs v us Q I rx rv h
  obtain ⟨l, xs, y, rfl, rfl, hH, hz, q⟩ := h
  cases rx
  obtain ⟨u, rfl, ru⟩ := rv.one
  obtain ⟨z, its, n, r, hl, e⟩ := I.lstM hH
  refine call_meets F.slot_list_append ⟨_, e, rfl⟩ F.entry_list_append (F.args_list_append_2 _ _) (PySem.list_append l its.toArray n u (by rw [List.size_toArray]; lia)) ⟨e, ?_⟩
  refine ⟨.non, _, I.lset (its' := its ++ [u]) hH e (by simp) (r.append (.cons ru .nil)) ?_, rfl, q⟩
  rw [List.length_append, List.length_singleton]
  lia
end
end L2
namespace L2
open PySem PySem.Spec PyProof.Rows
section
variable {κ : Type} [DecidableEq κ]
noncomputable def valV (kvs : List (κ × V)) (k : κ) : Option V := (kvs.find? fun kv => decide (kv.1 = k)).map (·.2)
noncomputable def putK (kvs : List (κ × V)) (k : κ) (v : V) : List (κ × V) :=
  if (kvs.any fun kv => decide (kv.1 = k)) = true then kvs.map (fun kv => if kv.1 = k then (kv.1, v) else kv) else kvs ++ [(k, v)]
theorem valV_pos {p : κ × V} {r : List (κ × V)} {k : κ} (e : p.1 = k) : valV (p :: r) k = some p.2 := by simp [valV, List.find?_cons, e]
theorem valV_neg {p : κ × V} {r : List (κ × V)} {k : κ} (e : ¬ p.1 = k) : valV (p :: r) k = valV r k := by simp [valV, List.find?_cons, e]
theorem valV_any (k : κ) : ∀ kvs : List (κ × V), (kvs.any fun kv => decide (kv.1 = k)) = (valV kvs k).isSome
  | [] => rfl
  | p :: r => by
    rw [List.any_cons]
    by_cases e : p.1 = k
    · simp only [valV_pos e, decide_eq_true e, Bool.true_or, Option.isSome_some]
    · rw [valV_neg e, decide_eq_false e, Bool.false_or]; exact valV_any k r
theorem length_putK (kvs : List (κ × V)) (k : κ) (v : V) : (putK kvs k v).length ≤ kvs.length + 1 := by
  unfold putK
  split
  · rw [List.length_map]; lia
  · rw [List.length_append, List.length_cons, List.length_nil]; lia
theorem RelO.isSome_eq {o : Option V} {u : Option Value} (r : RelO o u) : o.isSome = u.isSome := by
  cases o with
  | none => cases u with
    | none => rfl
    | some _ => exact (show False from r).elim
  | some _ => cases u with
    | none => exact (show False from r).elim
    | some _ => rfl
theorem KV.any {kvs : List (κ × V)} {vs : List (κ × Value)} (r : KV kvs vs) (k : κ) : (kvs.any fun kv => decide (kv.1 = k)) = vs.any fun kv => decide (kv.1 = k) := by
  unfold KV at r
  induction r with
  | nil => rfl
  | cons h t ih => rw [List.any_cons, List.any_cons, ih, h.1]
theorem KV.repl {kvs : List (κ × V)} {vs : List (κ × Value)} (r : KV kvs vs) (k : κ) {y : V} {u : Value} (ry : RelV y u) :
    KV (kvs.map fun kv => if kv.1 = k then (kv.1, y) else kv) (vs.map fun kv => if kv.1 = k then (kv.1, u) else kv) := by
  unfold KV at r ⊢
  induction r with
  | nil => exact .nil
  | @cons p q ps qs h t ih =>
    rw [List.map_cons, List.map_cons]
    refine .cons ?_ ih
    obtain ⟨h1, h2⟩ := h
    by_cases e : p.1 = k
    · rw [if_pos e, if_pos (h1.symm.trans e)]; exact ⟨h1, ry⟩
    · rw [if_neg e, if_neg (fun z => e (h1.trans z))]; exact ⟨h1, h2⟩
theorem KV.put {kvs : List (κ × V)} {vs : List (κ × Value)} (r : KV kvs vs) (k : κ) {y : V} {u : Value} (ry : RelV y u) : KV (putK kvs k y) (stored vs k u) := by
  unfold putK stored
  rw [r.any k]
  by_cases e : (vs.any fun kv => decide (kv.1 = k)) = true
  · rw [if_pos e, if_pos e]; exact r.repl k ry
  · rw [if_neg e, if_neg e]; exact Paired.snoc r ⟨rfl, ry⟩
theorem KV.length {kvs : List (κ × V)} {vs : List (κ × Value)} (r : KV kvs vs) : kvs.length = vs.length := Paired.length r
end
theorem kV_is {P : Program} {w : World} {k : Key} {u : Value} (r : RelV (kV k) u) : (mixKind P w).is k u = true := by
  cases k with
  | inl i => obtain ⟨t, e⟩ := (show ∃ t, u = Value.int i t from r); subst e; exact mixKind_int P w i t
  | inr x => obtain ⟨t, e⟩ := (show ∃ t, u = Value.str x t from r); subst e; exact mixKind_str P w x t
theorem items_are {P : Program} {w : World} : ∀ {ks : List Key} {us : List Value}, Vals (ks.map kV) us → ItemsAre (mixKind P w) ks us
  | [], _, r => by rw [List.map_nil] at r; cases r; exact .nil
  | k :: ks, _, r => by
    rw [List.map_cons] at r
    cases r with
    | cons h t => exact .cons (kV_is h) (items_are t)
noncomputable abbrev KT (H : Hp) : List (List Key × V) → List (List Key × Addr × Value) → Prop := Paired fun p q => p.1 = q.1 ∧ H q.2.1 = some (.tup (p.1.map kV)) ∧ RelV p.2 q.2.2
theorem KT.val {H : Hp} {kvs : List (List Key × V)} {xs : List (List Key × Addr × Value)} (r : KT H kvs xs) (k : List Key) : RelO (valV kvs k) ((atKey xs k).map (·.2)) := by
  induction r with
  | nil => exact True.intro
  | @cons p q ps qs h t ih =>
    obtain ⟨h1, _, h2⟩ := h
    by_cases e : p.1 = k
    · have e' : q.1 = k := h1.symm.trans e
      have b : atKey (q :: qs) k = some q.2 := by simp [atKey, List.find?_cons, e']
      rw [valV_pos e, b]; exact h2
    · have e' : ¬ q.1 = k := fun z => e (h1.trans z)
      have b : atKey (q :: qs) k = atKey qs k := by simp [atKey, List.find?_cons, e']
      rw [valV_neg e, b]; exact ih
theorem KT.repl {H : Hp} {kvs : List (List Key × V)} {xs : List (List Key × Addr × Value)} (r : KT H kvs xs) (k : List Key) {y : V} {u : Value} (ry : RelV y u) :
    KT H (kvs.map fun kv => if kv.1 = k then (kv.1, y) else kv) (xs.map (putAt k u)) := by
  induction r with
  | nil => exact .nil
  | @cons p q ps qs h t ih =>
    rw [List.map_cons, List.map_cons]
    refine .cons ?_ ih
    obtain ⟨h1, h2, h3⟩ := h
    unfold putAt
    by_cases e : p.1 = k
    · rw [if_pos e, if_pos (h1.symm.trans e)]; exact ⟨h1, h2, ry⟩
    · rw [if_neg e, if_neg (fun z => e (h1.trans z))]; exact ⟨h1, h2, h3⟩
theorem KT.put {H : Hp} {kvs : List (List Key × V)} {xs : List (List Key × Addr × Value)} (r : KT H kvs xs) (k : List Key) {b : Addr} {y : V} {u : Value} (hb : H b = some (.tup (k.map kV))) (ry : RelV y u) :
    KT H (putK kvs k y) (storedH xs k b u) := by
  have e : (kvs.any fun kv => decide (kv.1 = k)) = (atKey xs k).isSome := by
    rw [valV_any, (r.val k).isSome_eq, Option.isSome_map]
  unfold putK storedH
  rw [e]
  by_cases q : (atKey xs k).isSome = true
  · rw [if_pos q, if_pos q]; exact r.repl k ry
  · rw [if_neg q, if_neg q]; exact Paired.snoc r ⟨rfl, hb, ry⟩
theorem KT.keeps {H H' : Hp} {kvs : List (List Key × V)} {xs : List (List Key × Addr × Value)} (r : KT H kvs xs) (ht : ∀ b ys, H b = some (.tup ys) → H' b = some (.tup ys)) : KT H' kvs xs :=
  Paired.mapP r fun _ _ z => ⟨z.1, ht _ _ z.2.1, z.2.2⟩
section
variable {P : Program} {w : World} {H : Hp} {h : Heap} {a : Addr}
theorem rd_of {u : HO} (ok : HOk P w H h) (e : Rd H a u) : ObjOk P w H h a u := e.ok ok
theorem dk_rd {kvs : List (Key × V)} (ok : HOk P w H h) (e : Rd H a (.dK kvs)) : kvs.length ≤ sizeLine ∧ (a == sysModules) = false ∧ ∃ vs, KV kvs vs ∧ h.DictOf (mixKind P w) a vs :=
  show ObjOk P w H h a (.dK kvs) from rd_of ok e
theorem dk_of {kvs : List (Key × V)} (ok : HOk P w H h) (e : H a = some (.dK kvs)) : kvs.length ≤ sizeLine ∧ (a == sysModules) = false ∧ ∃ vs, KV kvs vs ∧ h.DictOf (mixKind P w) a vs := dk_rd ok (.inl e)
theorem key_of {ks : List Key} (ok : HOk P w H h) (e : H a = some (.tup (ks.map kV))) : (tupleKind (mixKind P w)).is h ks a := by
  obtain ⟨_, its, r, o, h1, h2, n, h3⟩ := (show ObjOk P w H h a (.tup (ks.map kV)) from ok a _ e)
  exact ⟨o, its.toArray, n, h1, h2, h3, by simpa using items_are r⟩
theorem dt_rd {kvs : List (List Key × V)} (ok : HOk P w H h) (e : Rd H a (.dT kvs)) : kvs.length ≤ sizeLine ∧ (a == sysModules) = false ∧
    ∃ xs, KT H kvs xs ∧ h.DictOfH (tupleKind (mixKind P w)) a xs := by
  obtain ⟨z, y, xs, r, o, es, ep, h1, h2, h3, h4, h5⟩ := (show ObjOk P w H h a (.dT kvs) from rd_of ok e)
  refine ⟨z, y, xs, r, o, es, ep, h1, h2, h3, h4, fun x hx => ?_, h5⟩
  have all : ∀ {l : List (List Key × V)} {m : List (List Key × Addr × Value)}, KT H l m → ∀ x ∈ m, (tupleKind (mixKind P w)).is h x.1 x.2.1 := by
    intro l m q
    induction q with
    | nil => intro x hx; exact nomatch hx
    | @cons p q ps qs hq t ih =>
      intro x hx
      rcases List.mem_cons.mp hx with e | hx
      · subst e
        exact key_of ok (by rw [← hq.1]; exact hq.2.1)
      · exact ih x hx
  exact all r x hx
theorem dt_of {kvs : List (List Key × V)} (ok : HOk P w H h) (e : H a = some (.dT kvs)) : kvs.length ≤ sizeLine ∧ (a == sysModules) = false ∧
    ∃ xs, KT H kvs xs ∧ h.DictOfH (tupleKind (mixKind P w)) a xs := dt_rd ok (.inl e)
end
noncomputable def DPut (H : Hp) (a : Addr) (y v : V) (H' : Hp) : Prop :=
  (∃ kvs k, H a = some (.dK kvs) ∧ y = kV k ∧ kvs.length < sizeLine ∧ H' = upd H a (.dK (putK kvs k v))) ∨
  ∃ kvs k b, H a = some (.dT kvs) ∧ y = .ref b ∧ H b = some (.tup (k.map kV)) ∧ kvs.length < sizeLine ∧ H' = upd H a (.dT (putK kvs k v))
theorem DPut.k {H : Hp} {a : Addr} {kvs : List (Key × V)} {k : Key} {v : V} (e : H a = some (.dK kvs)) (hl : kvs.length < sizeLine) : DPut H a (kV k) v (upd H a (.dK (putK kvs k v))) := .inl ⟨kvs, k, e, rfl, hl, rfl⟩
section
variable {X : Cx} {pins : List (Addr × Obj)} {σ : St} {H : Hp} {s : Shared} {a : Addr} {y v : V} {u r : Value} {o : Option V} {A : Around} {E : Value → Shared → Prop}
theorem Inv.big (I : Inv X pins σ H s) : sysModules < s.heap.objs.size := by
  have h : mainGlobals < s.heap.objs.size := (I.mod.glob.keeps I.bk).lt
  exact Nat.lt_trans (by decide) h
theorem d_write {h' : Heap} {t' : Nat} {ob : HO} (I : Inv X pins σ H s) (mu : Mut (H a)) (hs : Heap.SameBut a s.heap h') (he : ∃ q, h'.get? a = some q) (new : ObjOk X.prog X.w (upd H a ob) h' a ob) :
    Inv X pins σ (upd H a ob) { s with heap := h', toks := t' } :=
  I.write (x := a) (e := a) mu (.inl rfl) (fun b q hb z => (hs.2 b hb).trans z) he new
theorem dk_new {P : Program} {w : World} {H' : Hp} {h' : Heap} {kvs : List (Key × V)} {vs : List (Key × Value)} (z : kvs.length ≤ sizeLine) (hd : (a == sysModules) = false) (rel : KV kvs vs) (dd : h'.DictOf (mixKind P w) a vs) :
    ObjOk P w H' h' a (.dK kvs) := ⟨z, hd, vs, rel, dd⟩
theorem d_setItem {H' : Hp} {Q : Unit → Shared → Prop} (hu : A.units + 1 < cLine) (I : Inv X pins σ H s) (g : DPut H a y v H') (ry : RelV y u) (rv : RelV v r) (h : ∀ s', Inv X pins σ H' s' → Q () s') :
    wpAny (model X.prog X.w) A (setItem (.ref a) u r) Q E s := by
  rcases g with ⟨kvs, k, e, ey, l, eH⟩ | ⟨kvs, k, b, e, ey, eb, l, eH⟩
  · subst ey eH
    obtain ⟨z, hd, vs, rel, dd⟩ := dk_of I.hok e
    have hz : vs.length ≤ sizeLine := by rw [← rel.length]; exact z
    have hl : (putK kvs k v).length ≤ sizeLine := by have := length_putK kvs k v; lia
    refine wpAny_setItem_pairs (hsz := hz) (kV_is ry) dd fun h' dd' hs => h _ ?_
    have he : ∃ q, h'.get? a = some q := let ⟨q, _, _, hq, _⟩ := dd'; ⟨q, hq⟩
    exact d_write I (by rw [e]; exact True.intro) hs he (dk_new hl hd (rel.put k rv) dd')
  · subst ey eH
    cases (show u = Value.ref b from ry)
    obtain ⟨z, hd, xs, rel, dd⟩ := dt_of I.hok e
    have hz : xs.length ≤ sizeLine := by rw [← Paired.length rel]; exact z
    have hl : (putK kvs k v).length ≤ sizeLine := by have := length_putK kvs k v; lia
    refine wpAny_setItem_heap (hsz := hz) (tupleKind_room_in1 hu) (key_of I.hok eb) dd fun h' dd' hs => h _ ?_
    obtain ⟨q, es, ep, hq, h2, h3, h4, _, h5⟩ := dd'
    refine d_write I (by rw [e]; exact True.intro) hs ⟨q, hq⟩ ⟨hl, hd, _, (rel.put k eb rv).keeps fun c ys ec => ?_, q, es, ep, hq, h2, h3, h4, h5⟩
    rw [upd_ne (ne_of ec e (fun z => nomatch z))]
    exact ec
end
noncomputable def sDPut (td ty tv : TE) : TS := fun D σ H => tv σ H fun v H1 => td σ H1 fun x H2 => ty σ H2 fun y H3 => ∃ a H4, x = .ref a ∧ DPut H3 a y v H4 ∧ D.nx σ H4
section
variable {X : Cx} {o i e value : Expr} {pos pos' tpos : Pos} {td ty tv : TE}
theorem ps_dput (hu : X.A.units + 1 < cLine) (ho : PE X o td) (hi : PE X i ty) (hv : PE X value tv) (hs : swapsWith value (some (.Subscript o i pos')) pos.line X.env = pure false) :
    PS X (.Assign [.Subscript o i pos'] value pos) (sDPut td ty tv) := by
  intro pins s σ H D I h
  refine wpAny_Assign_Subscript (thn (hv pins s σ H _ I h) fun r s1 ⟨v, H1, I1, rv, q1⟩ => thn (ho pins s1 σ H1 _ I1 q1) fun u s2 ⟨x, H2, I2, rx, q2⟩ => thn (hi pins s2 σ H2 _ I2 q2) fun iv s3 ⟨y, H3, I3, ry, a, H4, ex, g, q3⟩ => ?_) hs
  subst ex
  obtain rfl : u = Value.ref a := rx
  exact d_setItem hu I3 g ry rv fun s4 I4 => ⟨σ, H4, I4, q3⟩
end
theorem dk_empty {P : Program} {w : World} {H : Hp} (h : Heap) (hb : sysModules < h.objs.size) : ObjOk P w H (h.push { cls := .type "dict", data := .dict #[] }) h.objs.size (.dK []) :=
  ⟨Nat.zero_le _, beq_eq_false_iff_ne.mpr (Ne.symm (Nat.ne_of_lt hb)), [], .nil, Heap.DictOf.new h⟩
noncomputable def tDNewK : TE := fun _ H Q => ∀ p, H p = none → Q (.ref p) (upd H p (.dK []))
section
variable {X : Cx} {pos : Pos}
theorem pe_dnewK : PE X (.Dict [] [] pos) tDNewK := fun pins s σ H Q I h =>
  wpAny_Dict_empty ⟨.ref s.heap.objs.size, _, I.laid (a := s.heap.objs.size) (o := .dK []) (t' := s.toks) (fun _ _ q => Heap.get?_push_of_some _ q) (Nat.le_refl _) (dk_empty s.heap I.big), rfl, h _ (I.hok.fresh (Nat.le_refl _))⟩
end
end L2
namespace Att
open PySem PySem.W PySem.Calls PyProof.Rows
theorem ints_of_wellAll {P : Params} {h : Heap} : ∀ (ns : List Int) (vs : List Value), WellAll P h vs (ns.map WData.int) → IntsAre vs ns := by
  intro ns
  induction ns with
  | nil =>
    intro vs w
    rw [List.map_nil] at w
    cases w
    exact .nil
  | cons n ns ih =>
    intro vs w
    rw [List.map_cons] at w
    cases w with
    | cons a b =>
      cases a
      exact .cons _ _ (ih _ b)
theorem script_of {l : OpenLaw} {n : Nat} (hn : l.most = some n) {P : Params} {h : Heap} {args : List WData} {vals : List Value}
    (hpre : l.row.toRowW.claim.pre args = true) (hwl : WellAll P h vals args) :
    ∃ a vs ns, vals = [Value.ref a] ∧ args = [WData.list (ns.map WData.int)] ∧ h.get? a = some { cls := .type "list", data := .seq vs.toArray } ∧ IntsAre vs ns ∧ ns.length ≤ n := by
  have hsh : WShape.hasAll [] args [.list .int] = true := (pre_splitW hpre).1
  have hc : l.pre.holds [] { args := args } = true := (pre_splitW hpre).2
  obtain ⟨d, r, rfl, h1, h2⟩ := hasAllW_cons hsh
  obtain rfl := hasAllW_nil h2
  obtain ⟨xs, rfl, h3⟩ := hasW_list h1
  obtain ⟨ns, rfl⟩ := items_int h3
  have hlen : ns.length ≤ n := by
    unfold OpenLaw.pre at hc
    have h4 : (WTm.not (.lt (.lit (.int (n : Int))) (.len (.arg 0)))).holds [] { args := [.list (ns.map .int)] } = true := by
      have h4 := (holds_andW hc).1
      rw [hn] at h4
      exact h4
    have h5 := condW_of h4 (w_not (w_lt w_lit (w_len_list (w_arg rfl))))
    rw [List.length_map] at h5
    refine Nat.le_of_not_lt fun q => ?_
    have q' : (n : Int) < ((ns.length : Nat) : Int) := by lia
    first
      | (rw [decide_eq_true q'] at h5; exact absurd h5 (by decide))
      | (simp at h5; lia)
  cases hwl with
  | cons w1 w2 =>
    cases w2
    cases w1 with
    | list ho hall => exact ⟨_, _, ns, rfl, rfl, ho, ints_of_wellAll ns _ hall, hlen⟩
theorem post_true (l : OpenLaw) (args : List WData) : l.row.toRowW.claim.post args (.bool true) args = true :=
  postW_of (r := l.row.toRowW) (X := (true == true))
    (show WShape.has [] (.bool true) .bool = true by first | rfl | decide | simp [WShape.has, WShape.arms, WShape.armsAll])
    (show (WTm.eq .res (.lit (.bool true))).value [] { args := args, res := some (.bool true), after := args } = some (.bool (true == true)) from w_eq_bool (w_res rfl) w_lit) rfl
theorem attach_call {l : OpenLaw} {n : Nat} {q : Program} {loose : List Str} {XP : (Str → Option Value) → Heap → Prop} {YP : World → Heap → Prop} {d : DefRec}
    (hn : l.most = some n) (hdf : d.params.defaults = [])
    (call : ∀ (w : World) (s₀ s₁ : Shared) (mg mb : Str → Option Value) (fa : Addr) (o : Obj) (pm cd doc : Value) (a : Addr) (vs : List Value) (ns : List Int),
      Ground q loose [] XP w s₀ mg mb s₁.heap → YP w s₁.heap →
      s₁.heap.get? fa = some o → o.data = .func (docDef d.name d.params d.body d.scope pm cd doc) → s₁.heap.CodeRec cd d.name → mg d.name = some (.ref fa) →
      s₁.heap.get? a = some { cls := .type "list", data := .seq vs.toArray } → IntsAre vs ns → ns.length ≤ n → s₁.gens = #[] →
      codeAny (model l.prog w) callerA (.call (.ref fa) ⟨[.ref a], []⟩) (fun r s' => r = .ok (.ret (.bool true)) ∧ OldK s₁.heap s'.heap ∧ s'.os = s₁.os ∧ AllBare s'.gens) s₁) :
    WalkO q loose XP YP l.row.toRowW d [] (fun f vs => PySem.call f vs) := by
  intro w s₀ s₁ mg mb G Y fa o pm cd doc dV kV ho hd hcd hD hmg hg args vals as hpre hlay hrd hwl hlo
  obtain rfl : dV = .none := Dflts.none hD hdf
  obtain rfl : kV = .none := Dflts.noKw hD
  obtain ⟨a, vs, ns, rfl, rfl, hobj, hints, hlen⟩ := script_of hn hpre hwl
  refine enter_call (codeAny_mono (call w s₀ s₁ mg mb fa o pm cd doc a vs ns G Y ho (fd_plain hd) hcd hmg hobj hints hlen hg) fun r s' hq => ?_)
  obtain ⟨rfl, h2, h3, h4⟩ := hq
  exact ⟨.inl ⟨.bool true, .bool true, [], rfl, fun _ => rfl, .bool true, post_true l _, fun _ => ⟨List.Pairwise.nil, fun _ hm => (nomatch hm)⟩⟩, h2, h3, h4⟩
end Att
namespace L2
open PySem PySem.Spec PyProof.Rows
theorem vals_ints : ∀ {vs : List Value} {ns : List Int}, IntsAre vs ns → Vals (ns.map V.int) vs
  | _, _, .nil => .nil
  | _, _, .cons n t h => .cons ⟨t, rfl⟩ (vals_ints h)
noncomputable def Only (H : Hp) : Prop := ∀ b, H b = none ∨ ∃ o xs, H b = some (.frz o (.lst xs))
theorem law_call {P : Program} {w : World} {K : PySem.W.Frag} {mg mb : Str → Option Value} {CX : CXT} {k : Nat} {fa a : Addr} {fd : FuncData} {x : Str} {sp : Sp} {s₁ : Shared} {vs : List Value} {ns : List Int}
    (KX : K.In s₁.heap) (hns : s₁.heap.Ns mainGlobals mg) (hb : s₁.heap.Ns builtinsNs mb) (hbb : ∀ x : Str, x ≠ "__name__" → mb x = bootBuiltins x) (hlim : s₁.heap.NoLimit) (hg : s₁.gens = #[])
    (ha : s₁.heap.get? a = some { cls := .type "list", data := .seq vs.toArray }) (hi : IntsAre vs ns) (hl : ns.length ≤ sizeLine) (hr : Room k callerA)
    (F : ∀ base : Heap, K.In base → base.Ns mainGlobals mg → FnOk P w K mg base CX k fa fd [x] sp) (hbind : ∀ (s : Shared) (u : Value), BindsTo s fd ⟨[u], []⟩ [(x, u)])
    (hsp : ∀ H : Hp, Only H → SqL K H a (ns.map V.int) → sp [.ref a] H (fun v _ => v = .bl true) fun _ _ _ => False)
    (hCX : ∀ H e s', CX [] H s₁ (fun _ _ _ => False) e s' → False) :
    codeAny (model P w) callerA (.call (.ref fa) ⟨[.ref a], []⟩) (fun r s' => r = .ok (.ret (.bool true)) ∧ OldK s₁.heap s'.heap ∧ s'.os = s₁.os ∧ AllBare s'.gens) s₁ := by
  have rv := vals_ints hi
  have lenV := hi.length
  -- from an abstract heap in which nothing but the script may be tracked
  have core : ∀ H : Hp, Only H → SqL K H a (ns.map V.int) → HOk P w H s₁.heap → (∀ b, H b ≠ none → b = a) → (H a ≠ none → K.lookup a = none) →
      codeAny (model P w) callerA (.call (.ref fa) ⟨[.ref a], []⟩) (fun r s' => r = .ok (.ret (.bool true)) ∧ OldK s₁.heap s'.heap ∧ s'.os = s₁.os ∧ AllBare s'.gens) s₁ := by
    intro H hO hS hok hA hK
    have base_of : ∀ {b : Addr} {o : Obj}, s₁.heap.get? b = some o → H b = none → (hidT s₁.heap H).get? b = some o := fun e n => hidT_get e n
    have noA : ∀ {b : Addr} {o : Obj} {es : Array DictEntry} {ep : Nat}, s₁.heap.get? b = some o → o.data = .dict es ep → H b = none := fun {b o es ep} e d => by
      cases q : H b with
      | none => rfl
      | some u =>
        have e' : b = a := hA b (by rw [q]; simp)
        subst e'
        rw [ha] at e; cases e
        have d' : Data.seq vs.toArray _ = Data.dict es ep := d
        cases d'
    have nsK : ∀ {b : Addr} {m : Str → Option Value}, s₁.heap.Ns b m → (hidT s₁.heap H).Ns b m := fun {b m} ⟨o, es, ep, e, d, r⟩ => ⟨o, es, ep, base_of e (noA e d), d, r⟩
    have hKb : K.In (hidT s₁.heap H) := fun b o e => base_of (KX b o e) (by
      cases q : H b with
      | none => rfl
      | some u =>
        have e' : b = a := hA b (by rw [q]; simp)
        subst e'
        rw [hK (by rw [q]; simp)] at e; cases e)
    have hM : Mod K mg (hidT s₁.heap H) := ⟨hKb, nsK hns, ⟨mb, nsK hb, hbb⟩, let ⟨mc, h1, h2⟩ := hlim; ⟨mc, nsK h1, h2⟩⟩
    have e0 : Env0 P w K mg (hidT s₁.heap H) callerA [] s₁ H := ⟨rfl, hM, fun b o e => of_hidT e, Nat.le_of_eq (hidT_size _ _), trivial, fun b hb => absurd (show b ∈ ([] : List Addr) from hb) (by simp), hok, .of_eq hg⟩
    refine codeAny_mono ((F _ hKb (nsK hns)).run callerA [] s₁ H ⟨[.ref a], []⟩ [.ref a] [.ref a] _ _ hr e0 (hbind s₁ (.ref a)) (.cons rfl .nil) (hsp H hO hS)) fun r s' h => ?_
    cases r with
    | error e => exact (hCX H e s' h).elim
    | ok fl =>
      cases fl with
      | next => exact False.elim h
      | brk => exact False.elim h
      | cont => exact False.elim h
      | ret u =>
        obtain ⟨v, H', os, bare, un, hok', r', q⟩ := h
        have q' : v = .bl true := q
        subst q'
        obtain rfl : u = Value.bool true := r'
        refine ⟨rfl, OldK.of_keep fun b o e => ?_, os, bare⟩
        cases q : H b with
        | none => exact un.keep b o e q (by intro z; exact absurd (show b ∈ ([] : List Addr) from z) (by simp)) (by simp)
        | some u =>
          rcases hO b with z | ⟨ob, xs, z⟩
          · rw [q] at z; cases z
          · have z2 := un.frzs b ob _ z
            obtain ⟨e1, _⟩ := hok b _ z
            obtain ⟨e2, _⟩ := hok' b _ z2
            rw [e] at e1; cases e1
            exact e2
  cases hk : K.lookup a with
  | some o =>
    -- the script is one of the module's own objects
    have e := KX a o hk
    rw [ha] at e
    cases e
    refine core (fun _ => none) (fun _ => .inl rfl) (.inr ⟨_, vs.toArray, _, hk, rfl, rfl, rfl, by rw [List.size_toArray, lenV]; exact hl, by simpa using rv⟩) (fun b u z => by have z' : (none : Option HO) = some u := z; cases z') (fun b z => absurd rfl z) fun z => absurd rfl z
  | none =>
    refine core (fun b => if b = a then some (.frz { cls := .type "list", data := .seq vs.toArray } (.lst (ns.map V.int))) else none) (fun b => ?_) (.inl (.inr ⟨{ cls := .type "list", data := .seq vs.toArray }, if_pos rfl⟩)) (fun b u z => ?_) (fun b z => ?_) fun _ => hk
    · by_cases hb : b = a
      · exact .inr ⟨_, _, if_pos hb⟩
      · exact .inl (if_neg hb)
    · by_cases hb : b = a
      · have z' := (if_pos hb).symm.trans z
        cases z'
        subst hb
        exact ⟨ha, by rw [List.length_map]; exact hl, vs, _, rv, ha⟩
      · have z' := (if_neg hb).symm.trans z
        cases z'
    · by_cases hb : b = a
      · exact hb
      · exact absurd (if_neg hb) z
end L2
namespace L2
open PySem PySem.Spec PyProof.Rows
theorem walk_of {l : PySem.W.OpenLaw} {n k : Nat} {q : Program} {loose : List Str} {XP : (Str → Option Value) → Heap → Prop} {YP : World → Heap → Prop} {d : DefRec} {K : Params → PySem.W.Frag} {CX : World → CXT} {sp : World → Sp} {x : Str}
    (hn : l.most = some n) (hn2 : n ≤ sizeLine) (hdf : d.params.defaults = []) (hr : Room k callerA)
    (hY : ∀ (w : World) (h : Heap), YP w h → (K w.params).In h)
    (F : ∀ (w : World) (mg : Str → Option Value) (fa : Addr) (h : Heap), (K w.params).In h → h.Ns mainGlobals mg → mg d.name = some (.ref fa) →
      ∃ fd : FuncData, (∀ (s : Shared) (u : Value), BindsTo s fd ⟨[u], []⟩ [(x, u)]) ∧
        ∀ base : Heap, (K w.params).In base → base.Ns mainGlobals mg → FnOk l.prog w (K w.params) mg base (CX w) k fa fd [x] (sp w))
    (hsp : ∀ (w : World) (H : Hp) (a : Addr) (ns : List Int), ns.length ≤ n → Only H → SqL (K w.params) H a (ns.map V.int) → sp w [.ref a] H (fun v _ => v = .bl true) fun _ _ _ => False)
    (hCX : ∀ (w : World) (H : Hp) (s : Shared) (e : Value) (s' : Shared), CX w [] H s (fun _ _ _ => False) e s' → False) :
    PySem.W.WalkO q loose XP YP l.row.toRowW d [] (fun f vs => PySem.call f vs) := by
  refine Att.attach_call hn hdf fun w s₀ s₁ mg mb fa o pm cd doc a vs ns G Y ho hd hcd hmg hobj hints hlen hg => ?_
  have KX := hY w _ Y
  obtain ⟨fd, hb, hF⟩ := F w mg fa _ KX G.T.g hmg
  exact law_call KX G.T.g G.T.b G.T.builtins G.T.nolimit hg hobj hints (Nat.le_trans hlen hn2) hr hF hb (fun H hO hS => hsp w H a ns hlen hO hS) fun H e s' => hCX w H s₁ e s'
end L2
namespace L2
open PySem PySem.Spec PyProof.Rows
noncomputable def defArgs (s : Stmt) : Arguments := match s with
  | .FunctionDef _ a _ _ _ _ _ _ _ _ => a
  | _ => { posonlyargs := [], args := [], vararg := none, kwonlyargs := [], kw_defaults := [], kwarg := none, defaults := [] }
noncomputable def defBody (s : Stmt) : List Stmt := match s with
  | .FunctionDef _ _ b _ _ _ _ _ _ _ => b
  | _ => []
noncomputable def defScope (s : Stmt) : Scope := match s with
  | .FunctionDef _ _ _ _ _ _ sc _ _ _ => sc
  | _ => { kind := .function, names := [], isGenerator := false, isCoroutine := false }
noncomputable abbrev CX0 : CXT := fun _ _ _ _ _ _ => False
noncomputable abbrev E0 : XK := fun _ _ _ => False
theorem pass0 {X : Cx} : Passes CX0 X E0 := fun _ _ _ _ _ _ _ h => h.elim
structure Fun (K : PySem.W.Frag) (x qual : Str) (st : Stmt) (f : Addr) (fd : FuncData) : Prop where
  ex : ∃ (oc : Value) (od : Option Addr) (kV doc pm : Value) (an : Option Addr) (cdv ct : Value) (osl : Array (Option Value)),
    fd = PySem.W.fnOf x qual (defArgs st) (defBody st) (defScope st) .none kV doc pm an cdv ct ∧ K.lookup f = some ⟨oc, od, .func fd, osl⟩ ∧ PySem.W.codeIn K cdv qual = true
  kp : PySem.W.keepIn K (.ref f) = true
section
variable {P : Program} {w : World} {K : PySem.W.Frag} {mg : Str → Option Value} {base : Heap}
theorem Fun.ok {x qual : Str} {st : Stmt} {f : Addr} {fd : FuncData} {N ps : List Str} {k : Nat} {sp : Sp} (F : Fun K x qual st f fd) (S : FnScope N ps (defScope st)) (len : ∀ vs H Q E, sp vs H Q E → vs.length = ps.length)
    (hbody : ∀ (cdv : Value) (A : Around) (outer : List Env) (s : Shared) (H : Hp) (vs : List V) (Q : VK) (E : XK), Room k (A.deeper (envOfC qual (defScope st) s.heap.objs.size f cdv)) → sp vs H Q E →
      ∃ t, PSs (cxOf CX0 P w K mg base N qual (defScope st) f cdv A outer s H E).nox (defBody st) t ∧ t { nx := fun _ H' => Q .non H', rt := Q } (start N vs) H) : FnOk P w K mg base CX0 (k + 1) f fd ps sp := by
  obtain ⟨oc, od, kV, doc, pm, an, cdv, ct, osl, rfl, lk, hcd⟩ := F.ex
  refine fn_of lk hcd S len fun A outer s H vs Q E hr hsp => ?_
  obtain ⟨t, h, q⟩ := hbody cdv A outer s H vs Q E hr hsp
  exact ⟨t, h.nox, q⟩
theorem Fun.binds {x qual : Str} {st : Stmt} {f : Addr} {fd : FuncData} {ps : List Str} (F : Fun K x qual st f fd)
    (h : ∀ (kV doc pm : Value) (an : Option Addr) (cdv ct : Value) (us : List Value), us.length = ps.length → bindArgs (PySem.W.fnOf x qual (defArgs st) (defBody st) (defScope st) .none kV doc pm an cdv ct) ⟨us, []⟩ = pure (ps.zip us)) : Binds K fd ps [] := by
  obtain ⟨oc, od, kV, doc, pm, an, cdv, ct, osl, rfl, lk, hcd⟩ := F.ex
  exact .all (h kV doc pm an cdv ct)
theorem fun_mk {x qual : Str} {st : Stmt} {f : Addr} {oc : Value} {od an : Option Addr} {osl : Array (Option Value)} {kV doc pm cdv ct : Value} (l : K.lookup f = some ⟨oc, od, .func (PySem.W.fnOf x qual (defArgs st) (defBody st) (defScope st) .none kV doc pm an cdv ct), osl⟩)
    (c : PySem.W.codeIn K cdv qual = true) (k : PySem.W.keepIn K (.ref f) = true) : Fun K x qual st f (PySem.W.fnOf x qual (defArgs st) (defBody st) (defScope st) .none kV doc pm an cdv ct) := ⟨⟨oc, od, kV, doc, pm, an, cdv, ct, osl, rfl, l, c⟩, k⟩
end
theorem hu_of {A : Around} {k : Nat} (hr : Room k A) : A.units + 1 < cLine := Nat.lt_of_le_of_lt (Nat.add_le_add_left (by decide : 1 ≤ 64) _) hr.units
section
variable {X : Cx}
theorem pv (i : Nat) {x : Str} {pos : Pos} (hN : X.N[i]? = some x := by rfl) (hv : Vis X.env.scope x := by first | exact Or.inl rfl | exact Or.inr (Or.inl rfl) | exact Or.inr (Or.inr rfl)) (hd : (x == ("__debug__" : Str)) = false := by decide)
    (hcd : (x == ("__classdict__" : Str)) = false := by decide) : PE X (.Name x pos) (tVar i) := pe_var hN hv hd hcd
end
theorem iteF {A B : Prop} (h : B) : if false = true then A else B := by
  rw [if_neg Bool.false_ne_true]
  exact h
theorem ite2 {c A B : Prop} [Decidable c] (h1 : c → A) (h2 : ¬ c → B) : if c then A else B := by
  by_cases h : c
  · rw [if_pos h]
    exact h1 h
  · rw [if_neg h]
    exact h2 h
noncomputable def Same (H H' : Hp) : Prop := ∀ b o, H b = some o → H' b = some o
theorem Same.refl (H : Hp) : Same H H := fun _ _ h => h
theorem Same.trans {H H1 H2 : Hp} (a : Same H H1) (b : Same H1 H2) : Same H H2 := fun c o h => b c o (a c o h)
theorem Same.free {H H' : Hp} (e : Same H H') {l : Addr} (h : H' l = Option.none) : H l = Option.none := by
  cases q : H l with
  | none => rfl
  | some o =>
    rw [e l o q] at h
    cases h
theorem Same.seq {K : PySem.W.Frag} {H H' : Hp} {a : Addr} {xs : List V} (e : Same H H') (h : SqL K H a xs) : SqL K H' a xs := by
  rcases h with (h | ⟨o, h⟩) | h
  · exact .inl (.inl (e _ _ h))
  · exact .inl (.inr ⟨o, e _ _ h⟩)
  · exact .inr h
section
variable {κ : Type} [DecidableEq κ]
theorem nd_snoc : ∀ {l : List κ} {k : κ}, l.Nodup → ¬ k ∈ l → (l ++ [k]).Nodup
  | [], k, _, _ => by simp
  | a :: r, k, h, hk => by
    obtain ⟨h1, h2⟩ := List.nodup_cons.mp h
    show (a :: (r ++ [k])).Nodup
    refine List.nodup_cons.mpr ⟨fun m => ?_, nd_snoc h2 fun m => hk (List.mem_cons.mpr (Or.inr m))⟩
    rcases List.mem_append.mp m with q | q
    · exact h1 q
    · exact hk (List.mem_cons.mpr (Or.inl (List.mem_singleton.mp q).symm))
end
end L2
namespace L2
open PySem PySem.Spec PyProof.Rows
noncomputable def clos (cells : List (Str × Addr)) : List (Str × NameKind) → List (Str × Addr) → List (Str × Addr)
  | [], cs => cs
  | (n, k) :: r, cs => clos cells r (if k == NameKind.free then (n, (cells.lookup n).getD 0) :: cs else cs)
theorem clos_go {env : Env} : ∀ (ns : List (Str × NameKind)) (cs : List (Str × Addr)), (∀ y ∈ ns, y.2 = NameKind.free → (env.cells.lookup y.1).isSome = true) →
    (forIn ns cs fun (p : Str × NameKind) (r : List (Str × Addr)) =>
      if (p.2 == NameKind.free) = true then (do let a ← cellOf env p.1; pure (ForInStep.yield ((p.1, a) :: r)) : Sem _) else pure (ForInStep.yield r)) = (pure (clos env.cells ns cs) : Sem _)
  | [], cs, _ => by simp [clos]
  | (n, k) :: r, cs, h => by
    have ih := fun cs' => clos_go r cs' fun y hy => h y (List.mem_cons_of_mem _ hy)
    rw [List.forIn_cons]
    by_cases hk : k = NameKind.free
    · subst hk
      have hs := h (n, NameKind.free) List.mem_cons_self rfl
      cases e : env.cells.lookup n with
      | none => rw [e] at hs; cases hs
      | some c =>
        have e1 : cellOf env n = pure c := by unfold cellOf; rw [e]
        have e2 : clos env.cells ((n, NameKind.free) :: r) cs = clos env.cells r ((n, c) :: cs) := by simp [clos, e]
        rw [e2, ← ih ((n, c) :: cs)]
        (simp only [beq_self_eq_true, if_true])
        rw [e1]
        rfl
    · have hb : (k == NameKind.free) = false := by simpa using hk
      have e2 : clos env.cells ((n, k) :: r) cs = clos env.cells r cs := by simp [clos, hb]
      rw [e2, ← ih cs]
      (simp only [hb, Bool.false_eq_true, if_false])
      rfl
theorem closureFor_is {scope : Scope} {env : Env} (h : ∀ y ∈ scope.names, y.2 = NameKind.free → (env.cells.lookup y.1).isSome = true) : closureFor scope env = pure (clos env.cells scope.names []) := by
  have e := clos_go (env := env) scope.names [] h
  unfold closureFor
  simp only [bind_pure]
  exact e
theorem clos_sub {cells : List (Str × Addr)} {x : Str} {c : Addr} : ∀ {ns : List (Str × NameKind)} {cs : List (Str × Addr)}, (∀ y ∈ ns, y.2 = NameKind.free → (cells.lookup y.1).isSome = true) → (cs.lookup x = some c → cells.lookup x = some c) →
    (clos cells ns cs).lookup x = some c → cells.lookup x = some c
  | [], _, _, h, e => h e
  | (n, k) :: r, cs, hn, h, e => by
    refine clos_sub (ns := r) (fun y hy => hn y (List.mem_cons_of_mem _ hy)) ?_ e
    by_cases hk : k = NameKind.free
    · subst hk
      (simp only [beq_self_eq_true, if_true])
      intro q
      rw [List.lookup_cons] at q
      by_cases hx : x = n
      · subst hx
        have hs := hn (x, NameKind.free) List.mem_cons_self rfl
        simp only [beq_self_eq_true] at q
        cases e1 : cells.lookup x with
        | none => rw [e1] at hs; cases hs
        | some d => rw [e1] at q; exact q
      · have hb : (x == n) = false := by simpa using hx
        rw [hb] at q
        exact h q
    · have hb : (k == NameKind.free) = false := by simpa using hk
      (simp only [hb, Bool.false_eq_true, if_false])
      exact h
theorem clos_keep {cells : List (Str × Addr)} {x : Str} : ∀ {ns : List (Str × NameKind)} {cs : List (Str × Addr)}, (cs.lookup x).isSome = true → ((clos cells ns cs).lookup x).isSome = true
  | [], _, h => h
  | (n, k) :: r, cs, h => by
    refine clos_keep (ns := r) ?_
    split
    · rw [List.lookup_cons]
      split
      · rfl
      · exact h
    · exact h
theorem clos_has {cells : List (Str × Addr)} {x : Str} : ∀ {ns : List (Str × NameKind)} {cs : List (Str × Addr)}, (x, NameKind.free) ∈ ns → ((clos cells ns cs).lookup x).isSome = true
  | [], _, h => nomatch h
  | (n, k) :: r, cs, h => by
    rcases List.mem_cons.mp h with e | e
    · cases e
      refine clos_keep (ns := r) ?_
      simp
    · exact clos_has (ns := r) e
theorem relab_free {env : Env} {x : Str} {k : NameKind} : ∀ {ns : List (Str × NameKind)}, (∀ y ∈ ns, y.2 ≠ NameKind.cell) → k = NameKind.cell ∨ k = NameKind.free →
    (ns.map fun (p : Str × NameKind) => if (p.2 == NameKind.free && env.scope.kind == .function && env.kindOf p.1 == some .cell) then (p.1, NameKind.cell) else (p.1, p.2)).lookup x = some k → (x, NameKind.free) ∈ ns
  | [], _, _, e => by simp at e
  | (n, j) :: r, hn, hk, e => by
    rw [List.map_cons] at e
    by_cases hx : x = n
    · subst hx
      have hj : j = NameKind.free := by
        by_cases hc : (j == NameKind.free && env.scope.kind == .function && env.kindOf x == some .cell) = true
        · simp only [Bool.and_eq_true, beq_iff_eq] at hc
          exact hc.1.1
        · simp only [hc] at e
          simp at e
          subst e
          rcases hk with q | q
          · exact absurd q (hn (x, j) List.mem_cons_self)
          · exact q
      subst hj
      exact List.mem_cons_self
    · refine List.mem_cons_of_mem _ (relab_free (env := env) (fun y hy => hn y (List.mem_cons_of_mem _ hy)) hk ?_)
      by_cases hc : (j == NameKind.free && env.scope.kind == .function && env.kindOf n == some .cell) = true
      · simp only [hc, if_true] at e
        rw [List.lookup_cons] at e
        have hb : (x == n) = false := by simpa using hx
        rw [hb] at e
        exact e
      · simp only [hc] at e
        simp at e
        rw [List.lookup_cons] at e
        have hb : (x == n) = false := by simpa using hx
        rw [hb] at e
        simpa using e
noncomputable def lcCx (X : Cx) (N : List Str) (scope : Scope) (C : Addr) (s : Shared) (H : Hp) (fp : List Addr) : Cx where
  prog := X.prog
  w := X.w
  K := X.K
  mg := X.mg
  base := X.base
  A := X.A
  N := N
  s₀ := s
  H₀ := H
  env := compEnvC scope (clos X.env.cells scope.names []) C X.env
  outer := X.stack
  stack := X.stack
  ex := fp
  fn := fun _ => false
  calm := X.calm
  pn := []
  xe := fun _ _ => False
noncomputable def caps (n : Nat) (js : List Nat) (σ : St) : St := List.replicate n none ++ js.map fun j => (σ[j]?).getD none
structure LcOk (X : Cx) (N : List Str) (sc scope : Scope) (own : List Str) (fr : List Str) (js : List Nat) : Prop where
  around : X.env.scope = sc
  names : N = own ++ fr
  kind : scope.kind = .function
  okind : sc.kind = .function
  nocell : ∀ y ∈ scope.names, y.2 ≠ NameKind.cell
  free : ∀ y ∈ scope.names, y.2 = NameKind.free → sc.names.lookup y.1 = some NameKind.cell
  loc : ∀ y ∈ scope.names, y.2 = NameKind.local → scope.names.lookup y.1 = some NameKind.local
  at' : js.map (fun j => X.N[j]?) = fr.map some
  cap : ∀ x ∈ fr, sc.names.lookup x = some NameKind.cell ∧ scope.names.lookup x = some NameKind.free
theorem relab_cell {env : Env} {x : Str} (hk : env.scope.kind = .function) (hx : env.kindOf x = some NameKind.cell) : ∀ {ns : List (Str × NameKind)}, ns.lookup x = some NameKind.free →
    (ns.map fun (p : Str × NameKind) => if (p.2 == NameKind.free && env.scope.kind == .function && env.kindOf p.1 == some .cell) then (p.1, NameKind.cell) else (p.1, p.2)).lookup x = some NameKind.cell
  | [], e => by simp at e
  | (n, j) :: r, e => by
    rw [List.map_cons]
    rw [List.lookup_cons] at e
    by_cases hn : x = n
    · subst hn
      simp only [beq_self_eq_true] at e
      cases e
      have hc : (NameKind.free == NameKind.free && env.scope.kind == .function && env.kindOf x == some .cell) = true := by rw [hk, hx]; rfl
      simp only [hc, if_true]
      rw [List.lookup_cons]
      simp
    · have hb : (x == n) = false := by simpa using hn
      rw [hb] at e
      have ih := relab_cell hk hx (ns := r) e
      by_cases hc : (j == NameKind.free && env.scope.kind == .function && env.kindOf n == some .cell) = true
      · simp only [hc, if_true]
        rw [List.lookup_cons, hb]
        exact ih
      · rw [if_neg hc, List.lookup_cons, hb]
        exact ih
theorem LcOk.cellAt {X : Cx} {N : List Str} {sc scope : Scope} {own fr : List Str} {js : List Nat} (L : LcOk X N sc scope own fr js) (ok : X.Ok) : ∀ y ∈ scope.names, y.2 = NameKind.free → (X.env.cells.lookup y.1).isSome = true := fun y hy hf => by
  obtain ⟨c, e⟩ := ok.has y.1 (.inl (show X.env.scope.names.lookup y.1 = _ by rw [L.around]; exact L.free y hy hf))
  rw [e]
  rfl
theorem LcOk.sub {X : Cx} {N : List Str} {sc scope : Scope} {own fr : List Str} {js : List Nat} (L : LcOk X N sc scope own fr js) (ok : X.Ok) {x : Str} {c : Addr} (e : (clos X.env.cells scope.names []).lookup x = some c) : X.env.cells.lookup x = some c :=
  clos_sub (L.cellAt ok) (fun z => by simp at z) e
theorem LcOk.len {X : Cx} {N : List Str} {sc scope : Scope} {own fr : List Str} {js : List Nat} (L : LcOk X N sc scope own fr js) : js.length = fr.length := by
  have := congrArg List.length L.at'
  simpa using this
theorem lc_ctx {X : Cx} {N : List Str} {sc scope : Scope} {own fr : List Str} {js : List Nat} {pins : List (Addr × Obj)} {σ : St} {H : Hp} {s : Shared} {fp : List Addr} (L : LcOk X N sc scope own fr js) (I : Inv X pins σ H s) (hf : ∀ b ∈ fp, FpOk X pins H b)
    (ho : ∀ b ∈ fp, b < s.heap.objs.size) {C : Addr} (hC : s.heap.objs.size ≤ C) : (lcCx X N scope C s H fp).Ok where
  mod := I.mod
  kind := L.kind
  glob := I.ok.glob
  blt := I.ok.blt
  above := hC
  inj := fun x y c e1 e2 => I.ok.inj x y c (L.sub I.ok e1) (L.sub I.ok e2)
  has := fun x hx => by
    have hm : (x, NameKind.free) ∈ scope.names := by
      rcases hx with q | q
      · exact relab_free L.nocell (.inl rfl) q
      · exact relab_free L.nocell (.inr rfl) q
    have := clos_has (cells := X.env.cells) (cs := []) hm
    cases e : (clos X.env.cells scope.names []).lookup x with
    | none => rw [e] at this; cases this
    | some c => exact ⟨c, e⟩
  cab := fun _ _ z _ => nomatch z
  hd := I.ok.hd
  frames := I.ok.frames
  stk := .inl rfl
  exf := fun b hb => ⟨Nat.ne_of_lt (Nat.lt_of_lt_of_le (ho b hb) hC), fun x c e => (hf b hb).2.2.2.2.1 x c (L.sub I.ok e)⟩
  bs := I.bs
  bsz := Nat.le_trans I.ok.bsz I.sz
  noex := fun b o e hb => by
    rcases (hf b hb).2.2.2.1 with q | q
    · exact I.ok.noex b o e q
    · exact absurd (Nat.lt_of_lt_of_le (Heap.lt_size (I.ok.bs b o e).1) q) (Nat.lt_irrefl _)
  exfs := fun b hb hs => by
    rcases List.mem_cons.mp (I.stkSub b hs) with q | q
    · exact (hf b hb).2.1 q
    · exact (hf b hb).2.2.1 q
  funs := I.stack
  frf := I.stkFree
theorem getD_none {o : Option (Option V)} {v : V} (h : o.getD none = some v) : o = some (some v) := by
  cases o with
  | none => cases h
  | some u => cases u with
    | none => cases h
    | some w => cases h; rfl
theorem caps_get {n : Nat} {js : List Nat} {σ : St} {i : Nat} {v : V} (e : (caps n js σ)[i]? = some (some v)) : ∃ k j, i = n + k ∧ js[k]? = some j ∧ σ[j]? = some (some v) := by
  unfold caps at e
  by_cases hi : i < n
  · rw [List.getElem?_append_left (by simpa using hi)] at e
    rw [List.getElem?_replicate] at e
    split at e <;> cases e
  · rw [List.getElem?_append_right (by simpa using hi)] at e
    simp only [List.length_replicate, List.getElem?_map] at e
    cases q : js[i - n]? with
    | none => rw [q] at e; cases e
    | some j =>
      rw [q] at e
      exact ⟨i - n, j, by lia, q, getD_none (Option.some.inj e)⟩
theorem lc_start {X : Cx} {N : List Str} {sc scope : Scope} {own fr : List Str} {js : List Nat} {pins : List (Addr × Obj)} {σ : St} {H : Hp} {s : Shared} {fp : List Addr} (L : LcOk X N sc scope own fr js) (I : Inv X pins σ H s) (hf : ∀ b ∈ fp, FpOk X pins H b)
    (ho : ∀ b ∈ fp, b < s.heap.objs.size) {h' : Heap} {m : Str → Option Value} {tk : Nat} (hn : h'.Ns (s.heap.objs.size + 1) m) (hk : ∀ b o, s.heap.get? b = some o → h'.get? b = some o)
    (hl : h'.get? s.heap.objs.size = some { cls := .type "list", data := .seq ([] : List Value).toArray }) :
    Inv (lcCx X N scope (s.heap.objs.size + 1) s H fp) [] (caps own.length js σ) (upd H s.heap.objs.size (.lst [])) { s with heap := h', toks := tk } := by
  have fresh : ∀ a, s.heap.objs.size ≤ a → H a = none := fun a ha => I.hok.fresh ha
  have cellAt : ∀ x c, (clos X.env.cells scope.names []).lookup x = some c → ∃ v, s.heap.IsCell c v := fun x c e => I.cell x c (L.sub I.ok e)
  refine ⟨lc_ctx L I hf ho (Nat.le_succ _), rfl, I.bare, Un.laid hk (Nat.le_refl _) (fresh _ (Nat.le_refl _)), ⟨m, hn, fun i x v e1 e2 e3 => ?_⟩, fun x c e => ?_, ?_, fun x c e => ?_, fun p hp => ?_, I.hok.laid hk (Nat.le_refl _) ?_, ?_⟩
  · obtain ⟨k, j, rfl, hj, hv⟩ := caps_get e2
    have hN : (own ++ fr)[own.length + k]? = some x := by
      have e1' : N[own.length + k]? = some x := e1
      rw [L.names] at e1'
      exact e1'
    rw [List.getElem?_append_right (by lia), Nat.add_sub_cancel_left] at hN
    have hx : x ∈ fr := List.mem_of_getElem? hN
    have hjx : X.N[j]? = some x := by
      have := congrArg (fun l => l[k]?) L.at'
      simp only [List.getElem?_map, hj, hN, Option.map_some] at this
      exact Option.some.inj this
    obtain ⟨kc', kr'⟩ := L.cap x hx
    have kc : X.env.kindOf x = some NameKind.cell := by show X.env.scope.names.lookup x = _; rw [L.around]; exact kc'
    have kr : (relabel scope X.env).names.lookup x = some NameKind.cell := relab_cell (by rw [L.around]; exact L.okind) kc kr'
    obtain ⟨m0, _, hl0⟩ := I.loc
    obtain ⟨u, r, l⟩ := hl0 j x v hjx hv (.inr (.inl kc))
    refine ⟨u, r, .inr ⟨.inl kr, ?_⟩⟩
    rcases l with ⟨kk, _⟩ | ⟨_, c, hc, z⟩
    · rw [kc] at kk; cases kk
    · have hs : ((clos X.env.cells scope.names []).lookup x).isSome = true := clos_has (relab_free L.nocell (.inl rfl) kr)
      cases e : (clos X.env.cells scope.names []).lookup x with
      | none => rw [e] at hs; cases hs
      | some d =>
        have ed := L.sub I.ok e
        rw [hc] at ed
        cases ed
        obtain ⟨o, ho', hd⟩ := z
        exact ⟨c, e, o, hk c o ho', hd⟩
  · obtain ⟨v, o, ho', hd⟩ := cellAt x c e
    exact ⟨v, o, hk c o ho', hd⟩
  · show upd H s.heap.objs.size _ (s.heap.objs.size + 1) = none
    rw [upd_ne (Nat.succ_ne_self _)]
    exact fresh _ (Nat.le_succ _)
  · obtain ⟨v, o, ho', hd⟩ := cellAt x c e
    rw [upd_ne (Nat.ne_of_lt (Heap.lt_size ho'))]
    exact I.freeC x c (L.sub I.ok e)
  · exact nomatch hp
  · exact ⟨Nat.zero_le _, [], 0, .nil, hl⟩
  · show (caps own.length js σ).length = N.length
    rw [L.names]
    simp [caps, L.len]
noncomputable def PIf (X : Cx) (ifs : List Expr) (t : TT) : Prop :=
  ∀ (pins : List (Addr × Obj)) (s : Shared) (σ : St) (H : Hp) (Q : Bool → Hp → Prop), Inv X pins σ H s → t σ H Q →
    wpAny (model X.prog X.w) X.A (forIn ifs true fun c r => if r = true then do let ok ← isTrue c X.env (eval c X.env); pure (ForInStep.yield ok) else pure (ForInStep.yield r)) (TP X pins σ Q) X.xe s
noncomputable def tYes : TT := fun _ H Q => Q true H
theorem pif_nil {X : Cx} : PIf X [] tYes := fun _ _ _ H _ I h => wpAny_tests_nil ⟨H, I, h⟩
theorem pif_one {X : Cx} {c : Expr} {t : TT} (h : PT X c t) : PIf X [c] t := fun pins s σ H Q I q => wpAny_tests_one (h pins s σ H Q I q)
theorem lc_loop {prog : Program} {w : World} {A : Around} {R : Result → Shared → Prop} {s : Shared} {elt tg iter : Expr} {ifs : List Expr} {scope : Scope} {pos : Pos} {it acc : Value} {env : Env} (J : Nat → Shared → Prop)
    (turn : ∀ n s, J n s → wpAny (model prog w) A (pyNext it) (fun r s1 => match r with
      | none => R (.ok .next) s1
      | some v => wpAny (model prog w) A (letOwnedTupleGo tg it v) (fun _ s2 => wpAny (model prog w) A (assign tg env v) (fun _ s3 =>
          wpAny (model prog w) A (forIn ifs true fun c r => if r = true then do let ok ← isTrue c env (eval c env); pure (ForInStep.yield ok) else pure (ForInStep.yield r)) (fun ok s4 =>
            if ok = true then wpAny (model prog w) A (eval elt env) (fun x s5 => wpAny (model prog w) A (call (.builtin "list.append") [acc, x]) (fun _ s6 => ∃ m, m < n ∧ J m s6) (fun _ _ => False) s5) (fun _ _ => False) s4
            else ∃ m, m < n ∧ J m s4) (fun _ _ => False) s3) (fun _ _ => False) s2) (fun _ _ => False) s1) (fun _ _ => False) s)
    (n : Nat) (h : J n s) : codeAny (model prog w) A (.compLoop (.ListComp elt [⟨tg, iter, ifs, 0⟩] scope pos) 0 it acc env) R s := by
  refine codeAny_loop rfl J (fun n s hJ => ?_) n h
  show wpAny _ A ((compTurn (.ListComp elt [⟨tg, iter, ifs, 0⟩] scope pos) 0 it acc env).onRaise (fun x => do noteFrame x env; theTreesLotGoes x)) _ _ s
  refine wpAny_noted ?_
  rw [compTurn_list]
  refine wpAny_bind (wpAny_standAt (wpAny_bind (wpAny_mono (turn n s hJ) (fun r s1 h1 => ?_) fun _ _ f => f.elim)))
  cases r with
  | none => exact wpAny_pure h1
  | some v =>
    refine wpAny_bind (wpAny_mono h1 (fun _ s2 h2 => wpAny_bind (wpAny_mono h2 (fun _ s3 h3 => wpAny_bind (wpAny_mono h3 (fun ok s4 h4 => ?_) fun _ _ f => f.elim)) fun _ _ f => f.elim)) fun _ _ f => f.elim)
    cases ok with
    | false => exact wpAny_pure ⟨rfl, h4⟩
    | true =>
      exact wpAny_bind (wpAny_bind (wpAny_mono h4 (fun x s5 h5 => wpAny_bind (wpAny_mono h5 (fun _ s6 h6 => wpAny_pure (wpAny_pure ⟨rfl, h6⟩)) fun _ _ f => f.elim)) fun _ _ f => f.elim))
noncomputable def tLcB (J : It) (D : Addr) (σ0 : St) (g : TG) (tc : TT) (te : TE) (fin : Hp → Prop) (W : Nat → Nat → List V → Hp → Prop) : Prop :=
  ∀ i m ys H, W i m ys H → (J.stop i H ∧ fin H) ∨ (J.go i H ∧ ∃ N : List V → Hp → Prop, (∀ ys' H', N ys' H' → ∃ m', m' < m ∧ W (i + 1) m' ys' H') ∧
    ∀ x H1, J.yld i H x H1 → g x σ0 H1 fun σ2 H2 => (σ2.length = σ0.length ∧ ∀ (i : Nat) v, σ0[i]? = some (some v) → σ2[i]? = some (some v)) ∧
      tc σ2 H2 fun b H3 => if b = true then te σ2 H3 fun y H4 => ∃ zs, H4 D = some (.lst zs) ∧ zs.length < sizeLine ∧ N (zs ++ [y]) (upd H4 D (.lst (zs ++ [y]))) else N ys H3)
theorem lc_block {X : Cx} {N : List Str} {sc scope : Scope} {own fr : List Str} {js : List Nat} {pins : List (Addr × Obj)} {σ : St} {H : Hp} {s : Shared} {fp : List Addr} {tg iter elt : Expr} {ifs : List Expr} {pos : Pos} {J : It} {it : Addr} {tn : Nat → Heap → Prop}
    {g : TG} {tc : TT} {te : TE} {RR : Value → Addr → Result → Shared → Prop} {E : Value → Shared → Prop} {fin : Addr → Hp → Prop}
    (L : LcOk X N sc scope own fr js) (hc : X.calm = true) (I : Inv X pins σ H s) (T : Turn X.prog X.w X.K tg J fp it tn) (st : tn 0 s.heap) (hf : ∀ b ∈ fp, FpOk X pins H b)
    (hg : ∀ C s H fp, PG (lcCx X N scope C s H fp) tg g) (hi : ∀ C s H fp, PIf (lcCx X N scope C s H fp) ifs tc) (he : ∀ C s H fp, PE (lcCx X N scope C s H fp) elt te)
    (h : ∀ D, H D = none → ∃ W : Nat → Nat → List V → Hp → Prop, (∃ m, W 0 m [] (upd H D (.lst []))) ∧ tLcB J D (caps own.length js σ) g tc te (fin D) W)
    (hRR : ∀ D C s' H', (∃ m, s'.heap.Ns C m) → Inv X pins σ H' s' → FpOk X pins H' C → fin D H' → RR (.ref D) C (.ok .next) s') :
    wpAny (model X.prog X.w) X.A (newList []) (fun acc s3 => wpAny (model X.prog X.w) X.A (newFunctionEnv scope X.env.globals (clos X.env.cells scope.names []) [] X.env.qual none .none (some X.env)) (fun cenv s4 =>
      codeAny (model X.prog X.w) X.A (.compStart (.ListComp elt [⟨tg, iter, ifs, 0⟩] scope pos) 0 (.ref it) acc { cenv with scope := relabel scope X.env }) (RR acc cenv.locals) s4) E s3) E s := by
  have hlt : ∀ b ∈ fp, b < s.heap.objs.size := fun b hb => by
    obtain ⟨o, e, _⟩ := T.obj 0 _ st b hb
    exact Heap.lt_size e
  refine wpAny_newObj_type (wpAny_newFunctionEnv L.nocell (fun _ z => nomatch z) (fun h1 n1 b1 => ?_) L.kind)
  dsimp only at n1 b1 ⊢
  have hsz : (s.heap.push { cls := .type "list", dict := none, data := .seq ([] : List Value).toArray }).objs.size = s.heap.objs.size + 1 := Heap.size_push ..
  rw [hsz] at n1 b1
  rw [hsz]
  have kept : ∀ b o, s.heap.get? b = some o → h1.get? b = some o := fun b o e => b1.extBut b o (Nat.ne_of_lt (Nat.lt_succ_of_lt (Heap.lt_size e))) (Heap.get?_push_of_some _ (Heap.get?_push_of_some _ e))
  have isl : h1.get? s.heap.objs.size = some { cls := .type "list", data := .seq ([] : List Value).toArray } := b1.extBut _ _ (Nat.ne_of_lt (Nat.lt_succ_self _)) (Heap.get?_push_of_some _ (Heap.get?_push_size _ rfl))
  have IY := lc_start (tk := s.toks + ([] : List (Str × Value)).length) L I hf hlt n1 kept isl
  have fresh : H s.heap.objs.size = none := I.hok.fresh (Nat.le_refl _)
  obtain ⟨W, ⟨m0, w0⟩, turn⟩ := h s.heap.objs.size fresh
  -- the iterator's records through the loop
  have stat : ∀ {H' : Hp}, (∀ b ∈ fp, H' b = none) → ∀ b ∈ fp, FpOk (lcCx X N scope (s.heap.objs.size + 1) s H fp) [] H' b := fun hn b hb =>
    ⟨hn b hb, Nat.ne_of_lt (Nat.lt_succ_of_lt (hlt b hb)), fun z => by
      rcases List.mem_cons.mp (I.stkSub b z) with q | q
      · exact (hf b hb).2.1 q
      · exact (hf b hb).2.2.1 q, .inl hb, fun x c e => (hf b hb).2.2.2.2.1 x c (L.sub I.ok e), fun _ z => nomatch z⟩
  have st1 : tn 0 h1 := T.keep 0 _ _ st fun b _ o e => kept b o e
  have loop : ∀ s2 : Shared, s2 = { s with heap := h1, toks := s.toks + ([] : List (Str × Value)).length } →
      codeAny (model X.prog X.w) X.A (.compLoop (.ListComp elt [⟨tg, iter, ifs, 0⟩] scope pos) 0 (.ref it) (.ref s.heap.objs.size) (lcCx X N scope (s.heap.objs.size + 1) s H fp).env) (RR (.ref s.heap.objs.size) (s.heap.objs.size + 1)) s2 := by
    rintro s2 rfl
    refine lc_loop (fun n s' => ∃ i ys H', Inv (lcCx X N scope (s.heap.objs.size + 1) s H fp) [] (caps own.length js σ) H' s' ∧ tn i s'.heap ∧ (∀ b ∈ fp, H' b = none) ∧ W i n ys H') ?_ m0
      ⟨0, [], _, IY, st1, fun b hb => by rw [upd_ne (Nat.ne_of_lt (hlt b hb))]; exact (hf b hb).1, w0⟩
    rintro n s3 ⟨i, ys, H3, I3, st3, fr3, w3⟩
    rcases turn i n ys H3 w3 with ⟨stop, qn⟩ | ⟨go, Nx, hN, step⟩
    · refine thn (T.done (lcCx X N scope (s.heap.objs.size + 1) s H fp) rfl rfl rfl hc i [] s3 _ H3 _ I3 (stat fr3) st3 stop) fun r s4 ⟨hr, I4⟩ => ?_
      subst hr
      have IX : Inv X pins σ H3 s4 := I.call' (ch := fp) I4.os I4.base I4.hok I4.bare fun b hb => ⟨(hf b hb).2.2.2.1, (hf b hb).2.1, (hf b hb).2.2.2.2.1, (hf b hb).2.2.2.2.2⟩
      obtain ⟨m, hm, _⟩ := I4.loc
      exact hRR _ _ s4 H3 ⟨m, hm⟩ IX (I.fpOk (Nat.le_succ _) I4.free) qn
    · refine thn (T.item (lcCx X N scope (s.heap.objs.size + 1) s H fp) rfl rfl rfl hc i [] s3 _ H3 _ I3 (stat fr3) st3 go) fun r s4 ⟨u, hr, h4⟩ => ?_
      subst hr
      refine thn h4 fun _ s5 ⟨x, H5, I5, r5, y5, st5, fr5⟩ => ?_
      have I5' := I5.pinned (stat fr5) (T.obj _ _ st5)
      refine thn (hg _ _ _ _ _ s5 _ H5 x u _ I5' r5 (step x H5 y5)) fun _ s6 ⟨σ6, H6, I6, ⟨hl6, hs6⟩, q6⟩ => ?_
      have next : ∀ {s7 : Shared} {H7 : Hp} {zs : List V}, Inv (lcCx X N scope (s.heap.objs.size + 1) s H fp) ([] ++ pinsAt fp s5.heap) σ6 H7 s7 → Nx zs H7 →
          ∃ m, m < n ∧ ∃ i ys H', Inv (lcCx X N scope (s.heap.objs.size + 1) s H fp) [] (caps own.length js σ) H' s7 ∧ tn i s7.heap ∧ (∀ b ∈ fp, H' b = none) ∧ W i m ys H' := fun {s7 H7 zs} I7 n7 => by
        obtain ⟨m', hm, w7⟩ := hN zs H7 n7
        refine ⟨m', hm, i + 1, zs, H7, I7.unpinned.weak hl6.symm hs6, T.keep _ _ _ st5 fun b hb o e => (I7.pin (b, o) (List.mem_append_right _ (List.mem_append_right _ (mem_pinsAt hb e)))).1, fun b hb => ?_, w7⟩
        obtain ⟨o, e, d⟩ := T.obj _ _ st5 b hb
        exact (I7.pin (b, o) (List.mem_append_right _ (List.mem_append_right _ (mem_pinsAt hb e)))).2.1
      refine thn (hi _ _ _ _ _ s6 σ6 H6 _ I6 q6) fun ok s7 ⟨H7, I7, q7⟩ => ?_
      cases ok with
      | false =>
        rw [if_neg Bool.false_ne_true] at q7
        exact next I7 q7
      | true =>
        rw [if_pos rfl] at q7
        rw [if_pos rfl]
        refine thn (he _ _ _ _ _ s7 σ6 H7 _ I7 q7) fun y s8 ⟨v8, H8, I8, r8, zs, hz, hzl, q8⟩ => ?_
        refine thn (mt_append _ s8 σ6 H8 (.ref s.heap.objs.size) [v8] _ [y] (fun _ H9 => Nx (zs ++ [v8]) H9) I8 rfl (.cons r8 .nil) ⟨_, zs, v8, rfl, rfl, hz, hzl, q8⟩) fun _ s9 ⟨_, H9, I9, _, q9⟩ => ?_
        exact next I9 q9
  exact codeAny_compStart_list (loop _ rfl) (T.self X.A 0 _ _ _ st1 (loop _ rfl))
noncomputable def tLc (wi : TI) (n : Nat) (js : List Nat) (g : TG) (tc : TT) (te : TE) : TE := fun σ H Q => wi σ H fun J H1 => ∀ D, H1 D = none →
  ∃ W : Nat → Nat → List V → Hp → Prop, (∃ m, W 0 m [] (upd H1 D (.lst []))) ∧ tLcB J D (caps n js σ) g tc te (fun H2 => Q (.ref D) H2) W
theorem pe_lc {X : Cx} {N : List Str} {sc scope : Scope} {own fr : List Str} {js : List Nat} {tg iter elt : Expr} {ifs : List Expr} {pos : Pos} {wi : TI} {g : TG} {tc : TT} {te : TE}
    (L : LcOk X N sc scope own fr js) (hc : X.calm = true) (hI : PI X tg iter wi)
    (hg : ∀ C s H fp, PG (lcCx X N scope C s H fp) tg g) (hi : ∀ C s H fp, PIf (lcCx X N scope C s H fp) ifs tc) (he : ∀ C s H fp, PE (lcCx X N scope C s H fp) elt te)
    (hs : ∀ x, foldedSetIterable iter X.env x = pure x := by intro _; rfl) : PE X (.ListComp elt [⟨tg, iter, ifs, 0⟩] scope pos) (tLc wi own.length js g tc te) := by
  intro pins s σ H Q I h
  rw [eval_ListComp]
  refine wpAny_comprehension_free (use := none) rfl hs (closureFor_is (L.cellAt I.ok)) L.kind L.loc ?_
  refine thn (hI pins s σ H _ I h) fun v s1 h1 => thn h1 fun itv s2 h2 => ?_
  obtain ⟨it, fp, tn, J, H2, e, I2, T, st, f2, q⟩ := h2
  subst e
  refine lc_block (RR := fun acc C => compPost (model X.prog X.w) X.A X.xe none (EP X pins σ Q) acc C) (fin := fun D H' => Q (.ref D) H') L hc I2 T st f2 hg hi he q ?_
  intro D C s' H' hm IX fC q'
  obtain ⟨m, hm⟩ := hm
  obtain ⟨f0, f1, _, f3, f4, f5⟩ := fC
  exact ⟨m, hm, fun h' sb => ⟨.ref D, H', IX.turned (t' := s'.toks) (fun b o hb e => (sb.2 b hb).trans e) f0 f1 f3 f4 f5, rfl, q'⟩⟩
noncomputable def tLcS (i : Nat) (wi : TI) (n : Nat) (js : List Nat) (g : TG) (tc : TT) (te : TE) : TS := fun E σ H => wi σ H fun J H1 => ∀ D, H1 D = none →
  ∃ W : Nat → Nat → List V → Hp → Prop, (∃ m, W 0 m [] (upd H1 D (.lst []))) ∧ tLcB J D (caps n js σ) g tc te (fun H2 => E.nx (σ.set i (some (.ref D))) H2) W
theorem ps_lc {X : Cx} {N : List Str} {sc scope : Scope} {own fr : List Str} {js : List Nat} {tg iter elt : Expr} {ifs : List Expr} {pos spos py : Pos} {wi : TI} {g : TG} {tc : TT} {te : TE} {i : Nat} {y : Str}
    (hN : X.N.Nodup) (hy : X.N[i]? = some y) (hl : X.env.scope.names.lookup y = some .local)
    (L : LcOk X N sc scope own fr js) (hc : X.calm = true) (hI : PI X tg iter wi)
    (hg : ∀ C s H fp, PG (lcCx X N scope C s H fp) tg g) (hi : ∀ C s H fp, PIf (lcCx X N scope C s H fp) ifs tc) (he : ∀ C s H fp, PE (lcCx X N scope C s H fp) elt te)
    (hw : swapsWith (.ListComp elt [⟨tg, iter, ifs, 0⟩] scope pos) (some (.Name y py)) spos.line X.env = pure true := by rfl)
    (hs : ∀ x, foldedSetIterable iter X.env x = pure x := by intro _; rfl) : PS X (.Assign [.Name y py] (.ListComp elt [⟨tg, iter, ifs, 0⟩] scope pos) spos) (tLcS i wi own.length js g tc te) := by
  intro pins s σ H E I h
  rw [exec_Assign_Name_used _ _ _ _ hw]
  (refine wpAny_bind (wpAny_standAt (wpAny_bind ?_)))
  show wpAny _ X.A (do let _ ← comprehension (.ListComp elt [⟨tg, iter, ifs, 0⟩] scope pos) scope X.env _ (newList []) false (eval iter X.env) (some (assign (.Name y py) X.env))) _ _ s
  refine wpAny_bind (wpAny_mono (wpAny_comprehension_free (use := some (assign (.Name y py) X.env)) (Q := fun _ s' => SP X pins E .next s') rfl hs (closureFor_is (L.cellAt I.ok)) L.kind L.loc ?_) (fun _ s' q => wpAny_pure (wpAny_pure q)) fun _ _ e => e)
  refine thn (hI pins s σ H _ I h) fun v s1 h1 => thn h1 fun itv s2 h2 => ?_
  obtain ⟨it, fp, tn, J, H2, e, I2, T, st, f2, q⟩ := h2
  subst e
  refine lc_block (RR := fun acc C => compPost (model X.prog X.w) X.A X.xe (some (assign (.Name y py) X.env)) (fun _ s' => SP X pins E .next s') acc C) (fin := fun D H' => E.nx (σ.set i (some (.ref D))) H') L hc I2 T st f2 hg hi he q ?_
  intro D C s' H' hm IX fC q'
  obtain ⟨m, hm⟩ := hm
  obtain ⟨f0, f1, _, f3, f4, f5⟩ := fC
  show wpAny _ X.A (assign (.Name y py) X.env (.ref D)) _ _ s'
  refine wpAny_assign_Name (store_ok2 IX hN hy (.inl hl) (v := .ref D) rfl (fun s3 I3 ha => ?_) (.inr hl))
  obtain ⟨a, sb, ha⟩ := ha
  have hCa : C ≠ a := by
    rcases ha with z | z
    · rw [z]; exact f1
    · exact fun q => f4 y a z q.symm
  refine ⟨m, hm.sameBut sb hCa, fun h' sb' => ⟨_, H', I3.turned (t' := s3.toks) (fun b o hb e => (sb'.2 b hb).trans e) f0 f1 f3 f4 f5, q'⟩⟩
end L2
namespace L2
open PySem PySem.Spec PyProof.Rows
section
variable {X : Cx}
theorem call_isi : CallR X (.builtin "isinstance") (fun xs H Q => ∃ i T, xs = [.int i, .ty T] ∧ ((T = "int" ∧ Q (.bl true) H) ∨ (T = "bool" ∧ Q (.bl false) H))) := by
  intro pins s σ H xs us Q I r h
  obtain ⟨i, T, rfl, h⟩ := h
  obtain ⟨u1, u2, rfl, ⟨t, rfl⟩, r2⟩ := vals2 r
  cases r2
  rcases h with ⟨rfl, q⟩ | ⟨rfl, q⟩
  · exact PySem.IsiPair.int_int ⟨.bl true, H, I, rfl, q⟩
  · exact PySem.IsiPair.int_bool ⟨.bl false, H, I.tok _, rfl, q⟩
end
mutual
inductive RdV (H : Hp) : V → PyData → Prop
  | non : RdV H .non .none
  | int (i : Int) : RdV H (.int i) (.int i)
  | str (x : Str) : RdV H (.str x) (.str x)
  | tup {a : Addr} {xs : List V} {ds : List PyData} : H a = some (.tup xs) → RdVs H xs ds → RdV H (.ref a) (.tuple ds)
inductive RdVs (H : Hp) : List V → List PyData → Prop
  | nil : RdVs H [] []
  | cons {x : V} {d : PyData} {xs : List V} {ds : List PyData} : RdV H x d → RdVs H xs ds → RdVs H (x :: xs) (d :: ds)
end
mutual
theorem RdV.reads {P : Program} {w : World} {H : Hp} {h : Heap} (ok : HOk P w H h) : ∀ {x : V} {d : PyData} {u : Value}, RdV H x d → RelV x u → ∃ as, Reads h u d as
  | _, _, _, .non, r => by cases r; exact ⟨_, .none⟩
  | _, _, _, .int i, r => by obtain ⟨t, rfl⟩ := r; exact ⟨_, .int i t⟩
  | _, _, _, .str x, r => by obtain ⟨t, rfl⟩ := r; exact ⟨_, .str x t⟩
  | _, _, _, .tup (a := a) e rs, r => by
    cases r
    obtain ⟨z, its, rv, o, ho, hc, n, hd⟩ := ok a _ e
    obtain ⟨as, ra⟩ := RdVs.reads ok rs rv
    exact ⟨as, .tuple ho hc hd (by simpa using ra)⟩
theorem RdVs.reads {P : Program} {w : World} {H : Hp} {h : Heap} (ok : HOk P w H h) : ∀ {xs : List V} {ds : List PyData} {us : List Value}, RdVs H xs ds → Vals xs us → ∃ as, ReadsAll h us ds as
  | _, _, _, .nil, r => by cases r; exact ⟨_, .nil⟩
  | _, _, _, .cons a b, r => by
    cases r with
    | cons r1 r2 =>
      obtain ⟨as, h1⟩ := RdV.reads ok a r1
      obtain ⟨bs, h2⟩ := RdVs.reads ok b r2
      exact ⟨_, .cons h1 h2⟩
end
end L2
namespace ZT
open PySem PyProof.Rows
end ZT
namespace L2
open PySem PySem.Spec PyProof.Rows
end L2
namespace L2
open PySem PySem.Spec PyProof.Rows
theorem Same.new {H : Hp} {l : Addr} {o : HO} (h : H l = none) : Same H (upd H l o) := fun b u e => by
  rw [upd_ne (ne_of_none e h)]
  exact e
theorem Same.put {H H' : Hp} {l : Addr} {o : HO} (s : Same H H') (h : H l = none) : Same H (upd H' l o) := fun b u e => by
  rw [upd_ne (ne_of_none e h)]
  exact s b u e
structure Df (K : PySem.W.Frag) (mg : Str → Option Value) (x : Str) (st : Stmt) (ps : List Str) (f : Addr) (fd : FuncData) : Prop where
  F : Fun K x x st f fd
  m : mg x = some (.ref f)
  b : Binds K fd ps []
theorem lcJ {J : It} {n : Nat} {D : Addr} {ρ : St} {tc : TT} {te : TE} {fin : Hp → Prop} {H0 : Hp} (Pv : Nat → List V → Hp → Prop) (h0 : Pv 0 [] (upd H0 D (.lst [])))
    (go : ∀ i ys H, i < n → Pv i ys H → J.go i H) (stop : ∀ ys H, Pv n ys H → J.stop n H)
    (hs : ∀ i ys H x H1, i < n → Pv i ys H → J.yld i H x H1 → tc (some x :: ρ) H1 fun b H3 => if b = true then te (some x :: ρ) H3 fun y H4 => ∃ zs, H4 D = some (.lst zs) ∧ zs.length < sizeLine ∧ Pv (i + 1) (zs ++ [y]) (upd H4 D (.lst (zs ++ [y]))) else Pv (i + 1) ys H3)
    (hd : ∀ ys H, Pv n ys H → fin H) : ∃ W : Nat → Nat → List V → Hp → Prop, (∃ m, W 0 m [] (upd H0 D (.lst []))) ∧ tLcB J D (none :: ρ) (gName 0) tc te fin W := by
  refine ⟨fun i m ys H => m = n - i ∧ i ≤ n ∧ Pv i ys H, ⟨n, rfl, Nat.zero_le _, h0⟩, ?_⟩
  rintro i m ys H ⟨rfl, hi, p⟩
  by_cases hlt : i < n
  · refine .inr ⟨go i ys H hlt p, Pv (i + 1), fun ys' H' p' => ⟨n - (i + 1), by lia, rfl, hlt, p'⟩, fun x H1 y => ⟨⟨rfl, fun j v e => ?_⟩, hs i ys H x H1 hlt p y⟩⟩
    cases j with
    | zero => cases e
    | succ j => exact e
  · have e : i = n := by lia
    subst e
    exact .inl ⟨stop ys H p, hd ys H p⟩
theorem lc_yes {σ : St} {H : Hp} {A B : Hp → Prop} (h : A H) : tYes σ H fun b H3 => if b = true then A H3 else B H3 := by
  show if true = true then A H else B H
  rw [if_pos rfl]
  exact h
theorem bt_int : bootBuiltins "int" = some (.type "int") := by decide +kernel
theorem bt_bool : bootBuiltins "bool" = some (.type "bool") := by decide +kernel
theorem bt_isi : bootBuiltins "isinstance" = some (.builtin "isinstance") := by decide +kernel
end L2
namespace Tx
open PySem L2 PyProof.Rows
open PySem.PyData (strOk)
end Tx
namespace Rk
open PySem
end Rk
namespace Rk
open PySem
end Rk
namespace Rk
open PySem PyProof.Rows L2 Tx
end Rk
namespace Rk
open PySem PySem.Spec PyProof.Rows L2 Tx
end Rk
namespace SK
open PySem PyProof.Rows
noncomputable def dd {κ : Type} [DecidableEq κ] (val : Nat → κ) : Nat → List κ
  | 0 => []
  | i + 1 => if val i ∈ dd val i then dd val i else dd val i ++ [val i]
section
variable {κ : Type} [DecidableEq κ] {val : Nat → κ}
theorem dd_le : ∀ i : Nat, (dd val i).length ≤ i
  | 0 => Nat.le_refl _
  | i + 1 => by
    have ih := dd_le i
    show (if val i ∈ dd val i then dd val i else dd val i ++ [val i]).length ≤ i + 1
    split
    · lia
    · rw [List.length_append]
      show (dd val i).length + 1 ≤ i + 1
      lia
theorem dd_step (i : Nat) (x : κ) : decide (x ∈ dd val (i + 1)) = (decide (x ∈ dd val i) || decide (x = val i)) := by
  show decide (x ∈ (if val i ∈ dd val i then dd val i else dd val i ++ [val i])) = _
  by_cases h : val i ∈ dd val i
  · rw [if_pos h]
    by_cases e : x = val i
    · subst e; simp [h]
    · simp [e]
  · rw [if_neg h]
    simp [List.mem_append]
theorem dd_size (i : Nat) : (dd val (i + 1)).length = if decide (val i ∈ dd val i) = true then (dd val i).length else (dd val i).length + 1 := by
  show (if val i ∈ dd val i then dd val i else dd val i ++ [val i]).length = _
  by_cases h : val i ∈ dd val i
  · rw [if_pos h, if_pos (decide_eq_true h)]
  · rw [if_neg h, if_neg (by simpa using h), List.length_append]
    rfl
end
end SK
namespace L2
open PySem PySem.Spec PyProof.Rows
section
variable {X : Cx}
noncomputable def kAt (ks : List Key) (i : Nat) : Key := ks.getD i (.inl 0)
end
end L2
namespace ZN
open PySem PyProof.Rows
end ZN
namespace ZN
open PySem PyProof.Rows
end ZN
namespace L2
open PySem PySem.Spec PyProof.Rows
end L2
namespace L2
open PySem PySem.Spec PyProof.Rows
theorem KV.get2 : ∀ {kvs : List (Key × V)} {vs : List (Key × Value)} {i : Nat} {k : Key} {v : V}, KV kvs vs → kvs[i]? = some (k, v) → ∃ u, vs[i]? = some (k, u) ∧ RelV v u
  | _, _, _, _, _, .nil, e => by simp at e
  | _, _, 0, _, _, .cons (b := p) r _, e => by
    simp at e
    subst e
    obtain ⟨e1, e2⟩ := r
    obtain ⟨p1, p2⟩ := p
    cases e1
    exact ⟨p2, rfl, e2⟩
  | _, _, i + 1, _, _, .cons _ t, e => by
    obtain ⟨v, h1, h2⟩ := KV.get2 (i := i) t (by simpa using e)
    exact ⟨v, by simpa using h1, h2⟩
section
variable {X : Cx}
theorem Inv.freeze {pins : List (Addr × Obj)} {σ : St} {H : Hp} {s : Shared} {a : Addr} {kvs : List (Key × V)} {o : Obj} (I : Inv X pins σ H s) (ha : H a = some (.dK kvs)) (ho : s.heap.get? a = some o) : Inv X pins σ (upd H a (.frz o (.dK kvs))) s := by
  have hne : ∀ b, H b = none → b ≠ a := fun b e z => by rw [z, ha] at e; cases e
  have keep : ∀ b u, H b = some u → u ≠ .dK kvs → upd H a (.frz o (.dK kvs)) b = some u := fun b u e d => by rw [upd_ne (ne_of e ha d)]; exact e
  have st : Inv X pins σ (upd H a (.frz o (.dK kvs))) { s with heap := s.heap, gens := s.gens, drawn := s.drawn, toks := s.toks } := by
    refine I.step (g' := s.gens) (t' := s.toks) (d' := s.drawn) (ch := []) (fun b hb => nomatch hb) (fun b o _ _ _ e _ => e) (fun b o _ _ _ e _ => ⟨o.slots, e⟩) (fun b o _ e n => by rw [upd_ne (hne b n)]; exact n) (fun b o _ e => ⟨o, e⟩)
      (fun b xs e => keep b _ e (by intro z; cases z)) (fun b o u e => keep b _ e (by intro z; cases z)) (fun b ps e => ⟨#[], by rw [keep b _ e (by intro z; cases z)]; simp⟩) (fun m hm => hm) (fun b u e => ?_) I.bare
    by_cases hb : b = a
    · subst hb
      rw [upd_same] at e
      cases e
      exact ⟨ho, I.hok _ _ ha⟩
    · rw [upd_ne hb] at e
      exact (I.hok b u e).stay (fun c v _ q => q) (fun c q => keep c _ q (by intro z; cases z)) fun c xs q => keep c _ q (by intro z; cases z)
  exact st
end
theorem dict_at {X : Cx} {pins : List (Addr × Obj)} {σ : St} {H : Hp} {s : Shared} {a : Addr} {o : Obj} {kvs : List (Key × V)} {es : Array DictEntry} {ep : Nat} (I : Inv X pins σ H s) (ha : H a = some (.frz o (.dK kvs))) (hd : o.data = .dict es ep) :
    ∃ vs, KV kvs vs ∧ s.heap.DictAt (mixKind X.prog X.w) a vs ep := by
  obtain ⟨ho, hz, hm, vs, hkv, o', es', ep', ho', ex, hd', r⟩ := I.hok a _ ha
  rw [ho] at ho'
  cases ho'
  rw [hd] at hd'
  cases hd'
  exact ⟨vs, hkv, o, es, ho, ex, hd, r⟩
theorem bt_list : bootBuiltins "list" = some (.type "list") := by decide +kernel
theorem bt_set : bootBuiltins "set" = some (.type "set") := by decide +kernel
end L2
namespace ZN
open PySem PyProof.Rows
end ZN
namespace L2
open PySem PySem.Spec PyProof.Rows
end L2
namespace ZN
open PySem PyProof.Rows
end ZN
namespace L2
open PySem PySem.Spec PyProof.Rows
section
variable {X : Cx}
theorem bt_sorted : bootBuiltins "sorted" = some (.builtin "sorted") := by decide +kernel
end
end L2
namespace L2
open PySem PySem.Spec PyProof.Rows
end L2
namespace L2
open PySem PySem.Spec PyProof.Rows PySem.W
end L2
namespace L2
open PySem PySem.Spec PyProof.Rows PySem.W
end L2
namespace L2
open PySem PySem.Spec PyProof.Rows PySem.W
section
variable {X : Cx}
theorem call_isiL : CallR X (.builtin "isinstance") (fun xs H Q => ∃ a ys, xs = [.ref a, .ty "list"] ∧ H a = some (.lst ys) ∧ Q (.bl true) H) := by
  intro pins s σ H xs us Q I r h
  obtain ⟨a, ys, rfl, ha, q⟩ := h
  obtain ⟨u1, u2, rfl, r1, r2⟩ := vals2 r
  cases r1
  cases r2
  obtain ⟨z2, its2, n2, r2, ho⟩ := I.hok a _ ha
  exact PySem.IsiPair.list_list ho rfl ⟨.bl true, H, I, rfl, q⟩
theorem call_isiB : CallR X (.builtin "isinstance") (fun xs H Q => ∃ b, xs = [.bl b, .ty "bool"] ∧ Q (.bl true) H) := by
  intro pins s σ H xs us Q I r h
  obtain ⟨b, rfl, q⟩ := h
  obtain ⟨u1, u2, rfl, r1, r2⟩ := vals2 r
  cases r1
  cases r2
  exact PySem.IsiPair.bool_bool ⟨.bl true, H, I, rfl, q⟩
end
end L2
namespace L2
open PySem PySem.Spec PyProof.Rows
end L2
namespace L2
open PySem PySem.Spec PyProof.Rows
section
variable {X : Cx}
theorem op_in_seqK (K : PySem.W.Frag) (h : X.K = K) : OpR X (compareOp .In) (rIn K false) := by
  subst h
  exact op_in_seq
theorem op_notIn_seqK (K : PySem.W.Frag) (h : X.K = K) : OpR X (compareOp .NotIn) (rIn K true) := by
  subst h
  exact op_notIn_seq
end
end L2
namespace L2
open PySem PySem.Spec PyProof.Rows
end L2
namespace SK
end SK
namespace L2
open PySem
end L2
namespace HT
open PySem PySem.Spec PyProof.Rows
end HT
namespace L2
open PySem PySem.Spec PyProof.Rows
section
variable {X : Cx}
theorem rd_listD {P : Program} {w : World} {H : Hp} {h : Heap} (ok : HOk P w H h) {a : Addr} {us : List V} {ds : List PyData} (e : H a = some (.lst us)) (r : RdVs H us ds) : ∃ as, Reads h (.ref a) (.list ds) as := by
  obtain ⟨z, its, n, rv, ho⟩ := ok a _ e
  obtain ⟨as, ra⟩ := RdVs.reads ok r rv
  exact ⟨_, .list ho rfl rfl (by simpa using ra)⟩
end
end L2
namespace ZT
open PySem PyProof.Rows
end ZT
namespace F17
open PySem
end F17
namespace L2
open PySem PySem.Spec PyProof.Rows
end L2
namespace SG
open PySem
noncomputable def Rs (xs : Array Nat) : Prop := ∀ (i j : Nat) (a b : Nat), i < j → xs[i]? = some a → xs[j]? = some b → a < b
theorem search {xs : Array Nat} (r : Rs xs) (v : Nat) : ∀ (f lo hi : Nat), hi - lo ≤ f → lo ≤ hi → hi ≤ xs.size → (∀ (i a : Nat), i < lo → xs[i]? = some a → a < v) → (∀ (i a : Nat), hi ≤ i → xs[i]? = some a → v ≤ a) →
    SetTable.below.go xs v f lo hi ≤ xs.size ∧ (∀ (i a : Nat), i < SetTable.below.go xs v f lo hi → xs[i]? = some a → a < v) ∧ (∀ (i a : Nat), SetTable.below.go xs v f lo hi ≤ i → xs[i]? = some a → v ≤ a) := by
  intro f
  induction f with
  | zero =>
    intro lo hi h1 h2 h3 l u
    have e : lo = hi := by lia
    subst e
    exact ⟨h3, l, u⟩
  | succ f ih =>
    intro lo hi h1 h2 h3 l u
    unfold SetTable.below.go
    split
    · rename_i lt
      have hm : (lo + hi) / 2 < xs.size := by lia
      have eg : xs.getD ((lo + hi) / 2) v = xs[(lo + hi) / 2] := by simp [Array.getD, hm]
      have e2 : xs[(lo + hi) / 2]? = some xs[(lo + hi) / 2] := Array.getElem?_eq_getElem hm
      dsimp only
      rw [eg]
      split
      · rename_i c
        refine ih _ _ (by lia) (by lia) h3 (fun i a hi9 e => ?_) u
        rcases Nat.lt_or_ge i ((lo + hi) / 2) with z | z
        · exact Nat.lt_trans (r i _ a _ z e e2) c
        · have z2 : i = (lo + hi) / 2 := by lia
          subst z2
          rw [e2] at e
          cases e
          exact c
      · rename_i c
        refine ih _ _ (by lia) (by lia) (by lia) l (fun i a hi9 e => ?_)
        rcases Nat.lt_or_ge ((lo + hi) / 2) i with z | z
        · exact Nat.le_of_lt (Nat.lt_of_le_of_lt (Nat.le_of_not_lt c) (r _ i _ a z e2 e))
        · have z2 : i = (lo + hi) / 2 := by lia
          subst z2
          rw [e2] at e
          cases e
          exact Nat.le_of_not_lt c
    · rename_i c
      have e : lo = hi := by lia
      subst e
      exact ⟨h3, l, u⟩
theorem place {xs : Array Nat} (r : Rs xs) (v : Nat) : SetTable.below xs v ≤ xs.size ∧ (∀ (i a : Nat), i < SetTable.below xs v → xs[i]? = some a → a < v) ∧ (∀ (i a : Nat), SetTable.below xs v ≤ i → xs[i]? = some a → v ≤ a) :=
  search r v xs.size 0 xs.size (by lia) (Nat.zero_le _) (Nat.le_refl _) (fun i a h => by lia) (fun i a h e => by
    have := (Array.getElem?_eq_some_iff.mp e).1
    lia)
theorem place_is {xs : Array Nat} (r : Rs xs) {v k : Nat} (hk : k ≤ xs.size) (l : ∀ (i a : Nat), i < k → xs[i]? = some a → a < v) (u : ∀ (i a : Nat), k ≤ i → xs[i]? = some a → v ≤ a) : SetTable.below xs v = k := by
  obtain ⟨h1, h2, h3⟩ := place r v
  rcases Nat.lt_trichotomy (SetTable.below xs v) k with z | z | z
  · have hb : SetTable.below xs v < xs.size := by lia
    have e := Array.getElem?_eq_getElem hb
    have a1 := l _ _ z e
    have a2 := h3 _ _ (Nat.le_refl _) e
    lia
  · exact z
  · have hb : k < xs.size := by lia
    have e := Array.getElem?_eq_getElem hb
    have a1 := h2 _ _ z e
    have a2 := u _ _ (Nat.le_refl _) e
    lia
theorem ins_get {α : Type} (xs : Array α) {p : Nat} (hp : p ≤ xs.size) (x : α) (i : Nat) : (SetTable.insertAt xs p x)[i]? = if i < p then xs[i]? else if i = p then some x else xs[i - 1]? := by
  have h : (SetTable.insertAt xs p x).toList = xs.toList.take p ++ x :: xs.toList.drop p := by
    rw [SetTable.toList_insertAt]
  rw [← Array.getElem?_toList, h, ← Array.getElem?_toList, ← Array.getElem?_toList]
  have hl : (xs.toList.take p).length = p := by rw [List.length_take, Array.length_toList]; lia
  split
  · rename_i c
    rw [List.getElem?_append_left (by lia), List.getElem?_take, if_pos c]
  · rename_i c
    rw [List.getElem?_append_right (by lia), hl]
    split
    · rename_i c2
      subst c2
      simp
    · rename_i c2
      obtain ⟨d, rfl⟩ : ∃ d, i = p + (d + 1) := ⟨i - p - 1, by lia⟩
      rw [show p + (d + 1) - p = d + 1 by lia, List.getElem?_cons_succ, List.getElem?_drop]
      congr 1
theorem rs_ins {xs : Array Nat} (r : Rs xs) {v : Nat} (hn : ¬ xs[SetTable.below xs v]? = some v) : Rs (SetTable.insertAt xs (SetTable.below xs v) v) := by
  obtain ⟨h1, h2, h3⟩ := place r v
  have h4 : ∀ (i a : Nat), SetTable.below xs v ≤ i → xs[i]? = some a → v < a := by
    intro i a hi e
    rcases Nat.lt_or_ge v a with z | z
    · exact z
    · have e2 := h3 i a hi e
      have e3 : a = v := by lia
      subst e3
      rcases Nat.eq_or_lt_of_le hi with q | q
      · rw [q] at hn; exact absurd e hn
      · have hb : SetTable.below xs a < xs.size := by
          have := (Array.getElem?_eq_some_iff.mp e).1
          lia
        have e4 := Array.getElem?_eq_getElem hb
        have e5 := r _ _ _ _ q e4 e
        have e6 := h3 _ _ (Nat.le_refl _) e4
        lia
  intro i j a b hij ea eb
  rw [ins_get _ h1] at ea eb
  split at ea
  · rename_i c1
    split at eb
    · exact r i j a b hij ea eb
    · split at eb
      · cases eb
        exact h2 i a c1 ea
      · exact r i (j - 1) a b (by lia) ea eb
  · split at ea
    · cases ea
      split at eb
      · lia
      · split at eb
        · lia
        · exact h4 (j - 1) b (by lia) eb
    · split at eb
      · lia
      · split at eb
        · lia
        · exact r (i - 1) (j - 1) a b (by lia) ea eb
theorem rs_list {l : List Nat} (h : l.Pairwise (· < ·)) : Rs l.toArray := by
  intro i j a b hij ea eb
  rw [List.getElem?_toArray] at ea eb
  obtain ⟨hi, rfl⟩ := List.getElem?_eq_some_iff.mp ea
  obtain ⟨hj, rfl⟩ := List.getElem?_eq_some_iff.mp eb
  exact List.pairwise_iff_getElem.mp h i j hi hj hij
theorem rs_range (n : Nat) : Rs (Array.range n) := by
  have : Array.range n = (List.range n).toArray := by simp
  rw [this]
  exact rs_list List.pairwise_lt_range
theorem rs_nil : Rs #[] := fun i j a b _ e => by simp at e
structure Tk (t t' : SetTable) : Prop where
  rs : Rs t'.place
  led : t'.led = t.led
theorem standIn_ok (t : SetTable) (n : Nat) : Tk t (t.standIn n) := ⟨rs_range n, rfl⟩
theorem go_free {t : SetTable} {f : Nat → Int} {h : Int} : ∀ (n : Nat) (p : SetTable.Probe) (j : Nat) (d : Option Nat), (∀ v, p.dummy = some v → ¬ t.place[SetTable.below t.place v]? = some v) → SetTable.probe.go t f h n p = some (.empty j d) →
    ¬ t.place[SetTable.below t.place (d.getD j)]? = some (d.getD j) := by
  intro n
  induction n with
  | zero => intro p j d _ e; cases e
  | succ n ih =>
    intro p j d hd e
    unfold SetTable.probe.go at e
    split at e
    · rename_i hs
      cases e
      cases hpd : p.dummy with
      | some v => exact hd v hpd
      | none =>
        show ¬ t.place[SetTable.below t.place p.j]? = some p.j
        intro z
        unfold SetTable.slot at hs
        simp [z] at hs
    · rename_i hs
      refine ih _ j d (fun v hv => ?_) e
      have e3 : v = p.j := by
        unfold SetTable.advance at hv
        split at hv <;> simp at hv <;> exact hv.symm
      subst e3
      intro z
      unfold SetTable.slot at hs
      simp [z] at hs
    · split at e
      · cases e
      · refine ih _ j d (fun v hv => hd v ?_) e
        unfold SetTable.advance at hv
        split at hv <;> simpa using hv
theorem lay_ok {t : SetTable} (r : Rs t.place) (es : Array (Int × Value)) (h : Int) (x : Value) : Tk t (layNew t es h x).2.1 := by
  unfold layNew
  split
  · rename_i slot wd hf
    unfold SetTable.freeSlot at hf
    split at hf
    · rename_i j d hp
      have hn := go_free _ _ j d (fun v hv => by unfold SetTable.probeStart at hv; simp at hv) hp
      cases hf
      show Tk t ((t.put (d.getD j)).1.orStandIn _)
      unfold SetTable.orStandIn
      split
      · exact ⟨rs_ins r hn, rfl⟩
      · exact ⟨rs_range _, rfl⟩
    · cases hf
  · exact standIn_ok t _
theorem relay_ok {t : SetTable} (es : Array (Int × Value)) (m : Nat) : Tk t (relayAll t es m).2.1 := by
  unfold relayAll
  split
  · rename_i t' order e
    unfold SetTable.relaid SetTable.laid at e
    cases ho : SetTable.layClean (SetTable.sizeAbove m - 1) (es.map (·.1)) with
    | none => rw [ho] at e; cases e
    | some owner =>
      rw [ho] at e
      have e2 : some _ = some (t', order) := e
      cases e2
      dsimp only
      split
      · refine ⟨?_, rfl⟩
        dsimp only
        refine rs_list ?_
        have hsub : ∀ l : List Nat, (List.map (fun x => x.1) (l.filterMap fun j => (owner.getD j none).map (j, ·))).Sublist l := by
          intro l
          induction l with
          | nil => exact List.Sublist.slnil
          | cons a r ih =>
            rw [List.filterMap_cons]
            cases hh : owner.getD a none with
            | none => exact List.Sublist.cons _ ih
            | some v => exact List.Sublist.cons₂ _ ih
        exact List.Pairwise.sublist (hsub _) List.pairwise_lt_range
      · exact standIn_ok t _
  · exact standIn_ok t _
theorem perm_of {κ : Type} [DecidableEq κ] : ∀ {l m : List κ}, l.Nodup → (∀ x ∈ l, x ∈ m) → m.length ≤ l.length → m.Perm l
  | [], m, _, _, h => by
    cases m with
    | nil => exact List.Perm.refl _
    | cons a r => simp at h
  | a :: l, m, nd, sub, h => by
    (obtain ⟨n1, n2⟩ := List.nodup_cons.mp nd)
    have ha := sub a List.mem_cons_self
    have p1 := List.perm_cons_erase ha
    have p2 : (m.erase a).Perm l := perm_of n2 (fun x hx => (List.mem_erase_of_ne (fun (e : x = a) => n1 (e ▸ hx))).mpr (sub x (List.mem_cons_of_mem _ hx))) (by
      have := p1.length_eq
      rw [List.length_cons] at this h
      lia)
    exact p1.trans (p2.cons a)
end SG
namespace SG
open PySem
structure Gd (w : World) (t : SetTable) : Prop where
  rs : Rs t.place
  led : t.led = !w.params.followText "set-order"
theorem Gd.tk {w : World} {t r : SetTable} (g : Gd w t) (k : Tk t r) : Gd w r := ⟨k.rs, k.led.trans g.led⟩
noncomputable abbrev oSet (es : Array (Int × Value)) (ep : Nat) (t : SetTable) : Obj := { cls := .type "set", dict := none, data := .set es ep t, slots := #[] }
section
variable {prog : Program} {w : World} {κ : Type} [DecidableEq κ] (knd : KeyKind prog w κ)
structure InS (S : κ → Bool) (n : Nat) (es : Array (Int × Value)) (t : SetTable) : Prop where
  el : ElemsOf knd es.toList
  me : ∀ k, S k = true ↔ ∃ e ∈ es.toList, knd.is k e.2 = true
  bd : es.size < scanBound
  ft : t.fits es.size = true
  sz : es.size = n
  gd : Gd w t
noncomputable def SetG (h : Heap) (b : Addr) (S : κ → Bool) (n : Nat) : Prop := ∃ es ep t, h.get? b = some (oSet es ep t) ∧ InS knd S n es t
variable {knd} {A : Around} {E : Value → Shared → Prop} {s : Shared}
theorem put_at {h : Heap} {b : Addr} {es us : Array (Int × Value)} {ep : Nat} {t r : SetTable} (ho : h.get? b = some (oSet es ep t)) : (h.update b (Obj.putSet us r)).get? b = some (oSet us (ep + 1) r) :=
  Heap.get?_update_self (Obj.putSet us r) ho rfl
theorem after {g : Bool → Sem Unit} (hg : ∀ (c : Bool) (z : Shared) (F : Unit → Shared → Prop), F () z → wpAny (model prog w) A (g c) F E z) {b : Addr} {es us : Array (Int × Value)} {ep : Nat} {t r : SetTable}
    (ho : s.heap.get? b = some (oSet es ep t)) {S : κ → Bool} (q : InS knd S us.size us r) {wd : Bool} {Rr : Option Bool → Shared → Prop}
    (fin : ∀ h', Heap.SameBut b s.heap h' → SetG knd h' b S us.size → Rr (some true) { s with heap := h' }) :
    wpAny (model prog w) A (do
      storeSet b us r
      if (!wd && r.tooFull) = true then do
          g (relayAll r us (SetTable.grown us.size)).2.2
          storeSet b (relayAll r us (SetTable.grown us.size)).1 (relayAll r us (SetTable.grown us.size)).2.1
          pure (some true)
        else pure (some true)) Rr E s := by
  refine wpAny_bind (wpAny_storeSet_of ho rfl ?_ (fits_of_scanBound q.bd))
  have o1 := put_at (us := us) (r := r) ho
  have b1 := Heap.SameBut.update s.heap b (Obj.putSet us r)
  split
  · have pm := relayAll_perm r us (SetTable.grown us.size)
    have fr := relayAll_fits r us (SetTable.grown us.size)
    have tk := relay_ok (t := r) us (SetTable.grown us.size)
    generalize relayAll r us (SetTable.grown us.size) = Z at pm fr tk ⊢
    obtain ⟨ys, t3, gv⟩ := Z
    dsimp only at pm fr tk ⊢
    have hz : ys.size = us.size := by rw [← Array.length_toList, pm.length_eq, Array.length_toList]
    have bd2 : ys.size < scanBound := by rw [hz]; exact q.bd
    refine wpAny_bind (hg _ _ _ (wpAny_bind (wpAny_storeSet_of o1 rfl (wpAny_pure (fin _ (b1.trans (Heap.SameBut.update _ b _)) ⟨ys, _, t3, put_at o1, q.el.perm pm, fun k => (q.me k).trans ⟨?_, ?_⟩, bd2, fr, hz, q.gd.tk tk⟩)) (fits_of_scanBound bd2))))
    · rintro ⟨e, he, z⟩
      exact ⟨e, pm.mem_iff.mpr he, z⟩
    · rintro ⟨e, he, z⟩
      exact ⟨e, pm.mem_iff.mp he, z⟩
  · exact wpAny_pure (fin _ b1 ⟨us, _, r, o1, q⟩)
theorem add {b : Addr} {S : κ → Bool} {n : Nat} {k : κ} {x : Value} {Q : Bool → Shared → Prop} (key : knd.is k x = true) (sc : x.scannable = true) (g : SetG knd s.heap b S n) (room : n + 1 < scanBound)
    (fin : ∀ h', Heap.SameBut b s.heap h' → SetG knd h' b (fun y => S y || decide (y = k)) (if S k then n else n + 1) → Q (!S k) { s with heap := h' }) :
    wpAny (model prog w) A (setAddHashed b x (knd.hash k)) Q E s := by
  obtain ⟨es, ep, t, ho, i⟩ := g
  (unfold setAddHashed setAddHashedIn)
  refine wpAny_holding (wpAny_bind (wpAny_setState_of ho rfl i.ft ?_))
  dsimp only
  rw [byScan_of sc i.bd i.el]
  simp only [↓reduceIte]
  unfold setAddByScan
  refine wpAny_bind (wpAny_bind (wpAny_rule (wpAny_bind (wpAny_setScan_of key ho rfl i.ft i.el ?_))))
  cases hfi : List.findIdx? (fun e => knd.is k e.2) es.toList with
  | some j =>
    dsimp only
    obtain ⟨hj, pj, _⟩ := List.findIdx?_eq_some_iff_getElem.mp hfi
    have yes : S k = true := (i.me k).mpr ⟨_, List.getElem_mem hj, pj⟩
    have z := fin s.heap (Heap.SameBut.refl b s.heap) ⟨es, ep, t, ho, i.el, fun y => ?_, i.bd, i.ft, by rw [yes]; exact i.sz, i.gd⟩
    · rw [yes] at z
      (exact wpAny_pure (wpAny_pure z))
    · rw [← i.me y, Bool.or_eq_true, decide_eq_true_eq]
      exact ⟨fun c => c.elim id fun e => e ▸ yes, .inl⟩
  | none =>
    dsimp only
    have no : S k = false := by
      refine Bool.eq_false_iff.mpr fun c => ?_
      obtain ⟨e, he, pe⟩ := (i.me k).mp c
      exact Bool.noConfusion ((List.findIdx?_eq_none_iff.mp hfi e he).symm.trans pe)
    have quiet : ∀ (c : Bool) (z : Shared) (F : Unit → Shared → Prop), F () z → wpAny (model prog w) A (match c with | true => rule "set.scan.the-table-gave-way" | false => pure ()) F E z := fun c z F f => by
      cases c
      · exact wpAny_pure f
      · exact wpAny_rule f
    have pm := layNew_perm t es (knd.hash k) x
    have fr := layNew_fits t es (knd.hash k) x
    have tk := lay_ok i.gd.rs es (knd.hash k) x
    generalize layNew t es (knd.hash k) x = Z at pm fr tk ⊢
    obtain ⟨us, t1, wd, gv⟩ := Z
    dsimp only at pm fr tk ⊢
    rw [Array.toList_push] at pm
    have hz : us.size = n + 1 := by rw [← Array.length_toList, pm.length_eq, List.length_append, Array.length_toList, i.sz]; rfl
    refine wpAny_bind (quiet _ _ _ ?_)
    have iu : ∀ r : SetTable, r.fits us.size = true → Gd w r → InS knd (fun y => S y || decide (y = k)) us.size us r := fun r h1 h2 =>
      ⟨(i.el.push key sc).perm pm, mem_push_iff key i.me pm, by lia, h1, rfl, h2⟩
    have last : ∀ h', Heap.SameBut b s.heap h' → SetG knd h' b (fun y => S y || decide (y = k)) us.size → Q true { s with heap := h' } := fun h' c1 c2 => by
      have z := fin h' c1
      rw [no] at z
      rw [hz] at c2
      exact z c2
    split
    · refine wpAny_bind ?_
      rw [hashByValue_scannable 8 sc]
      refine wpAny_pure (after (knd := knd) quiet ho (iu _ ?_ ?_) fun h' c1 c2 => wpAny_pure (last h' c1 c2))
      · split
        · exact fr
        · exact SetTable.fits_plain_off fr
      · split
        · exact i.gd.tk tk
        · exact ⟨tk.rs, tk.led.trans i.gd.led⟩
    · refine wpAny_bind (wpAny_pure (?_ : _))
      simp only [↓reduceIte]
      exact after (knd := knd) quiet ho (iu _ fr (i.gd.tk tk)) fun h' c1 c2 => wpAny_pure (last h' c1 c2)
end
end SG
namespace SG
open PySem
open Sem (wp)
theorem sl_next : Slot "set_iterator" "__next__" "set_iterator.__next__" := .of (owner := "set_iterator") (n := "__next__") (by rw [typeLookup_type, builtinLookup_eq_fast]; kernel_rfl)
  (by decide +kernel) (by decide +kernel) (by decide +kernel) (by first | exact .inl (by decide +kernel) | exact .inr (by decide +kernel))
  (by rw [isSubtype_type]; kernel_rfl)
theorem en_next : entryFor table "set_iterator.__next__" = some Builtin.«set_iterator.__next__» := entryFor_of_fast (by kernel_rfl)
theorem ar_next (v : Value) : argsOk "set_iterator.__next__" ⟨[v], []⟩ := by unfold argsOk; kernel_rfl
theorem en_iter : entryFor table "set.__iter__" = some Builtin.«frozenset.__iter__» := entryFor_alias (id' := "frozenset.__iter__") (by kernel_rfl) rfl (by decide +kernel) (by kernel_rfl)
section
variable {prog : Program} {w : World} {A : Around} {E : Value → Shared → Prop} {s : Shared}
theorem wpAny_choose' {M : Model} {src : Source} {n : Nat} {Q : Nat → Shared → Prop} (h0 : n ≠ 0) (q : ∀ i d, i < n → Q i { s with drawn := d }) : wpAny M A (choose src n) Q E s := fun Γ p _ => by
  show wp M Γ (.choose src n .pure) _ _ p s
  rw [Sem.wp_choose]
  exact ⟨h0, q _ _ (Nat.mod_lt _ (Nat.pos_of_ne_zero h0))⟩
theorem erase_perm {α : Type} : ∀ {l : List α} {i : Nat} (h : i < l.length), (l[i] :: l.eraseIdx i).Perm l
  | [], i, h => nomatch h
  | a :: r, 0, _ => List.Perm.refl _
  | a :: r, i + 1, h => ((List.Perm.swap a _ _).symm.symm).trans ((erase_perm (l := r) (i := i) (Nat.lt_of_succ_lt_succ h)).cons a)
theorem drawn_all {M : Model} {α : Type} : ∀ (n : Nat) (xs : List α), xs.length = n → ∀ (s : Shared) (Q : List α → Shared → Prop), (∀ ys d, ys.Perm xs → Q ys { s with drawn := d }) → wpAny M A (drawOrder n xs) Q E s
  | 0, xs, h, s, Q, q => by
    obtain rfl := List.length_eq_zero_iff.mp h
    exact wpAny_pure (q [] s.drawn (List.Perm.refl _))
  | n + 1, [], h, _, _, _ => by cases h
  | n + 1, x :: xs, h, s, Q, q => by
    show wpAny M A (choose .order (x :: xs).length >>= _) _ _ _
    refine wpAny_bind (wpAny_choose' (by simp) fun i d hi => ?_)
    have e : (x :: xs)[i]? = some (x :: xs)[i] := List.getElem?_eq_getElem hi
    rw [e]
    dsimp only
    refine wpAny_bind (drawn_all n _ (by rw [List.length_eraseIdx_of_lt hi, h]; rfl) _ _ fun ys d2 p => wpAny_pure (q _ d2 ?_))
    refine (p.cons _).trans ?_
    exact erase_perm hi
noncomputable abbrev oIt (f : Value) (i : Nat) (b : Addr) (n ep : Nat) : Obj := { cls := .type "set_iterator", dict := none, data := .fields #[f, .int i 0, .ref b, .int n 0, .int ep 0], slots := #[] }
noncomputable abbrev oPl (ps : List Nat) : Obj := { cls := .type "tuple", dict := none, data := .seq (ps.map fun (i : Nat) => rawInt i).toArray 0, slots := #[] }
noncomputable def slotAt (t : SetTable) : Nat → Nat
  | 0 => 0
  | k + 1 => t.place.getD k 0 + 1
theorem pick_go {α : Type} (f : Nat → Nat) : ∀ (n k : Nat) (xs : List α) (out : Array α), xs.length = n → (pickOrder.go f n k xs out).toList.Perm (out.toList ++ xs)
  | 0, k, xs, out, h => by
    obtain rfl := List.length_eq_zero_iff.mp h
    rw [List.append_nil]
    exact List.Perm.refl _
  | n + 1, k, xs, out, h => by
    have hi : f k % xs.length < xs.length := Nat.mod_lt _ (by lia)
    unfold pickOrder.go
    rw [List.getElem?_eq_getElem hi]
    dsimp only
    refine (pick_go f n (k + 1) _ _ (by rw [List.length_eraseIdx_of_lt hi, h]; rfl)).trans ?_
    rw [Array.toList_push, List.append_assoc]
    exact (erase_perm hi).append_left _
theorem pick_perm {α : Type} (f : Nat → Nat) (xs : Array α) : (pickOrder f xs).toList.Perm xs.toList := by
  have := pick_go f xs.size 0 xs.toList #[] (by simp)
  rw [List.nil_append] at this
  exact this
inductive Way (w : World) (b : Addr) (es : Array (Int × Value)) (ep : Nat) (t : SetTable) : (Nat → Value) → List (Addr × Obj) → List Value → Prop
  | text : w.params.followText "set-order" = true → Way w b es ep t (fun _ => .int 0 0) [] ((pickOrder (w.params.setOrder b ep) es).toList.map (·.2))
  | slots : w.params.followText "set-order" = false → (!t.plain && decide (es.size > 1)) = false → Way w b es ep t (fun i => .int (slotAt t i) 0) [] (es.toList.map (·.2))
  | drawn (T : Addr) (ps : List Nat) : w.params.followText "set-order" = false → ps.Perm (List.range es.size) → Way w b es ep t (fun _ => .ref T) [(T, oPl ps)] (ps.map fun i => ((es[i]?).map (·.2)).getD .none)
theorem Way.perm {b : Addr} {es : Array (Int × Value)} {ep : Nat} {t : SetTable} {f : Nat → Value} {nw : List (Addr × Obj)} {ys : List Value} (y : Way w b es ep t f nw ys) : ys.Perm (es.toList.map (·.2)) := by
  cases y with
  | text _ => exact (pick_perm _ es).map _
  | slots _ _ => exact List.Perm.refl _
  | drawn T ps _ h =>
    refine (h.map _).trans (List.Perm.of_eq ?_)
    refine List.ext_getElem (by simp) fun i h1 h2 => ?_
    rw [List.length_map, List.length_range] at h1
    simp [h1]
theorem state_of {b : Addr} {es : Array (Int × Value)} {ep : Nat} {t : SetTable} {Q : Option (Value × Nat) → Shared → Prop} {slot i : Nat} (ho : s.heap.get? b = some (oSet es ep t)) (ft : t.fits es.size = true) :
    (w.params.followText "set-order" = true → Q (((pickOrder (w.params.setOrder b ep) es)[i]?).map fun e => (e.2, slot)) s) →
    (w.params.followText "set-order" = false → (!t.plain && decide (es.size > 1)) = false ∧ t.led = true ∧ Q (match es[SetTable.below t.place slot]?, t.place[SetTable.below t.place slot]? with | some (_, x), some j => some (x, j + 1) | _, _ => none) s) →
    wpAny (model prog w) A (setNext b slot i ep) Q E s := by
  intro h1 h2
  unfold setNext
  refine wpAny_bind (wpAny_setState_of ho rfl ft ?_)
  dsimp only
  unfold setsByText
  (refine wpAny_bind (wpAny_bind (wpAny_askSetting (wpAny_pure ?_))))
  cases hb : w.params.followText "set-order" with
  | true =>
    have e : (model prog w).w.params.followText "set-order" = true := hb
    simp only [e, ↓reduceIte]
    (simp only [bne_self_eq_false, Bool.false_eq_true, ↓reduceIte])
    refine wpAny_bind ?_
    unfold setWalk setsByText
    refine wpAny_bind (wpAny_setState_of ho rfl ft ?_)
    dsimp only
    (refine wpAny_bind (wpAny_bind (wpAny_askSetting (wpAny_pure ?_))))
    simp only [e, ↓reduceIte]
    exact wpAny_bind (wpAny_askSetting (wpAny_pure (wpAny_pure (h1 hb))))
  | false =>
    have e : (model prog w).w.params.followText "set-order" = false := hb
    obtain ⟨a1, a2, a3⟩ := h2 hb
    simp only [e, Bool.false_eq_true, ↓reduceIte]
    split
    · rename_i c
      have c2 : (!t.plain && decide (es.size > 1)) = true := c
      rw [a1] at c2
      cases c2
    · refine wpAny_bind ?_
      show wpAny _ _ (if (!t.led && !es.isEmpty) = true then unsupported "set:maker-not-led" else pure PUnit.unit) _ _ _
      rw [a2]
      exact wpAny_pure (wpAny_pure a3)
theorem slot_place {t : SetTable} (r : Rs t.place) {i : Nat} (h : i ≤ t.place.size) : SetTable.below t.place (slotAt t i) = i := by
  refine place_is r h (fun j a hj e => ?_) (fun j a hj e => ?_)
  · cases i with
    | zero => lia
    | succ k =>
      have hk : k < t.place.size := h
      have ek : t.place[k]? = some t.place[k] := Array.getElem?_eq_getElem hk
      have e3 : slotAt t (k + 1) = t.place[k] + 1 := by
        show t.place.getD k 0 + 1 = _
        simp [Array.getD, hk]
      rw [e3]
      rcases Nat.lt_or_ge j k with z | z
      · exact Nat.lt_succ_of_lt (r j k _ _ z e ek)
      · obtain rfl : j = k := by lia
        rw [ek] at e
        cases e
        exact Nat.lt_succ_self _
  · cases i with
    | zero => exact Nat.zero_le _
    | succ k =>
      have hk : k < t.place.size := h
      have ek : t.place[k]? = some t.place[k] := Array.getElem?_eq_getElem hk
      have e3 : slotAt t (k + 1) = t.place[k] + 1 := by
        show t.place.getD k 0 + 1 = _
        simp [Array.getD, hk]
      rw [e3]
      exact r k j _ _ hj ek e
theorem stop_iter {α : Type} {Q : α → Shared → Prop} (hh : A.handled = none) (q : ∀ h' e, (∀ b o, s.heap.get? b = some o → h'.get? b = some o) → (∃ o, h'.get? e = some o ∧ o.cls = .type "StopIteration") → E (.ref e) { s with heap := h' }) :
    wpAny (model prog w) A (newExc (.type "StopIteration") [] >>= fun e => (raiseNew e : Sem α)) Q E s := by
  refine wpAny_bind ?_
  simp only [newExc, newTuple]
  (refine wpAny_bind (wpAny_newObj_type ?_ (by size_fits)))
  (refine wpAny_bind (m := firstArgMember _ _) (wpAny_of_eq (a := Value.none) (by first | rfl | (simp only [firstArgMember]; rfl)) ?_))
  (refine wpAny_newObj_type ?_ (by size_fits))
  simp only [raiseNew]
  (refine wpAny_bind (wpAny_handled ?_))
  rw [hh]
  (refine wpAny_bind (wpAny_pure (wpAny_throw ?_)))
  exact q _ _ (fun b o e => Heap.get?_push_of_some _ (Heap.get?_push_of_some _ e)) ⟨_, Heap.get?_push_size _ rfl, rfl⟩
theorem step_v {b I : Addr} {es : Array (Int × Value)} {ep i : Nat} {t : SetTable} {f : Nat → Value} {nw : List (Addr × Obj)} {ys : List Value} {v : Value} {Q : Option Value → Shared → Prop} (y : Way w b es ep t f nw ys) (g : Gd w t) (ft : t.fits es.size = true)
    (hI : s.heap.get? I = some (oIt (f i) i b es.size ep)) (hb : s.heap.get? b = some (oSet es ep t)) (hn : ∀ p ∈ nw, s.heap.get? p.1 = some p.2) (hv : ys[i]? = some v)
    (q : ∀ h', h'.get? I = some (oIt (f (i + 1)) (i + 1) b es.size ep) → Heap.SameBut I s.heap h' → Q (some v) { s with heap := h' }) : wpAny (model prog w) A (pyNext (.ref I)) Q E s := by
  have ty : s.TypeIs (.ref I) "set_iterator" := ⟨_, hI, rfl⟩
  unfold pyNext
  refine wpAny_bind (wpAny_attempt (wpAny_callSpecial?_slot (name := Str.ofString "__next__") ty sl_next (wpAny_call_entry sl_next ty en_next ?_ (ar_next _))))
  unfold Builtin.«set_iterator.__next__»
  refine wpAny_bind (m := slotArgs "__next__" 0 _) (wpAny_pure ?_)
  refine wpAny_bind (wpAny_fieldsOf hI rfl ?_)
  dsimp only
  refine wpAny_bind (wpAny_setEntries_of hb rfl ft ?_)
  rw [if_neg (by simp)]
  have hps : t.place.size = es.size := by
    unfold SetTable.fits at ft
    simp only [Bool.and_eq_true, beq_iff_eq] at ft
    exact ft.1
  cases y with
  | text ht =>
    simp only [Int.toNat_natCast]
    rw [List.getElem?_map, Array.getElem?_toList] at hv
    obtain ⟨e, he, rfl⟩ := Option.map_eq_some_iff.mp hv
    refine wpAny_bind (state_of hb ft (fun _ => ?_) (fun hf => by rw [ht] at hf; cases hf))
    rw [he]
    refine wpAny_bind (wpAny_setField_rec hI (by simp) fun h1 o1 b1 => wpAny_bind (wpAny_setField_rec o1 (by simp) fun h2 o2 b2 => wpAny_pure ⟨e.2, rfl, wpAny_pure (q h2 o2 (b1.trans b2))⟩))
  | slots hf hd =>
    simp only [Int.toNat_natCast]
    rw [List.getElem?_map, Array.getElem?_toList] at hv
    obtain ⟨e, he, rfl⟩ := Option.map_eq_some_iff.mp hv
    have hi := (Array.getElem?_eq_some_iff.mp he).1
    have ep2 : t.place[i]? = some t.place[i] := Array.getElem?_eq_getElem (by lia)
    refine wpAny_bind (state_of hb ft (fun ht => by rw [ht] at hf; cases hf) (fun _ => ⟨hd, by rw [g.led, hf]; rfl, ?_⟩))
    rw [slot_place g.rs (by lia), he, ep2]
    refine wpAny_bind (wpAny_setField_rec hI (by simp) fun h1 o1 b1 => wpAny_bind (wpAny_setField_rec o1 (by simp) fun h2 o2 b2 => wpAny_pure ⟨e.2, rfl, wpAny_pure (q h2 ?_ (b1.trans b2))⟩))
    have e3 : slotAt t (i + 1) = t.place[i] + 1 := by
      show t.place.getD i 0 + 1 = _
      simp [Array.getD, show i < t.place.size by lia]
    show h2.get? I = some (oIt (.int ((slotAt t (i + 1) : Nat) : Int) 0) (i + 1) b es.size ep)
    rw [e3]
    exact o2
  | drawn T ps hf hp =>
    simp only [Int.toNat_natCast]
    rw [List.getElem?_map] at hv
    obtain ⟨p, hpi, rfl⟩ := Option.map_eq_some_iff.mp hv
    have hpl : p < es.size := List.mem_range.mp (hp.mem_iff.mp (List.mem_of_getElem? hpi))
    refine wpAny_bind (wpAny_seqItems (hn (T, oPl ps) (List.mem_singleton.mpr rfl)) rfl ?_)
    dsimp only
    have e1 : (ps.map fun (i : Nat) => rawInt i).toArray[i]? = some (Value.int p 0) := by
      rw [List.getElem?_toArray, List.getElem?_map, hpi]
      rfl
    rw [e1]
    dsimp only
    have e2 : es[p]? = some es[p] := Array.getElem?_eq_getElem hpl
    refine wpAny_bind (m := setNextDrawn b _ _) ?_
    unfold setNextDrawn
    refine wpAny_bind (wpAny_setState_of hb rfl ft ?_)
    dsimp only
    simp only [Int.toNat_natCast, bne_self_eq_false, Bool.false_eq_true, ↓reduceIte, e2]
    refine wpAny_pure (wpAny_bind (wpAny_setField_rec hI (by simp) fun h1 o1 b1 => wpAny_pure ⟨_, rfl, wpAny_pure ?_⟩))
    have z := q h1 o1 b1
    rw [e2] at z
    exact z
theorem step_0 {b I : Addr} {es : Array (Int × Value)} {ep : Nat} {t : SetTable} {f : Nat → Value} {nw : List (Addr × Obj)} {ys : List Value} {Q : Option Value → Shared → Prop} (hh : A.handled = none) (y : Way w b es ep t f nw ys) (g : Gd w t) (ft : t.fits es.size = true)
    (hI : s.heap.get? I = some (oIt (f es.size) es.size b es.size ep)) (hb : s.heap.get? b = some (oSet es ep t)) (hn : ∀ p ∈ nw, s.heap.get? p.1 = some p.2)
    (q : ∀ h', (∀ c o, c ≠ I → s.heap.get? c = some o → h'.get? c = some o) → Q none { s with heap := h' }) : wpAny (model prog w) A (pyNext (.ref I)) Q E s := by
  have ty : s.TypeIs (.ref I) "set_iterator" := ⟨_, hI, rfl⟩
  unfold pyNext
  refine wpAny_bind (wpAny_attempt (wpAny_callSpecial?_slot (name := Str.ofString "__next__") ty sl_next (wpAny_call_entry sl_next ty en_next ?_ (ar_next _))))
  unfold Builtin.«set_iterator.__next__»
  refine wpAny_bind (m := slotArgs "__next__" 0 _) (wpAny_pure ?_)
  refine wpAny_bind (wpAny_fieldsOf hI rfl ?_)
  dsimp only
  refine wpAny_bind (wpAny_setEntries_of hb rfl ft ?_)
  rw [if_neg (by simp)]
  have hps : t.place.size = es.size := by
    unfold SetTable.fits at ft
    simp only [Bool.and_eq_true, beq_iff_eq] at ft
    exact ft.1
  have fin : ∀ (h1 : Heap) (F : Fin → Shared → Prop), Heap.SameBut I s.heap h1 → wpAny (model prog w) A.in1 (newExc (.type "StopIteration") [] >>= fun e => (raiseNew e : Sem Fin)) F (fun e s' => wpAny (model prog w) A (do
        let c ← isInstance e (Value.type "StopIteration")
        if c = true then pure none else throw e) Q E s') { s with heap := h1 } := by
    intro h1 F b1
    refine stop_iter hh fun h2 e k2 z => ?_
    obtain ⟨o, ho, hc⟩ := z
    exact wpAny_bind (wpAny_isInstance (T := "StopIteration") (b := true) ⟨o, ho, hc⟩ isSubtype_stop (wpAny_pure (q _ fun c o c1 e => k2 _ _ (b1.extBut _ _ c1 e))))
  cases y with
  | text ht =>
    simp only [Int.toNat_natCast]
    have he : (pickOrder (w.params.setOrder b ep) es)[es.size]? = none := by
      refine Array.getElem?_eq_none ?_
      have := (pick_perm (w.params.setOrder b ep) es).length_eq
      simp only [Array.length_toList] at this
      lia
    refine wpAny_bind (state_of hb ft (fun _ => ?_) (fun hf => by rw [ht] at hf; cases hf))
    rw [he]
    exact wpAny_bind (wpAny_setField_rec hI (by simp) fun h1 o1 b1 => fin h1 _ b1)
  | slots hf hd =>
    simp only [Int.toNat_natCast]
    refine wpAny_bind (state_of hb ft (fun ht => by rw [ht] at hf; cases hf) (fun _ => ⟨hd, by rw [g.led, hf]; rfl, ?_⟩))
    rw [slot_place g.rs (by lia), Array.getElem?_eq_none (Nat.le_refl _)]
    exact wpAny_bind (wpAny_setField_rec hI (by simp) fun h1 o1 b1 => fin h1 _ b1)
  | drawn T ps hf hp =>
    simp only [Int.toNat_natCast]
    refine wpAny_bind (wpAny_seqItems (hn (T, oPl ps) (List.mem_singleton.mpr rfl)) rfl ?_)
    dsimp only
    have e1 : (ps.map fun (i : Nat) => rawInt i).toArray[es.size]? = none := by
      refine Array.getElem?_eq_none ?_
      have := hp.length_eq
      simp at this ⊢
      lia
    rw [e1]
    dsimp only
    exact wpAny_bind (wpAny_setField_rec hI (by simp) fun h1 o1 b1 => wpAny_bind (wpAny_setField_rec o1 (by simp) fun h2 o2 b2 => fin h2 _ (b1.trans b2)))
end
end SG
namespace SG
open PySem
theorem sl_self : Slot "set_iterator" "__iter__" "set_iterator.__iter__" := .of (owner := "set_iterator") (n := "__iter__") (by rw [typeLookup_type, builtinLookup_eq_fast]; kernel_rfl)
  (by decide +kernel) (by decide +kernel) (by decide +kernel) (by first | exact .inl (by decide +kernel) | exact .inr (by decide +kernel))
  (by rw [isSubtype_type]; kernel_rfl)
theorem en_self : entryFor table "set_iterator.__iter__" = some Builtin.«dict_keyiterator.__iter__» := entryFor_alias (id' := "dict_keyiterator.__iter__") (by kernel_rfl) rfl (by decide +kernel) (by kernel_rfl)
theorem ar_self (v : Value) : argsOk "set_iterator.__iter__" ⟨[v], []⟩ := by unfold argsOk; kernel_rfl
theorem ln_set : typeLookup (.type "set") "__len__" = pure (some (.builtin "set.__len__")) := by rw [typeLookup_type, builtinLookup_eq_fast]; kernel_rfl
section
variable {prog : Program} {w : World} {A : Around} {E : Value → Shared → Prop} {s : Shared}
theorem walks {b I : Addr} {es : Array (Int × Value)} {ep : Nat} {t : SetTable} {f : Nat → Value} {nw : List (Addr × Obj)} {ys : List Value} (hh : A.handled = none) (y : Way w b es ep t f nw ys) (g : Gd w t) (ft : t.fits es.size = true) (hl : ys.length = es.size) (n1 : b ≠ I) (n2 : ∀ p ∈ nw, p.1 ≠ I) :
    WalksS prog w A I (I :: b :: nw.map (·.1)) [I] (fun x z => x = z) es.size (fun i v => ys[i]? = some v)
      (fun i s => s.heap.get? I = some (oIt (f i) i b es.size ep) ∧ s.heap.get? b = some (oSet es ep t) ∧ ∀ p ∈ nw, s.heap.get? p.1 = some p.2) where
  sub := fun c hc => by rw [List.mem_singleton.mp hc]; exact List.mem_cons_self
  grefl := fun _ => rfl
  gtrans := fun _ _ _ a b => a.trans b
  frame := fun i s h' tk st _ k => ⟨k I List.mem_cons_self _ st.1, k b (List.mem_cons_of_mem _ List.mem_cons_self) _ st.2.1, fun p hp => k p.1 (List.mem_cons_of_mem _ (List.mem_cons_of_mem _ (List.mem_map_of_mem hp))) _ (st.2.2 p hp)⟩
  item := fun i s Q E hi st q => by
    refine step_v (v := ys[i]'(by lia)) y g ft st.1 st.2.1 st.2.2 (List.getElem?_eq_getElem _) fun h' o1 b1 => ?_
    refine q _ _ (List.getElem?_eq_getElem _) ⟨o1, b1.extBut _ _ n1 st.2.1, fun p hp => b1.extBut _ _ (n2 p hp) (st.2.2 p hp)⟩ ⟨fun c o hc e => b1.extBut _ _ (fun z => hc (by rw [z]; exact List.mem_singleton.mpr rfl)) e, rfl, rfl, rfl, Nat.le_refl _⟩
  done := fun s Q E st q => step_0 hh y g ft st.1 st.2.1 st.2.2 fun h' k => q _ ⟨fun c o hc e => k c o (fun z => hc (by rw [z]; exact List.mem_singleton.mpr rfl)) e, rfl, rfl, rfl, Nat.le_refl _⟩
  self := fun i s Q E st q => by
    have ty : s.TypeIs (.ref I) "set_iterator" := ⟨_, st.1, rfl⟩
    refine wpAny_pyIter_slot ty sl_self (wpAny_call_entry sl_self ty en_self ?_ (ar_self _))
    show wpAny _ _ (ret (.ref I)) _ _ s
    exact wpAny_pure ⟨_, rfl, "set_iterator", _, ty, sl_next.lookup, q⟩
theorem iter_set {b : Addr} {es : Array (Int × Value)} {ep : Nat} {t : SetTable} {Q : Value → Shared → Prop} (g : Gd w t) (ft : t.fits es.size = true) (hz : es.size ≤ 1000) (hb : s.heap.get? b = some (oSet es ep t))
    (q : ∀ (h' : Heap) (d : Drawn) (I : Addr) (f : Nat → Value) (nw : List (Addr × Obj)) (ys : List Value), Way w b es ep t f nw ys → s.heap.objs.size ≤ I → (∀ p ∈ nw, s.heap.objs.size ≤ p.1 ∧ p.1 ≠ I ∧ h'.get? p.1 = some p.2) → h'.get? I = some (oIt (f 0) 0 b es.size ep) →
      (∀ c o, s.heap.get? c = some o → h'.get? c = some o) → Q (.ref I) { s with heap := h', drawn := d }) : wpAny (model prog w) A (pyIter (.ref b)) Q E s := by
  have ty : s.TypeIs (.ref b) "set" := ⟨_, hb, rfl⟩
  refine wpAny_pyIter_slot ty F.slot_set_iter (wpAny_call_entry F.slot_set_iter ty en_iter ?_ (F.args_set_iter_1 _))
  unfold Builtin.«frozenset.__iter__»
  refine wpAny_bind (m := Builtin.Frozenset.slot0 "__iter__" _) (wpAny_pure ?_)
  refine wpAny_bind (m := Builtin.Frozenset.sizeOf b) (wpAny_bind (wpAny_setEntries_of hb rfl ft (wpAny_pure ?_)))
  dsimp only
  have made : ∀ (f : Nat → Value) (nw : List (Addr × Obj)) (ys : List Value) (h1 : Heap) (d : Drawn), Way w b es ep t f nw ys → (∀ p ∈ nw, s.heap.objs.size ≤ p.1 ∧ h1.get? p.1 = some p.2) → (∀ c o, s.heap.get? c = some o → h1.get? c = some o) → s.heap.objs.size ≤ h1.objs.size →
      wpAny (model prog w) A.in1 (do
        let z ← setEpoch b
        let u ← newFields "set_iterator" [f 0, rawInt 0, .ref b, rawInt es.size, rawInt z]
        ret u) (fun fin s' => ∃ v, fin = Fin.done (Flow.ret v) ∧ ∃ T' r, s'.TypeIs v T' ∧ typeLookup (.type T') "__next__" = pure (some r) ∧ Q v s') E { s with heap := h1, drawn := d } := by
    intro f nw ys h1 d y n1 k le
    refine wpAny_bind (wpAny_setEpoch_of (k _ _ hb) rfl ft ?_)
    refine wpAny_bind (wpAny_newObj_type (wpAny_pure ⟨_, rfl, "set_iterator", _, ⟨_, Heap.get?_push_size _ rfl, rfl⟩, sl_next.lookup, ?_⟩))
    exact q _ d _ f nw ys y le (fun p hp => ⟨(n1 p hp).1, Nat.ne_of_lt (Heap.lt_size (n1 p hp).2), Heap.get?_push_of_some _ (n1 p hp).2⟩) (Heap.get?_push_size _ rfl) fun c o e => Heap.get?_push_of_some _ (k c o e)
  refine wpAny_bind (m := setDrawn b) ?_
  unfold setDrawn setsByText
  refine wpAny_bind (wpAny_setState_of hb rfl ft ?_)
  dsimp only
  refine wpAny_bind (wpAny_bind (wpAny_askSetting (wpAny_pure (wpAny_pure ?_))))
  split
  · rename_i c
    have c2 : (!w.params.followText "set-order" && (!t.plain && decide (es.size > 1))) = true := c
    have hf : w.params.followText "set-order" = false := by
      cases hq : w.params.followText "set-order" with
      | false => rfl
      | true => rw [hq] at c2; cases c2
    refine wpAny_bind (drawn_all es.size (List.range es.size) List.length_range _ _ fun ps d pm => ?_)
    have lp : (ps.map fun (i : Nat) => rawInt i).length ≤ sizeLine := by
      have h1 := pm.length_eq
      have h2 : sizeLine = 16777216 := sizeLine_eq
      rw [List.length_range] at h1
      rw [List.length_map]
      lia
    refine wpAny_bind (wpAny_newTuple ?_ lp)
    refine made (fun _ => .ref s.heap.objs.size) [(s.heap.objs.size, oPl ps)] _ _ d (.drawn _ ps hf pm) (fun p hp => ?_) (fun c o e => Heap.get?_push_of_some _ e) (by rw [Heap.size_push]; exact Nat.le_succ _)
    rw [List.mem_singleton.mp hp]
    exact ⟨Nat.le_refl _, Heap.get?_push_size _ rfl⟩
  · rename_i c
    refine wpAny_bind (wpAny_pure ?_)
    cases hq : w.params.followText "set-order" with
    | true => exact made (fun _ => .int 0 0) [] _ s.heap s.drawn (.text hq) (fun p hp => nomatch hp) (fun _ _ e => e) (Nat.le_refl _)
    | false =>
      have c2 : ¬ (!w.params.followText "set-order" && (!t.plain && decide (es.size > 1))) = true := c
      rw [hq] at c2
      exact made (fun i => .int (slotAt t i) 0) [] _ s.heap s.drawn (.slots hq (Bool.eq_false_iff.mpr c2)) (fun p hp => nomatch hp) (fun _ _ e => e) (Nat.le_refl _)
theorem hint_set {b : Addr} (ty : s.TypeIs (.ref b) "set") {Q : Bool → Shared → Prop} (h : Q false s) : wpAny (model prog w) A (Builtin.List.listLengthHint (.ref b)) Q E s := by
  (unfold Builtin.List.listLengthHint)
  refine wpAny_bind (wpAny_specialOf ty ln_set ?_)
  generalize hid : ("set.__len__" : String) = id0
  wp_delta
  rw [show splitId id0 = some ("set", "__len__") from by subst hid; decide +kernel]
  subst hid
  refine wpAny_bind (wpAny_isInstance (T := "set") (b := true) ty (by rw [isSubtype_type]; kernel_rfl) ?_)
  rw [if_neg (by decide)]
  split
  · exact wpAny_bind (wpAny_typeOf ty (wpAny_pure h))
  · rename_i c
    exact absurd (by decide +kernel) c
theorem collect_set {b : Addr} {es : Array (Int × Value)} {ep : Nat} {t : SetTable} {R : List Value → Shared → Prop} (hh : A.handled = none) (g : Gd w t) (ft : t.fits es.size = true) (hz : es.size ≤ 1000) (hb : s.heap.get? b = some (oSet es ep t))
    (q : ∀ (h' : Heap) (d : Drawn) (tk : Nat) (ys : List Value), ys.Perm (es.toList.map (·.2)) → s.heap.objs.size ≤ h'.objs.size → (∀ c o, s.heap.get? c = some o → h'.get? c = some o) → R ys { s with heap := h', drawn := d, toks := tk }) : wpAny (model prog w) A (collect (.ref b)) R E s := by
  have hlb : b < s.heap.objs.size := Heap.lt_size hb
  unfold collect
  (refine wpAny_bind (wpAny_runValue (codeAny_builtin F.entry_proto_collect ?_)))
  (rw [Around.under_plainId F.plain_proto_collect _])
  show wpAny _ A.in1 (newList [] >>= fun l => again (.builtin "list.__iadd__" ⟨[l, .ref b], []⟩)) _ _ _
  refine wpAny_bind (wpAny_newObj_type (wpAny_pure ⟨plainId_quiet F.plain_list_iadd _, codeAny_builtin F.entry_list_iadd ?_⟩))
  (rw [Around.under_plainId F.plain_list_iadd _])
  show wpAny _ A.in1 (Builtin.List.listExtendWith (.ref s.heap.objs.size) (.ref b) (.ref s.heap.objs.size)) _ _ _
  have hb1 : (s.heap.push { cls := .type "list", data := .seq ([] : List Value).toArray }).get? b = some (oSet es ep t) := Heap.get?_push_of_some _ hb
  have ty : Shared.TypeIs { s with heap := s.heap.push { cls := .type "list", data := .seq ([] : List Value).toArray } } (.ref b) "set" := ⟨_, hb1, rfl⟩
  (unfold Builtin.List.listExtendWith)
  refine wpAny_bind (wpAny_typeOf ty ?_)
  have e1 : Builtin.List.listSameRef (.ref s.heap.objs.size) (.ref b) = false := by
    simp [Builtin.List.listSameRef, Nat.ne_of_gt hlb]
  have e2 : (Value.type "set" == Value.type "list") = false := by decide
  have e3 : (Value.type "set" == Value.type "tuple") = false := by decide
  simp only [e1, e2, e3, Bool.or_false, Bool.false_eq_true, if_false]
  have sz : (s.heap.push { cls := .type "list", data := .seq ([] : List Value).toArray }).objs.size = s.heap.objs.size + 1 := Heap.size_push ..
  refine wpAny_bind (iter_set g ft hz hb1 fun h' d I f nw ys y hI hn oI k => ?_)
  rw [sz] at hI hn
  have ty2 : Shared.TypeIs { s with heap := h', drawn := d } (.ref b) "set" := ⟨_, k _ _ hb1, rfl⟩
  refine wpAny_bind (wpAny_holding (hint_set ty2 ?_))
  have hS : h'.get? s.heap.objs.size = some { cls := .type "list", data := .seq ([] : List Value).toArray } := k _ _ (Heap.get?_push_size _ rfl)
  have hl : ys.length = es.size := by have := y.perm.length_eq; simpa using this
  have W := walks (prog := prog) (A := A.in1) (I := I) hh y g ft hl (fun z => Nat.lt_irrefl _ (Nat.lt_of_lt_of_le (z ▸ hlb : I < s.heap.objs.size) (Nat.le_of_succ_le hI))) (fun p hp => (hn p hp).2.1)
  have hSf : s.heap.objs.size ∉ I :: b :: nw.map (·.1) := by
    intro z
    rcases List.mem_cons.mp z with z | z
    · exact Nat.lt_irrefl _ (Nat.lt_of_lt_of_le (Nat.lt_succ_self _) (z ▸ hI))
    · rcases List.mem_cons.mp z with z | z
      · exact Nat.lt_irrefl _ (z ▸ hlb)
      · obtain ⟨p, hp, z⟩ := List.mem_map.mp z
        have := (hn p hp).1
        lia
  have run : ∀ (h2 : Heap) (c : Nat) (Rr : Result → Shared → Prop), (∀ b o, b ≠ s.heap.objs.size → h'.get? b = some o → h2.get? b = some o) → h2.get? s.heap.objs.size = some { cls := .type "list", data := .seq ([] : List Value).toArray c } →
      (∀ (h3 : Heap) (tk c' : Nat) (acc : Array Value), h3.get? s.heap.objs.size = some { cls := .type "list", dict := none, data := .seq acc c', slots := #[] } → acc.toList = ys → (∀ c o, s.heap.get? c = some o → h3.get? c = some o) → Rr (.ok (.ret (.ref s.heap.objs.size))) { s with heap := h3, drawn := d, toks := tk }) →
      codeAny (model prog w) A (.builtin "list.extend.loop" ⟨[.ref s.heap.objs.size, .ref I, .ref s.heap.objs.size], []⟩) Rr { s with heap := h2, drawn := d } := by
    intro h2 c Rr k2 hS2 fin
    have neI : I ≠ s.heap.objs.size := Nat.ne_of_gt hI
    refine codeAny_extend_loopS W (by rw [sizeLine_eq]; lia) _ hSf _ es.size 0 _ _ _ rfl (Nat.zero_le _) ⟨k2 _ _ neI oI, k2 _ _ (Nat.ne_of_lt hlb) (k _ _ hb1), fun p hp => k2 _ _ (Nat.ne_of_gt (hn p hp).1) (hn p hp).2.2⟩ hS2 (ItemsOf.nil _) fun s3 acc c' hm hS3 it => ?_
    obtain ⟨h3, g3, d3, tk3, os3⟩ := s3
    obtain ⟨m1, m2, m3, m4, m5⟩ := hm
    have eg : s.gens = g3 := m2
    have ed : d3 = d := m3
    have es' : os3 = s.os := m4
    subst eg ed es'
    refine fin h3 tk3 c' acc hS3 ?_ fun c o e => m1 c o ?_ (k2 c o (Nat.ne_of_lt (Heap.lt_size e)) (k c o (Heap.get?_push_of_some _ e)))
    · refine List.ext_getElem (by rw [Array.length_toList, it.1, hl]) fun i h1 h2 => ?_
      have e : ys[i]? = some acc.toList[i] := it.2 i acc.toList[i] (by rw [← Array.getElem?_toList]; exact List.getElem?_eq_getElem h1)
      rw [List.getElem?_eq_getElem h2] at e
      exact (Option.some.inj e).symm
    · have lc : c < s.heap.objs.size := Heap.lt_size e
      intro z
      rcases List.mem_cons.mp z with z | z
      · exact Nat.lt_irrefl _ (z ▸ lc)
      · exact Nat.lt_irrefl _ (Nat.lt_trans lc (Nat.lt_of_succ_le ((List.mem_singleton.mp z) ▸ hI)))
  have last : ∀ (h3 : Heap) (tk c' : Nat) (acc : Array Value), h3.get? s.heap.objs.size = some { cls := .type "list", dict := none, data := .seq acc c', slots := #[] } → acc.toList = ys → (∀ c o, s.heap.get? c = some o → h3.get? c = some o) →
      R acc.toList { s with heap := h3, drawn := d, toks := tk } := fun h3 tk c' acc o3 e k3 => by
    rw [e]
    exact q h3 d tk ys y.perm (Nat.le_of_lt (Heap.lt_size o3)) k3
  split
  · refine wpAny_bind (wpAny_rule (wpAny_bind ?_))
    (show wpAny _ A.in1 (updateSeq s.heap.objs.size (·.push .none) >>= fun _ => updateSeq s.heap.objs.size (·.pop)) _ _ _)
    (refine wpAny_bind (wpAny_updateSeq hS rfl ?_))
    have hS2 := Heap.get?_update_self (Obj.mapSeq (·.push Value.none)) hS rfl
    refine wpAny_updateSeq hS2 rfl ?_
    have hS3 := Heap.get?_update_self (Obj.mapSeq (·.pop)) hS2 rfl
    refine wpAny_pure ⟨plainId_quiet F.plain_extend_loop _, run _ _ _ (fun b o hb e => (Heap.get?_update_other _ _ (Ne.symm hb)).trans ((Heap.get?_update_other _ _ (Ne.symm hb)).trans e)) hS3 fun h3 tk c' acc o3 e k3 => ?_⟩
    (show wpAny _ A (load s.heap.objs.size >>= _) _ _ _)
    exact wpAny_bind (wpAny_load o3 (wpAny_pure (last h3 tk c' acc o3 e k3)))
  · refine wpAny_pure ⟨plainId_quiet F.plain_extend_loop _, run _ _ _ (fun _ _ _ e => e) hS fun h3 tk c' acc o3 e k3 => ?_⟩
    (show wpAny _ A (load s.heap.objs.size >>= _) _ _ _)
    exact wpAny_bind (wpAny_load o3 (wpAny_pure (last h3 tk c' acc o3 e k3)))
end
end SG
namespace SG
open PySem PyProof.Rows
section
variable {prog : Program} {w : World} {A : Around} {E : Value → Shared → Prop} {s : Shared}
noncomputable def iv : Value → Int
  | .int i _ => i
  | _ => 0
theorem ints_iv : ∀ {vs : List Value}, (∀ v ∈ vs, ∃ t, v = .int (iv v) t) → IntsAre vs (vs.map iv)
  | [], _ => .nil
  | v :: r, h => by
    obtain ⟨t, e⟩ := h v List.mem_cons_self
    rw [e]
    exact .cons _ t (ints_iv fun x hx => h x (List.mem_cons_of_mem _ hx))
theorem sorted_set {b : Addr} {es : Array (Int × Value)} {ep : Nat} {t : SetTable} {Q : Value → Shared → Prop} (hh : A.handled = none) (g : Gd w t) (ft : t.fits es.size = true) (hz : es.size < 64) (hb : s.heap.get? b = some (oSet es ep t)) (hi : ∀ e ∈ es.toList, ∃ t, e.2 = .int (iv e.2) t)
    (q : ∀ (h' : Heap) (d : Drawn) (tk e D : Nat) (out : Array Value) (ns : List Int), IntsAre out.toList ns → ns.Perm (es.toList.map fun e => iv e.2) → ns.Pairwise (· ≤ ·) → h'.get? D = some (seqObj "list" out e) → s.heap.objs.size ≤ D → (∀ c o, s.heap.get? c = some o → h'.get? c = some o) →
      Q (.ref D) { s with heap := h', drawn := d, toks := tk }) : wpAny (model prog w) A (call (.builtin "sorted") [.ref b]) Q E s := by
  (refine Calls.call_function_entry kind_sorted plain_sorted entry_sorted (args_sorted1 _) ?_)
  unfold Builtin.«sorted»
  (refine wpAny_bind (m := checkCount "sorted" 1 1 _) (wpAny_pure ?_))
  refine wpAny_bind (collect_set (A := A.in1) hh g ft (by lia) hb fun h1 d tk ys pm lb k1 => ?_)
  have hl : ys.length = es.size := by have := pm.length_eq; simpa using this
  (refine wpAny_bind (wpAny_newList ?_ (by rw [sizeLine_eq]; lia)))
  have ai : ∀ v ∈ ys, ∃ t, v = .int (iv v) t := fun v hv => by
    obtain ⟨e, he, rfl⟩ := List.mem_map.mp (pm.mem_iff.mp hv)
    exact hi e he
  have pi : (ys.map iv).Perm (es.toList.map fun e => iv e.2) := by
    have := pm.map iv
    rw [List.map_map] at this
    exact this
  have oL : (h1.push { cls := .type "list", data := .seq ys.toArray }).get? h1.objs.size = some (seqObj "list" ys.toArray 0) := Heap.get?_push_size _ rfl
  refine wpAny_bind (wpAny_holding (wpAny_call_entry slot_list_sort ⟨_, oL, rfl⟩ entry_list_sort (list_sort_tree oL (ints_iv ai) (by lia) fun out ns a1 a2 a3 => ⟨_, rfl, ?_⟩) (args_list_sort _)))
  obtain ⟨e, he⟩ := sortedHeap_at (out := out) oL
  refine wpAny_pure ⟨_, rfl, q _ d tk e _ out ns a1 (a2.trans pi) a3 he lb fun c o z => ?_⟩
  have lc := Heap.lt_size (k1 c o z)
  rw [sortedHeap_old (Nat.ne_of_lt lc) (by rw [size_push']; exact Nat.lt_succ_of_lt lc)]
  exact Heap.get?_push_of_some _ (k1 c o z)
end
end SG
namespace SG
open PySem PyProof.Rows
section
variable {prog : Program} {w : World} {κ : Type} [DecidableEq κ] {knd : KeyKind prog w κ} {A : Around} {R : Result → Shared → Prop} {I : Addr} {fp wr : List Addr} {G : Array GenState → Array GenState → Prop} {n : Nat} {P : Nat → Value → Prop} {St : Nat → Shared → Prop}
theorem kept {S : Addr} {h h' : Heap} {f : κ → Bool} {m : Nat} (q : SetG knd h S f m) (e : ∀ o, h.get? S = some o → h'.get? S = some o) : SetG knd h' S f m := by
  obtain ⟨es, ep, t, ho, r⟩ := q
  exact ⟨es, ep, t, e _ ho, r⟩
theorem congr' {S : Addr} {h : Heap} {f g : κ → Bool} {m k : Nat} (q : SetG knd h S f m) (e : ∀ x, f x = g x) (em : m = k) : SetG knd h S g k := by
  have : f = g := funext e
  subst this em
  exact q
theorem fill (W : WalksS prog w A.in1 I fp wr G n P St) (S : Addr) (nS : S ∉ fp) (val : Nat → κ) (hv : ∀ i v, P i v → knd.is (val i) v = true ∧ v.scannable = true) (hb : n + 1 < scanBound) :
    ∀ (k i : Nat) (s : Shared), n - i = k → i ≤ n → St i s → SetG knd s.heap S (fun x => decide (x ∈ SK.dd val i)) (SK.dd val i).length →
      (∀ s', Moved (S :: wr) G s s' → SetG knd s'.heap S (fun x => decide (x ∈ SK.dd val n)) (SK.dd val n).length → R (.ok (.ret .none)) s') →
      (codeAny (model prog w) A (.builtin "set.update.loop" ⟨[.ref S, .ref I], []⟩) R s) := by
  have nw : S ∉ wr := fun h => nS (W.sub _ h)
  have sub : ∀ b ∈ wr, b ∈ S :: wr := fun b z => List.mem_cons_of_mem _ z
  intro k
  induction k with
  | zero =>
    intro i s hk hi st hS fin
    obtain rfl : i = n := by lia
    refine codeAny_builtin PyProof.Rows.F.entry_set_update_loop ?_
    rw [Around.under_plainId PyProof.Rows.F.plain_set_update_loop _]
    refine wpAny_bind (m := pyNext (.ref I)) (W.done s _ _ st fun s1 hm => ?_)
    exact wpAny_pure (fin s1 (hm.mono sub) (kept hS fun o e => hm.heap S o nw e))
  | succ k ih =>
    intro i s hk hi st hS fin
    have lt : i < n := by lia
    refine codeAny_builtin PyProof.Rows.F.entry_set_update_loop ?_
    rw [Around.under_plainId PyProof.Rows.F.plain_set_update_loop _]
    refine wpAny_bind (m := pyNext (.ref I)) (W.item i s _ _ lt st fun v s1 hP st1 hm => ?_)
    obtain ⟨key, sc⟩ := hv i v hP
    refine wpAny_bind (m := holding [v] (setAdd S v)) (wpAny_holding ?_)
    unfold setAdd
    refine wpAny_holding (wpAny_bind (knd.pyHash (k := val i) key ?_))
    have room : (SK.dd val i).length + 1 < scanBound := by have := SK.dd_le (val := val) i; lia
    refine add (knd := knd) (s := { s1 with toks := s1.toks + 1 }) key sc (kept hS fun o e => hm.heap S o nw e) room fun h2 sb hS2 => ?_
    have hS3 : SetG knd h2 S (fun x => decide (x ∈ SK.dd val (i + 1))) (SK.dd val (i + 1)).length := congr' hS2 (fun x => (SK.dd_step i x).symm) (SK.dd_size i).symm
    have oth : ∀ b o, b ≠ S → s1.heap.get? b = some o → h2.get? b = some o := fun b o z e => (sb.2 b z).trans e
    refine wpAny_pure ⟨plainId_quiet PyProof.Rows.F.plain_set_update_loop _, ih (i + 1) _ (by lia) lt (W.frame _ s1 h2 (s1.toks + 1) st1 (Nat.le_succ _) fun b hb o e => oth b o (fun z => nS (z ▸ hb)) e) hS3 fun s2 hm2 q => ?_⟩
    refine fin s2 (Moved.trans W.gtrans ((hm.mono sub).then_heap (Nat.le_succ _) fun b o hb e => oth b o (fun z => hb (z ▸ List.mem_cons_self)) e) hm2) q
end
section
variable {prog : Program} {w : World} {κ : Type} [DecidableEq κ] {knd : KeyKind prog w κ} {A : Around} {E : Value → Shared → Prop} {s : Shared}
noncomputable abbrev ledW (w : World) : Bool := !w.params.followText "set-order"
noncomputable abbrev fset (led : Bool) : Obj := { cls := .type "set", dict := none, data := .set #[] 0 (.fresh 0 0 led) }
theorem code_new (v : Value) {Q1 : Value → Shared → Prop} (q : Q1 (.ref s.heap.objs.size) { s with heap := s.heap.push (fset (ledW w)) }) :
    codeAny (model prog w) A (.call (.builtin "set.__new__") ⟨[.type "set", v], []⟩) (wants Q1 E) s := by
  refine codeAny_of_tree ?_
  show wpAny _ A.in1 (do checkBuiltinCall "set.__new__" ⟨[.type "set", v], []⟩; again (.builtin "set.__new__" ⟨[.type "set", v], []⟩)) _ _ s
  refine wpAny_bind (wpAny_of_eq (PySem.F.newCall_set_1 v) (wpAny_pure ⟨plainId_quiet PySem.F.plain_set_new _, codeAny_builtin PySem.F.entry_set_new ?_⟩))
  rw [Around.under_plainId PySem.F.plain_set_new _]
  (unfold Builtin.«set.__new__» Builtin.Frozenset.newClass)
  have hsub := sub_set_self
  obtain ⟨hp, gs, d, tk, os⟩ := s
  dsimp only
  wp_walk
  (refine wpAny_askSetting (wpAny_pure ?_))
  dsimp only
  simp only [newObj]
  exact wpAny_bind (wpAny_alloc (wpAny_pure (wpAny_pure q)))
theorem make {l : Addr} {items : Array Value} {val : Nat → κ} {Q : Value → Shared → Prop} (hh : A.handled = none) (hl : s.heap.IsList l items) (hv : ∀ i v, items[i]? = some v → knd.is (val i) v = true ∧ v.scannable = true) (hb : items.size + 1 < scanBound)
    (q : ∀ (h' : Heap) (tk : Nat), SetG knd h' s.heap.objs.size (fun x => decide (x ∈ SK.dd val items.size)) (SK.dd val items.size).length → (∀ b o, s.heap.get? b = some o → h'.get? b = some o) → Q (.ref s.heap.objs.size) { s with heap := h', toks := tk }) :
    (wpAny (model prog w) A (call (.type "set") [.ref l]) Q E s) := by
  obtain ⟨c, tl, hmro⟩ := PySem.F.called_set.mro
  have hmade := PySem.F.called_set.made
  have hsub := PySem.F.called_set.sub
  refine wpAny_call (codeAny_of_tree (show wpAny _ _ (callAny (.type "set") _) _ _ _ from ?_))
  refine wpAny_pure ⟨Code.quiet_builtin _ (by decide +kernel), codeAny_builtin PySem.F.entry_type_call ?_⟩
  (rw [Around.under_plain (weight_type_call_type "set" [.ref l] []) rfl])
  have h1 := PySem.F.called_set.notType
  have h2 := PySem.F.called_set.canCreate
  have hct := PySem.F.typeCall_set_1 (.ref l)
  (repeat (any_goals (first | assumption | wp_step)))
  refine codeAny_mono (code_new (.ref l) (E := E) (Q1 := fun ob s1 => ∃ led : Bool, led = ledW w ∧ ob = .ref s.heap.objs.size ∧ s1 = { s with heap := s.heap.push (fset led) }) ⟨_, rfl, rfl, rfl⟩) fun r s1 hr => ?_
  cases r with
  | error e => exact hr
  | ok fl =>
    cases fl with
    | ret ob =>
      obtain ⟨led, hled, rfl, rfl⟩ := hr
      have hS : (s.heap.push (fset led)).get? s.heap.objs.size = some (fset led) := Heap.get?_push_size _ rfl
      have hT : Shared.TypeIs { s with heap := s.heap.push (fset led) } (.ref s.heap.objs.size) "set" := ⟨_, hS, rfl⟩
      have hli := PySem.F.called_set.init.lookup
      have hbi := PySem.F.called_set.init.bind (.ref s.heap.objs.size)
      (repeat (any_goals (first | assumption | wp_step)))
      refine codeAny_mono (codeAny_call_builtin (R := wants (fun r s2 => r = .none ∧ ∃ h' tk, s2 = { s with heap := h', toks := tk } ∧ SetG knd h' s.heap.objs.size (fun x => decide (x ∈ SK.dd val items.size)) (SK.dd val items.size).length ∧
          (∀ b o, s.heap.get? b = some o → h'.get? b = some o)) E) PySem.F.called_set.init.plain PySem.F.entry_set_init (check_set_init_1 hT ?_)) fun r2 s2 hr2 => ?_
      · obtain ⟨⟨ocls, odict, odata, oslots⟩, hol, hcl, nl, hdl⟩ := hl
        simp only at hcl hdl
        subst hcl hdl
        have hol' : (s.heap.push (fset led)).get? l = some { cls := .type "list", dict := odict, data := .seq items nl, slots := oslots } := Heap.get?_push_of_some _ hol
        have x1 := PySem.F.sub_list_set
        have x2 := PySem.F.sub_list_frozenset
        have x3 : (Value.type "list" == Value.type "dict") = false := by decide
        have hl1 : (s.heap.push (fset led)).IsList l items := ⟨_, hol', rfl, nl, rfl⟩
        (unfold Builtin.«set.__init__» noKeywords Builtin.Frozenset.updateFrom)
        generalize hPI : pyIter = PI
        wp_walk
        subst hPI
        (refine wpAny_pyIter_list hl1 ?_)
        (refine wpAny_bind (wpAny_runValue ?_))
        have lt : l < s.heap.objs.size := Heap.lt_size hol
        have sz : (s.heap.push (fset led)).objs.size = s.heap.objs.size + 1 := Heap.size_push ..
        (have hh3 : A.in1.in1.in1.handled = none := by simp [hh])
        have ne1 : l ≠ (s.heap.push (fset led)).objs.size := by rw [sz]; exact Nat.ne_of_lt (Nat.lt_succ_of_lt lt)
        have nS : s.heap.objs.size ∉ [(s.heap.push (fset led)).objs.size, l] := by
          rw [sz]
          simp only [List.mem_cons, List.not_mem_nil, or_false, not_or]
          exact ⟨Nat.ne_of_lt (Nat.lt_succ_self _), Nat.ne_of_gt lt⟩
        refine fill (knd := knd) ((Walks.list hh3 _ l ne1 items).toS) s.heap.objs.size nS val hv hb (items.size - 0) 0 _ (by lia) (Nat.zero_le _) ⟨⟨_, Heap.get?_push_size _ rfl, rfl, rfl⟩, hl1.push _⟩ ?_ fun s3 hm q3 => ?_
        · have g := Heap.get?_push_of_some ({ cls := .type "list_iterator", data := .fields #[.ref l, .int 0 0] } : Obj) hS
          exact ⟨_, _, _, g, fun e he => by simp at he, fun x => by simp [SK.dd], by decide, by rfl, rfl, rs_nil, hled⟩
        · obtain ⟨h3, g3, d3, tk3, os3⟩ := s3
          obtain ⟨m1, m2, m3, m4, m5⟩ := hm
          have eg : g3 = s.gens := m2
          have ed : d3 = s.drawn := m3
          have es : os3 = s.os := m4
          subst eg ed es
          refine wpAny_pure (wpAny_pure ⟨rfl, h3, tk3, rfl, q3, fun b o e => m1 b o ?_ (Heap.get?_push_of_some _ (Heap.get?_push_of_some _ e))⟩)
          have lb : b < s.heap.objs.size := Heap.lt_size e
          rw [sz]
          simp only [List.mem_cons, List.not_mem_nil, or_false, not_or]
          exact ⟨Nat.ne_of_lt lb, Nat.ne_of_lt (Nat.lt_succ_of_lt lb)⟩
      · cases r2 with
        | error e => exact hr2
        | ok fl2 =>
          cases fl2 with
          | ret r =>
            obtain ⟨rfl, h', tk, rfl, a1, a2⟩ := hr2
            (repeat (any_goals (first | assumption | wp_step)))
            exact q _ _ a1 a2
          | _ => exact hr2.elim
    | _ => exact hr.elim
end
end SG
namespace L2
open PySem PyProof.Rows
section
variable {X : Cx}
theorem Inv.dr {pins : List (Addr × Obj)} {σ : St} {H : Hp} {s : Shared} (d : Drawn) (I : Inv X pins σ H s) : Inv X pins σ H { s with drawn := d } := ⟨I.ok, I.os, I.bare, I.base, I.loc, I.cell, I.free, I.freeC, I.pin, I.hok, I.len⟩
noncomputable def memB {κ : Type} [DecidableEq κ] (ks : List κ) (x : κ) : Bool := decide (x ∈ ks)
theorem memB_iff {κ : Type} [DecidableEq κ] {ks : List κ} {x : κ} : memB ks x = true ↔ x ∈ ks := decide_eq_true_iff
noncomputable def setG (P : Program) (w : World) (a : Addr) (ks : List Key) : HO := .ext fun h => SG.SetG (mixKind P w) h a (memB ks) ks.length
theorem call_setG (hc : X.calm = true) : CallR X (.type "set") (fun xs H Q => ∃ p ks, xs = [.ref p] ∧ SqL X.K H p (ks.map kV) ∧ ks.length ≤ 1000 ∧ ∀ a, H a = none → Q (.ref a) (upd H a (setG X.prog X.w a (SK.dd (kAt ks) ks.length)))) := by
  intro pins s σ H xs us Q I r h
  obtain ⟨p, ks, rfl, hp, hk, q⟩ := h
  obtain ⟨u, rfl, ru⟩ := vals1 r
  cases ru
  obtain ⟨its, rv, pl, hz⟩ := I.list hp
  have hlen := rv.length
  rw [List.length_map] at hlen
  refine SG.make (knd := mixKind X.prog X.w) (val := kAt ks) (I.ok.hd hc) pl.isList (fun i v hv => ?_) (by rw [List.size_toArray]; unfold scanBound; lia) fun h' tk hS kp => ?_
  · have hi : its[i]? = some v := by simpa using hv
    have hib : i < ks.length := by
      have := (List.getElem?_eq_some_iff.mp hi).1
      lia
    obtain ⟨u', hu', ru⟩ := rv.get (i := i) (x := kV ks[i]) (by simp [hib])
    rw [hi] at hu'
    cases hu'
    have e : kAt ks i = ks[i] := by simp [kAt, List.getD, hib]
    rw [e]
    refine ⟨kV_is ru, ?_⟩
    cases hkk : ks[i] with
    | inl j => rw [hkk] at ru; obtain ⟨t, rfl⟩ := ru; rfl
    | inr y => rw [hkk] at ru; obtain ⟨t, rfl⟩ := ru; rfl
  · have es : its.toArray.size = ks.length := by simp [hlen]
    rw [es] at hS
    refine ⟨.ref _, _, I.laid (a := s.heap.objs.size) (o := setG X.prog X.w s.heap.objs.size (SK.dd (kAt ks) ks.length)) kp (Nat.le_refl _) ⟨hS, ?_, fun h1 h2 f1 e => SG.kept f1 e⟩, rfl, q _ (I.hok.fresh (Nat.le_refl _))⟩
    obtain ⟨es, _, _, e, _⟩ := hS
    exact ⟨_, e⟩
theorem vals_intsG : ∀ {ns : List Int} {us : List Value}, IntsAre us ns → Vals (ns.map V.int) us
  | _, _, .nil => .nil
  | _, _, .cons _ t r => .cons ⟨t, rfl⟩ (vals_intsG r)
theorem call_sortedG (hc : X.calm = true) : CallR X (.builtin "sorted") (fun xs H Q => ∃ (a : Addr) (ns : List Int), xs = [.ref a] ∧ H a = some (setG X.prog X.w a (ns.map Sum.inl)) ∧ ns.Nodup ∧ ns.length < 64 ∧ ∀ (l : Addr) (zs : List Int), H l = none → zs.Perm ns → zs.Pairwise (· ≤ ·) → Q (.ref l) (upd H l (.lst (zs.map V.int)))) := by
  intro pins s σ H xs us Q I r h
  obtain ⟨a, ns, rfl, ha, nd, hz, q⟩ := h
  obtain ⟨u, rfl, ru⟩ := vals1 r
  cases ru
  obtain ⟨⟨es, ep, t, ho, i⟩, _, _⟩ := I.hok a _ ha
  have sz := i.sz
  rw [List.length_map] at sz
  have key : ∀ e ∈ es.toList, ∃ n t, n ∈ ns ∧ e.2 = .int n t := fun e he => by
    obtain ⟨⟨k, hk, _⟩, _⟩ := i.el e he
    have hm := memB_iff.mp ((i.me k).mpr ⟨e, he, hk⟩)
    obtain ⟨n, hn, rfl⟩ := List.mem_map.mp hm
    rcases keyIs_shape (show keyIs (.inl n) e.2 = true from hk) with ⟨j, t, e1, e2⟩ | ⟨y, t, e1, e2⟩
    · cases e1
      exact ⟨n, t, hn, e2⟩
    · cases e1
  have pm : (es.toList.map fun e => SG.iv e.2).Perm ns := by
    refine SG.perm_of nd (fun x hx => ?_) (by rw [List.length_map, Array.length_toList]; lia)
    obtain ⟨e, he, hk⟩ := (i.me (.inl x)).mp (memB_iff.mpr (List.mem_map_of_mem hx))
    rcases keyIs_shape (show keyIs (.inl x) e.2 = true from hk) with ⟨j, t, e1, e2⟩ | ⟨y, t, e1, e2⟩
    · cases e1
      exact List.mem_map.mpr ⟨e, he, by rw [e2]; rfl⟩
    · cases e1
  refine SG.sorted_set (I.ok.hd hc) i.gd i.ft (by lia) ho (fun e he => ?_) fun h' d tk c D out zs a1 a2 a3 a4 a5 a6 => ?_
  · obtain ⟨n, t, _, e2⟩ := key e he
    exact ⟨t, by rw [e2]; rfl⟩
  · have pz := a2.trans pm
    have hl := pz.length_eq
    have hs : sizeLine = 16777216 := sizeLine_eq
    refine ⟨.ref _, _, (I.laid (a := D) (o := .lst (zs.map V.int)) (t' := tk) a6 a5 ⟨by rw [List.length_map]; lia, out.toList, c, vals_intsG a1, by simpa using a4⟩).dr d, rfl, q _ _ (I.hok.fresh a5) pz a3⟩
theorem mt_bitlen : MtR X "int.bit_length" (fun x xs H Q => ∃ i, x = .int i ∧ xs = [] ∧ Q (.int (Builtin.Int.intBits i)) H) := by
  intro pins s σ H x xs v us Q I rx rv h
  obtain ⟨i, rfl, rfl, q⟩ := h
  obtain ⟨t, rfl⟩ := rx
  cases rv
  exact call_int_bit_length ⟨.int _, H, I.tok _, ⟨_, rfl⟩, q⟩
theorem pre_sum : ∀ (ns : List Int) (n : Nat), n ≤ ns.length → preSum (fun i => ns.getD i 0) n = (ns.take n).sum
  | ns, 0, _ => by simp [preSum]
  | ns, n + 1, h => by
    have hn : n < ns.length := h
    show preSum (fun i => ns.getD i 0) n + ns.getD n 0 = _
    rw [pre_sum ns n (by lia), List.take_succ_eq_append_getElem hn, List.sum_append]
    simp [List.getD, hn]
theorem call_sumI (hc : X.calm = true) : CallR X (.builtin "sum") (fun xs H Q => ∃ (p : Addr) (ns : List Int), xs = [.ref p] ∧ SqL X.K H p (ns.map V.int) ∧ Q (.int ns.sum) H) := by
  intro pins s σ H xs us Q I r h
  obtain ⟨p, ns, rfl, hp, q⟩ := h
  obtain ⟨u, rfl, ru⟩ := vals1 r
  cases ru
  obtain ⟨its, rv, pl, hz⟩ := I.list hp
  have hlen := rv.length
  rw [List.length_map] at hlen
  have hlt : p < s.heap.objs.size := by
    obtain ⟨o, n, e, _⟩ := pl
    exact Heap.lt_size e
  refine call_sum_walkAnyS (wpAny_pyIter_list pl.isList ⟨s.heap.objs.size, _, _, _, _, _, _, fun i => ns.getD i 0, rfl, (Walks.list (show X.A.in1.handled = none from I.ok.hd hc) _ p (Nat.ne_of_lt hlt) its.toArray).toS, ⟨⟨_, Heap.get?_push_size _ rfl, rfl, rfl⟩, pl.isList.push _⟩, fun b hb => ?_, fun i v hP => ?_, fun s' t' hm => ?_⟩)
  · show b < (s.heap.push _).objs.size
    rw [Heap.size_push]
    rcases List.mem_cons.mp hb with e | e
    · rw [e]
      exact Nat.lt_succ_self _
    · rw [List.mem_singleton.mp e]; exact Nat.lt_succ_of_lt hlt
  · have hi : its[i]? = some v := by simpa using hP
    have hib : i < ns.length := by
      have := (List.getElem?_eq_some_iff.mp hi).1
      lia
    obtain ⟨u', hu', ru⟩ := rv.get (i := i) (x := .int ns[i]) (by simp [hib])
    rw [hi] at hu'
    cases hu'
    obtain ⟨t, rfl⟩ := ru
    exact ⟨t, by simp [List.getD, hib]⟩
  · have e1 : preSum (fun i => ns.getD i 0) its.toArray.size = ns.sum := by
      rw [List.size_toArray, ← hlen, pre_sum ns _ (Nat.le_refl _), List.take_length]
    rw [e1]
    rw [Moved.eq_with hm]
    refine ⟨.int _, H, I.kept (t' := s'.toks) (fun b o e => hm.heap b o ?_ (Heap.get?_push_of_some _ e)), ⟨_, rfl⟩, q⟩
    intro z
    rw [List.mem_singleton] at z
    exact absurd (Heap.lt_size e) (by rw [z]; exact Nat.lt_irrefl _)
theorem op_neLD (hu : X.A.units + 64 < cLine) : OpR X (compareOp .NotEq) (fun x y H Q => ∃ (a b : Addr) (us vs : List V) (ds es : List PyData), x = .ref a ∧ y = .ref b ∧ H a = some (.lst us) ∧ H b = some (.lst vs) ∧ RdVs H us ds ∧ RdVs H vs es ∧
    PySem.SeqAt.shaped (.list ds) = true ∧ PySem.SeqAt.shaped (.list es) = true ∧ Q (.bl (!PyData.eqv (.list ds) (.list es))) H) := by
  intro pins s σ H x y v u Q I rx ry h
  obtain ⟨a, b, us, vs, ds, es, rfl, rfl, ha, hb, rd, re, h1, h2, q⟩ := h
  cases rx
  cases ry
  obtain ⟨as, ra⟩ := rd_listD I.hok ha rd
  obtain ⟨bs, rb⟩ := rd_listD I.hok hb re
  exact PySem.SeqAt.compareNe_shaped ra rb h1 h2 hu ⟨.bl _, H, I, rfl, q⟩
noncomputable def Itk (a : Addr) (o : Obj) (kvs : List (Key × V)) : It :=
  ⟨fun i H => i < kvs.length ∧ H a = some (.frz o (.dK kvs)), fun i H x H' => H' = H ∧ ∃ k v, kvs[i]? = some (k, v) ∧ x = kV k, fun i H => kvs.length ≤ i ∧ H a = some (.frz o (.dK kvs))⟩
theorem turn_keys {P : Program} {w : World} {K : PySem.W.Frag} {tg : Expr} (it a : Addr) (o : Obj) (kvs : List (Key × V)) (es : Array DictEntry) (ep : Nat) (hd : o.data = .dict es ep) :
    Turn P w K tg (Itk a o kvs) [it] it (fun i h => h.IsKeyIter it a i kvs.length ep) where
  mem := by simp
  obj := fun i h st b hb => by
    have e : b = it := by simpa using hb
    subst e
    obtain ⟨o, e, c, d⟩ := st
    exact ⟨o, e, fun v z => by rw [d] at z; cases z⟩
  keep := fun i h h' st k => by
    obtain ⟨o, e, r⟩ := st
    exact ⟨o, k it (by simp) o e, r⟩
  item := by
    intro X hP hw hK hc i pins s σ H E I hf st hg
    subst hP hw hK
    obtain ⟨f0, f1, f2, f3, f4, f5⟩ := hf it (by simp)
    obtain ⟨hi, ha⟩ := hg
    obtain ⟨vs, hkv, hat⟩ := dict_at I ha hd
    have hl := hkv.length
    have hx : kvs[i]? = some (kvs[i].1, kvs[i].2) := List.getElem?_eq_getElem hi
    obtain ⟨u, hu, ru⟩ := KV.get2 hkv hx
    rw [hl] at st
    refine wpAny_pyNext_dict_item (knd := mixKind X.prog X.w) st hat hu fun key h' hk st' sb => ?_
    have I1 : Inv X pins σ H { s with heap := h' } := I.turned (t' := s.toks) (fun b o hb e => (sb.2 b hb).trans e) f0 f1 f3 f4 f5
    obtain ⟨o', e, c, d⟩ := id st'
    rw [← hl] at st'
    have rk : RelV (kV kvs[i].1) key := by
      rcases keyIs_shape (show keyIs kvs[i].1 key = true from hk) with ⟨j, t, e1, e2⟩ | ⟨y, t, e1, e2⟩
      · rw [e1, e2]; exact ⟨t, rfl⟩
      · rw [e1, e2]; exact ⟨t, rfl⟩
    exact ⟨key, rfl, go_of (s := { s with heap := h' }) e c d (by decide) ⟨kV kvs[i].1, H, I1, rk, ⟨rfl, _, _, hx, rfl⟩, st', fun b hb => (hf b hb).1⟩⟩
  done := by
    intro X hP hw hK hc i pins s σ H E I hf st hg
    subst hP hw hK
    obtain ⟨f0, f1, f2, f3, f4, f5⟩ := hf it (by simp)
    obtain ⟨hi, ha⟩ := hg
    obtain ⟨vs, hkv, hat⟩ := dict_at I ha hd
    have hl := hkv.length
    rw [hl] at st
    exact wpAny_pyNext_dict_end (knd := mixKind X.prog X.w) (I.ok.hd hc) st hat (List.getElem?_eq_none (by lia)) fun h' eb => ⟨rfl, I.turned (t' := s.toks) (fun b o hb e => eb b o hb e) f0 f1 f3 f4 f5⟩
  self := fun _ _ _ _ _ st h => wpAny_pyIter_keyiter st h
noncomputable def iKeys (tl : TE) : TI := fun σ H R => tl σ H fun x H1 => ∃ a kvs, x = .ref a ∧ H1 a = some (.dK kvs) ∧ ∀ o, R (Itk a o kvs) (upd H1 a (.frz o (.dK kvs)))
theorem pi_keys {tg l : Expr} {tl : TE} (hl : PE X l tl) : PI X tg l (iKeys tl) := by
  intro pins s σ H R I h
  refine thn (hl pins s σ H _ I h) fun u s1 ⟨x, H1, I1, r1, q1⟩ => ?_
  obtain ⟨a, kvs, rfl, ha, q⟩ := q1
  cases r1
  obtain ⟨hz, hm, vs, hkv, o, es, ep, ho, ex, hd, r⟩ := dk_of I1.hok ha
  have hat : s1.heap.DictAt (mixKind X.prog X.w) a vs ep := ⟨o, es, ho, ex, hd, r⟩
  have hl' := hkv.length
  refine wpAny_pyIter_dict (knd := mixKind X.prog X.w) hm hat ⟨s1.heap.objs.size, [s1.heap.objs.size], _, _, upd H1 a (.frz o (.dK kvs)), rfl, (I1.freeze ha ho).kept (t' := s1.toks) (fun b o e => Heap.get?_push_of_some _ e), turn_keys _ a o kvs es ep hd, ⟨_, Heap.get?_push_size _ rfl, rfl, by rw [hl'] <;> rfl⟩, fun b hb => ?_, q o⟩
  have e : b = s1.heap.objs.size := by simpa using hb
  subst e
  exact (I1.freeze ha ho).fpOk (Nat.le_refl _) ((I1.freeze ha ho).hok.fresh (Nat.le_refl _))
theorem bt_sum : bootBuiltins "sum" = some (.builtin "sum") := by decide +kernel
theorem bt_max : bootBuiltins "max" = some (.builtin "max") := by decide +kernel
end
end L2
namespace K16
open PySem L2 Tx Rk PyProof.Rows PySem.SeqAt
open PySem.PyData (strOk)
section
variable {P : Program} {w : World} {K : PySem.W.Frag} {mg : Str → Option Value} {base : Heap}
noncomputable def top (i : Nat) : Stmt := PySem.Challenge.pw_grope_k16_sets_by_bits.main.body.getD i (.Pass ⟨0, 0, 0, 0⟩)
noncomputable abbrev sSetOf : Stmt := top 1
noncomputable abbrev sWorldsOf : Stmt := top 2
noncomputable abbrev sSizeOf : Stmt := top 3
noncomputable abbrev sLeastOf : Stmt := top 4
noncomputable abbrev sWithin : Stmt := top 5
noncomputable abbrev sWithout : Stmt := top 6
noncomputable abbrev sPick : Stmt := top 8
noncomputable abbrev sLBits : Stmt := top 9
noncomputable abbrev sLList : Stmt := top 10
noncomputable abbrev sLTold : Stmt := top 11
noncomputable abbrev sLaw : Stmt := top 12
structure Bl (mg : Str → Option Value) : Prop where
  len : mg "len" = none
  range : mg "range" = none
  tuple : mg "tuple" = none
  zip : mg "zip" = none
  isi : mg "isinstance" = none
  str : mg "str" = none
  list : mg "list" = none
  set : mg "set" = none
  all : mg "all" = none
  sorted : mg "sorted" = none
  int : mg "int" = none
  bool : mg "bool" = none
  sum : mg "sum" = none
  max : mg "max" = none
noncomputable abbrev pPick : List Str := ["_law_script", "_law_k", "_law_many"]
noncomputable def cellV (ns : List Int) (k : Int) : Int := if 0 < ns.length then ns.getD (k % (ns.length : Int)).toNat 0 else 0
noncomputable def pk (ns : List Int) (k m : Int) : Int := (cellV ns k % 10 ^ (12 : Int).toNat + 104729) * (k * k + 48271 * k + 11) % 2147483647 * 742938285 % 2147483629 % m
theorem pk_lo (ns : List Int) (k : Int) {m : Int} (h : 0 < m) : 0 ≤ pk ns k m := Int.emod_nonneg _ (by lia)
theorem pk_hi (ns : List Int) (k : Int) {m : Int} (h : 0 < m) : pk ns k m < m := Int.emod_lt_of_pos _ h
inductive spPickD (K : PySem.W.Frag) (vs : List V) (H : Hp) (Q : VK) (E0_ : XK) : Prop
  | mk (a : Addr) (ns : List Int) (k m : Int) (c0 : vs = [.ref a, .int k, .int m]) (c1 : SqL K H a (ns.map V.int)) (c2 : ns.length ≤ 63) (c3 : 0 ≤ k) (c4 : k < 1000000) (c5 : 0 < m) (c6 : Q (.int (pk ns k m)) H) : spPickD K vs H Q E0_
inductive spPick (K : PySem.W.Frag) (vs : List V) (H : Hp) (Q : VK) (E0_ : XK) : Prop
  | mk (a : Addr) (ns : List Int) (k m : Int) (c0 : vs = [.ref a, .int k, .int m]) (c1 : SqL K H a (ns.map V.int)) (c2 : ns.length ≤ 63) (c3 : 0 ≤ k) (c4 : k < 1000000) (c5 : 0 < m) (c6 : ∀ r : Int, 0 ≤ r → r < m → Q (.int r) H) : spPick K vs H Q E0_
theorem cell_ok (c : Int) : -(2 ^ 64) < c % 10 ^ (12 : Int).toNat + 104729 ∧ c % 10 ^ (12 : Int).toNat + 104729 < 2 ^ 64 := by
  have e : (10 : Int) ^ (12 : Int).toNat = 1000000000000 := by decide +kernel
  rw [e]
  lia
theorem scPick : FnScope ["_law_script", "_law_k", "_law_many", "_law_cell", "_law_number"] pPick (defScope sPick) := ⟨rfl, rfl, rfl, by decide +kernel, rfl, by decide +kernel, by decide +kernel⟩
end
end K16
namespace K16
open PySem L2 Tx Rk PyProof.Rows PySem.SeqAt
open PySem.PyData (strOk)
section
variable {P : Program} {w : World} {K : PySem.W.Frag} {mg : Str → Option Value} {base : Heap}
theorem ok_pickD {f : Addr} {fd : FuncData} (F : Fun K "_law_pick" "_law_pick" sPick f fd) (T : Bl mg) : FnOk P w K mg base CX0 1 f fd pPick (spPickD K) := by
  refine F.ok scPick (fun vs H Q E h => ?_) (fun cdv A outer s H vs Q E hr h => ?_)
  · obtain ⟨a, ns, k, m, rfl, _⟩ := h
    rfl
  · obtain ⟨a, ns, k, m, rfl, hS, hn, k0, k1, m0, q⟩ := h
    refine ⟨_, pss_cons (ps_set (i := 3) scPick.nd rfl (Or.inl rfl) pe_int)
      (pss_cons (ps_if (pt_cmpR op_gt (pe_callB call_len (by rfl) T.len PySem.boot_len (pa_cons (pv 0) pa_nil)) pe_int (nomark _))
        (pss_one (ps_set (i := 3) scPick.nd rfl (Or.inl rfl) (pe_ix ix_list (pv 0) (pe_op op_mod (pv 1) (pe_callB call_len (by rfl) T.len PySem.boot_len (pa_cons (pv 0) pa_nil))) (fun _ _ => rfl)))) pss_nil)
      (pss_cons (ps_set (i := 4) scPick.nd rfl (Or.inl rfl) (pe_op op_mod (pe_op op_mul (pe_op op_add (pe_op op_mod (pv 3) (pe_op op_pow pe_int pe_int)) pe_int)
        (pe_op op_add (pe_op op_add (pe_op op_mul (pv 1) (pv 1)) (pe_op op_mul pe_int (pv 1))) pe_int)) pe_int))
      (pss_one (ps_ret (pe_op op_mod (pe_op op_mod (pe_op op_mul (pv 4) pe_int) pe_int) (pv 2)))))), ?_⟩
    refine ⟨_, rfl, _, _, rfl, .inl ⟨_, hS, rfl⟩, _, _, rfl, rfl, _, rfl, ?_⟩
    have hl : (ns.map V.int).length = ns.length := List.length_map ..
    refine ite2 (fun hp => ?_) (fun hp => ?_)
    · have hp' : 0 < ns.length := by
        have := of_decide_eq_true hp
        rw [hl] at this
        lia
      have hpi : (0 : Int) < ((ns.map V.int).length : Int) := by rw [hl]; lia
      obtain ⟨j, hj⟩ : ∃ j : Nat, (j : Int) = k % ((ns.map V.int).length : Int) := ⟨(k % ((ns.map V.int).length : Int)).toNat, Int.toNat_of_nonneg (Int.emod_nonneg _ (by lia))⟩
      have hjl : j < ns.length := by
        have := Int.emod_lt_of_pos k hpi
        rw [hl] at this hj
        lia
      have hat : atI (ns.map V.int) (k % ((ns.map V.int).length : Int)) = some (.int ns[j]) := by
        rw [← hj]
        exact atI_nat (by simp [hjl])
      have hcv : cellV ns k = ns[j] := by
        unfold cellV
        rw [if_pos hp', ← hl, ← hj, Int.toNat_natCast]
        simp [List.getD, hjl]
      unfold pk at q
      rw [hcv] at q
      refine ⟨_, rfl, _, rfl, _, rfl, _, _, rfl, .inl ⟨_, hS, rfl⟩, _, _, rfl, rfl, hpi, _, _, _, _, rfl, rfl, hS, hat, ?_⟩
      refine ⟨_, rfl, _, _, rfl, rfl, ⟨by decide, by decide, by decide⟩, _, _, rfl, rfl, (by show (0 : Int) < _; decide +kernel), _, _, rfl, rfl, _, rfl, _, rfl, _, _, rfl, rfl, .inl ⟨by lia, by lia⟩, _, rfl, _, _, rfl, rfl, .inl ⟨by decide, by decide⟩,
        _, _, rfl, rfl, _, _, rfl, rfl, _, _, rfl, rfl, .inl (cell_ok _), _, _, rfl, rfl, (by show (0 : Int) < _; decide), ?_⟩
      exact ⟨_, rfl, _, _, rfl, rfl, .inr ⟨by decide, by decide⟩, _, _, rfl, rfl, (by show (0 : Int) < _; decide), _, rfl, _, _, rfl, rfl, m0, q⟩
    · have hcv : cellV ns k = 0 := by
        unfold cellV
        rw [if_neg]
        intro z
        exact hp (decide_eq_true (by rw [hl]; lia))
      unfold pk at q
      rw [hcv] at q
      refine ⟨_, rfl, _, _, rfl, rfl, ⟨by decide, by decide, by decide⟩, _, _, rfl, rfl, (by show (0 : Int) < _; decide +kernel), _, _, rfl, rfl, _, rfl, _, rfl, _, _, rfl, rfl, .inl ⟨by lia, by lia⟩, _, rfl, _, _, rfl, rfl, .inl ⟨by decide, by decide⟩,
        _, _, rfl, rfl, _, _, rfl, rfl, _, _, rfl, rfl, .inl (cell_ok _), _, _, rfl, rfl, (by show (0 : Int) < _; decide), ?_⟩
      exact ⟨_, rfl, _, _, rfl, rfl, .inr ⟨by decide, by decide⟩, _, _, rfl, rfl, (by show (0 : Int) < _; decide), _, rfl, _, _, rfl, rfl, m0, q⟩
end
end K16
namespace K16
open PySem L2 Tx Rk PyProof.Rows PySem.SeqAt
open PySem.PyData (strOk)
section
variable {P : Program} {w : World} {K : PySem.W.Frag} {mg : Str → Option Value} {base : Heap}
theorem ok_pick {f : Addr} {fd : FuncData} (G : FnOk P w K mg base CX0 1 f fd pPick (spPickD K)) : FnOk P w K mg base CX0 1 f fd pPick (spPick K) :=
  G.imp fun vs H Q E h => by
    obtain ⟨a, ns, k, m, e, hS, hn, k0, k1, m0, q⟩ := h
    exact ⟨a, ns, k, m, e, hS, hn, k0, k1, m0, q _ (pk_lo _ _ m0) (pk_hi _ _ m0)⟩
end
end K16
namespace K16
open PySem L2 Tx Rk PyProof.Rows PySem.SeqAt
open PySem.PyData (strOk)
section
variable {P : Program} {w : World} {K : PySem.W.Frag} {mg : Str → Option Value} {base : Heap}
noncomputable def Wd (ns : List Int) : Prop := ∀ n ∈ ns, 0 ≤ n ∧ n < 200
noncomputable def bt (ns : List Int) : Nat := ns.foldl (fun m n => m ||| 2 ^ n.toNat) 0
theorem or_nat (a b : Nat) : Builtin.bitOr (a : Int) b = ((a ||| b : Nat) : Int) := by
  have h1 : ¬ (0 : Int) ≤ Builtin.bitNot a := by unfold Builtin.bitNot; lia
  have h2 : ¬ (0 : Int) ≤ Builtin.bitNot b := by unfold Builtin.bitNot; lia
  have h3 : ∀ x : Int, Builtin.bitNot (Builtin.bitNot x) = x := fun x => by unfold Builtin.bitNot; lia
  unfold Builtin.bitOr Builtin.bitAnd
  rw [decide_eq_false h1, decide_eq_false h2]
  dsimp only
  rw [h3, h3, h3, Int.toNat_natCast, Int.toNat_natCast]
theorem and_nat (a b : Nat) : Builtin.bitAnd (a : Int) b = ((a &&& b : Nat) : Int) := rfl
theorem add_or {a b : Nat} (h : a &&& b = 0) : a ||| b = a + b := by
  have e := bitOr_and (a : Int) b
  rw [or_nat, and_nat, h] at e
  lia
theorem fold_bit : ∀ (ns : List Int) (m i : Nat), (ns.foldl (fun m n => m ||| 2 ^ n.toNat) m).testBit i = (m.testBit i || ns.any fun n => n.toNat == i)
  | [], m, i => by simp
  | n :: r, m, i => by
    rw [List.foldl_cons, fold_bit r, Nat.testBit_or, Nat.testBit_two_pow, List.any_cons, Bool.or_assoc, Bool.beq_eq_decide_eq]
theorem bt_bit (ns : List Int) (i : Nat) : (bt ns).testBit i = ns.any fun n => n.toNat == i := by
  unfold bt
  rw [fold_bit, Nat.zero_testBit, Bool.false_or]
theorem bt_mem {ns : List Int} (h : Wd ns) {n : Int} (h0 : 0 ≤ n) : (bt ns).testBit n.toNat = decide (n ∈ ns) := by
  rw [bt_bit, Bool.eq_iff_iff, List.any_eq_true, decide_eq_true_eq]
  constructor
  · rintro ⟨m, hm, e⟩
    have e2 : m.toNat = n.toNat := by simpa using e
    have := (h m hm).1
    rw [show n = m by lia]
    exact hm
  · intro hm
    exact ⟨n, hm, by simp⟩
theorem bt_ext {ns ms : List Int} (h : ∀ n, n ∈ ns ↔ n ∈ ms) : bt ns = bt ms := by
  refine Nat.eq_of_testBit_eq fun i => ?_
  rw [bt_bit, bt_bit, Bool.eq_iff_iff, List.any_eq_true, List.any_eq_true]
  exact ⟨fun ⟨m, hm, e⟩ => ⟨m, (h m).mp hm, e⟩, fun ⟨m, hm, e⟩ => ⟨m, (h m).mpr hm, e⟩⟩
theorem bt_snoc (ns : List Int) (n : Int) : bt (ns ++ [n]) = bt ns ||| 2 ^ n.toNat := by
  unfold bt
  rw [List.foldl_append]
  rfl
theorem pow_i (k : Nat) : (2 : Int) ^ k = ((2 ^ k : Nat) : Int) := by
  rw [Int.natCast_pow]
  rfl
theorem fold_sum : ∀ (ns : List Int) (m : Nat), ns.Nodup → (∀ n ∈ ns, 0 ≤ n ∧ m.testBit n.toNat = false) → (m : Int) + (ns.map fun n => (2 : Int) ^ n.toNat).sum = ((ns.foldl (fun m n => m ||| 2 ^ n.toNat) m : Nat) : Int)
  | [], m, _, _ => by simp
  | n :: r, m, nd, h => by
    (obtain ⟨n1, n2⟩ := List.nodup_cons.mp nd)
    obtain ⟨h0, hb⟩ := h n List.mem_cons_self
    have d : m &&& 2 ^ n.toNat = 0 := by
      refine Nat.eq_of_testBit_eq fun i => ?_
      rw [Nat.testBit_and, Nat.testBit_two_pow, Nat.zero_testBit]
      by_cases hi : n.toNat = i
      · rw [← hi, hb]; rfl
      · rw [decide_eq_false hi, Bool.and_false]
    have e := fold_sum r (m ||| 2 ^ n.toNat) n2 (fun x hx => ⟨(h x (List.mem_cons_of_mem _ hx)).1, ?_⟩)
    · rw [List.map_cons, List.sum_cons, List.foldl_cons, ← e, add_or d, pow_i, Int.natCast_add]
      lia
    · rw [Nat.testBit_or, (h x (List.mem_cons_of_mem _ hx)).2, Nat.testBit_two_pow, Bool.false_or]
      refine decide_eq_false fun z => n1 ?_
      have := (h x (List.mem_cons_of_mem _ hx)).1
      rw [show n = x by lia]
      exact hx
theorem sum_bt {ns : List Int} (nd : ns.Nodup) (h : ∀ n ∈ ns, 0 ≤ n) : (ns.map fun n => (2 : Int) ^ n.toNat).sum = (bt ns : Int) := by
  have e := fold_sum ns 0 nd fun n hn => ⟨h n hn, Nat.zero_testBit _⟩
  unfold bt
  rw [← e]
  simp
theorem bt_lt {ns : List Int} (h : Wd ns) : bt ns < 2 ^ 200 := by
  refine Nat.lt_pow_two_of_testBit _ fun i hi => ?_
  rw [bt_bit]
  refine List.any_eq_false.mpr fun n hn => ?_
  have := h n hn
  simp
  lia
noncomputable def nb (m : Nat) : Nat := Builtin.Int.intBits (m : Int)
theorem nb_top {m i : Nat} (h : nb m ≤ i) : m.testBit i = false := by
  unfold nb Builtin.Int.intBits at h
  refine Nat.testBit_lt_two_pow ?_
  split at h
  · rename_i c
    have : m = 0 := by simpa using c
    rw [this]
    exact Nat.two_pow_pos i
  · rw [Int.natAbs_natCast] at h
    exact Nat.lt_of_lt_of_le Nat.lt_log2_self (Nat.pow_le_pow_right (by decide) h)
theorem nb_le {m k : Nat} (h : m < 2 ^ k) : nb m ≤ k := by
  unfold nb Builtin.Int.intBits
  split
  · exact Nat.zero_le _
  · rename_i c
    have : m ≠ 0 := by simpa using c
    rw [Int.natAbs_natCast]
    exact (Nat.log2_lt this).mpr h
noncomputable def wl (m : Nat) : List Int := ((List.range (nb m)).filter fun i => m.testBit i).map fun (i : Nat) => (i : Int)
theorem wl_mem {m : Nat} {n : Int} : n ∈ wl m ↔ 0 ≤ n ∧ m.testBit n.toNat = true := by
  unfold wl
  rw [List.mem_map]
  constructor
  · rintro ⟨i, hi, rfl⟩
    rw [Int.toNat_natCast]
    exact ⟨by lia, (List.mem_filter.mp hi).2⟩
  · rintro ⟨h0, hb⟩
    refine ⟨n.toNat, List.mem_filter.mpr ⟨List.mem_range.mpr ?_, hb⟩, by lia⟩
    rcases Nat.lt_or_ge n.toNat (nb m) with z | z
    · exact z
    · rw [nb_top z] at hb
      cases hb
theorem wl_rise (m : Nat) : (wl m).Pairwise (· < ·) := by
  unfold wl
  refine List.pairwise_map.mpr ((List.Pairwise.filter _ List.pairwise_lt_range).imp fun h => ?_)
  lia
theorem wl_is {ns ds zs : List Int} (h : Wd ns) (nd : ds.Nodup) (me : ∀ n, n ∈ ds ↔ n ∈ ns) (pm : zs.Perm ds) (so : zs.Pairwise (· ≤ ·)) : zs = wl (bt ns) := by
  have nw : (wl (bt ns)).Nodup := (wl_rise _).imp fun h => by lia
  have p2 : (wl (bt ns)).Perm ds := by
    refine (List.perm_ext_iff_of_nodup nw nd).mpr fun n => ?_
    rw [me n, wl_mem]
    constructor
    · rintro ⟨h0, hb⟩
      rw [bt_mem h h0] at hb
      exact of_decide_eq_true hb
    · intro hn
      have h0 := (h n hn).1
      exact ⟨h0, by rw [bt_mem h h0]; exact decide_eq_true hn⟩
  exact List.Perm.eq_of_pairwise (le := (· ≤ ·)) (fun a b _ _ h1 h2 => by lia) so ((wl_rise _).imp fun h => by lia) (pm.trans p2.symm)
theorem bit_is (m i : Nat) : Builtin.bitAnd ((m : Int) / 2 ^ i) 1 = if m.testBit i then 1 else 0 := by
  rw [pow_i, ← Int.natCast_ediv]
  show Builtin.bitAnd ((m / 2 ^ i : Nat) : Int) ((1 : Nat) : Int) = _
  rw [and_nat, Nat.and_one_is_mod, Nat.testBit_eq_decide_div_mod_eq]
  have : m / 2 ^ i % 2 < 2 := Nat.mod_lt _ (by decide)
  by_cases h : m / 2 ^ i % 2 = 1
  · simp [h]
  · have h2 : m / 2 ^ i % 2 = 0 := by lia
    simp [h2]
theorem in_all {xs ys : List Int} (hx : Wd xs) (hy : Wd ys) : decide (Builtin.bitAnd (bt xs : Int) (bt ys) = (bt xs : Int)) = xs.all fun x => decide (x ∈ ys) := by
  rw [and_nat, Bool.eq_iff_iff, decide_eq_true_eq, List.all_eq_true]
  constructor
  · intro e x hxx
    have e2 : bt xs &&& bt ys = bt xs := by lia
    have h0 := (hx x hxx).1
    have e3 := congrArg (fun m => m.testBit x.toNat) e2
    rw [Nat.testBit_and, bt_mem hx h0, bt_mem hy h0, decide_eq_true hxx, Bool.true_and] at e3
    exact e3
  · intro h
    congr 1
    refine Nat.eq_of_testBit_eq fun i => ?_
    rw [Nat.testBit_and]
    have h0 : (0 : Int) ≤ (i : Int) := by lia
    have e1 := bt_mem hx h0
    have e2 := bt_mem hy h0
    rw [Int.toNat_natCast] at e1 e2
    rw [e1, e2]
    by_cases hm : (i : Int) ∈ xs
    · rw [decide_eq_true hm, of_decide_eq_true (h _ hm) |> decide_eq_true]
      rfl
    · rw [decide_eq_false hm]
      rfl
theorem out_is {xs ys : List Int} (hx : Wd xs) (hy : Wd ys) : Builtin.bitXor (bt xs : Int) (Builtin.bitAnd (bt xs : Int) (bt ys)) = (bt (xs.filter fun x => !decide (x ∈ ys)) : Int) := by
  have hf : Wd (xs.filter fun x => !decide (x ∈ ys)) := fun n hn => hx n (List.mem_filter.mp hn).1
  have bitF : ∀ i : Nat, (bt (xs.filter fun x => !decide (x ∈ ys))).testBit i = ((bt xs).testBit i && !(bt ys).testBit i) := fun i => by
    have h0 : (0 : Int) ≤ (i : Int) := by lia
    have e1 := bt_mem hx h0
    have e2 := bt_mem hy h0
    have e3 := bt_mem hf h0
    rw [Int.toNat_natCast] at e1 e2 e3
    rw [e1, e2, e3, Bool.eq_iff_iff, decide_eq_true_eq, List.mem_filter]
    simp
  have c1 : bt xs ||| (bt xs &&& bt ys) = bt xs := by
    refine Nat.eq_of_testBit_eq fun i => ?_
    rw [Nat.testBit_or, Nat.testBit_and]
    cases (bt xs).testBit i <;> rfl
  have c2 : bt xs &&& (bt xs &&& bt ys) = bt xs &&& bt ys := by
    refine Nat.eq_of_testBit_eq fun i => ?_
    rw [Nat.testBit_and, Nat.testBit_and]
    cases (bt xs).testBit i <;> rfl
  have c3 : bt (xs.filter fun x => !decide (x ∈ ys)) &&& (bt xs &&& bt ys) = 0 := by
    refine Nat.eq_of_testBit_eq fun i => ?_
    rw [Nat.testBit_and, Nat.testBit_and, bitF, Nat.zero_testBit]
    cases (bt xs).testBit i <;> cases (bt ys).testBit i <;> rfl
  have c4 : bt (xs.filter fun x => !decide (x ∈ ys)) ||| (bt xs &&& bt ys) = bt xs := by
    refine Nat.eq_of_testBit_eq fun i => ?_
    rw [Nat.testBit_or, Nat.testBit_and, bitF]
    cases (bt xs).testBit i <;> cases (bt ys).testBit i <;> rfl
  have c5 := add_or c3
  rw [c4] at c5
  unfold Builtin.bitXor
  rw [and_nat, or_nat, and_nat, c1, c2]
  lia
theorem iteT' {c : Bool} {A B : Prop} (h : c = true) (a : A) : if c = true then A else B := by rw [if_pos h]; exact a
theorem iteF' {c : Bool} {A B : Prop} (h : ¬ c = true) (b : B) : if c = true then A else B := by rw [if_neg h]; exact b
noncomputable def kT (ks : List Int) : List (Key × V) := ks.map fun n => (Sum.inl n, V.bl true)
theorem kT_len (ks : List Int) : (kT ks).length = ks.length := List.length_map ..
theorem kT_at {ks : List Int} {i : Nat} (h : i < ks.length) : (kT ks)[i]? = some (Sum.inl ks[i], V.bl true) := by
  unfold kT
  rw [List.getElem?_map, List.getElem?_eq_getElem h]
  rfl
theorem kT_any (ks : List Int) (n : Int) : ((kT ks).any fun kv => decide (kv.1 = (Sum.inl n : Key))) = decide (n ∈ ks) := by
  unfold kT
  rw [List.any_map, Bool.eq_iff_iff, List.any_eq_true, decide_eq_true_eq]
  constructor
  · rintro ⟨m, hm, e⟩
    have e2 : (Sum.inl m : Key) = Sum.inl n := of_decide_eq_true e
    cases e2
    exact hm
  · intro hm
    exact ⟨n, hm, decide_eq_true rfl⟩
theorem kT_new {ks : List Int} {n : Int} (h : ¬ n ∈ ks) : putK (kT ks) (Sum.inl n : Key) (V.bl true) = kT (ks ++ [n]) := by
  unfold putK
  rw [kT_any, decide_eq_false h]
  unfold kT
  rw [List.map_append]
  rfl
theorem kT_old {ks : List Int} {n : Int} (h : n ∈ ks) : putK (kT ks) (Sum.inl n : Key) (V.bl true) = kT ks := by
  unfold putK
  rw [kT_any, decide_eq_true h, if_pos rfl]
  unfold kT
  rw [List.map_map]
  refine List.map_congr_left fun m _ => ?_
  show (if (Sum.inl m : Key) = Sum.inl n then ((Sum.inl m : Key), V.bl true) else ((Sum.inl m : Key), V.bl true)) = _
  split <;> rfl
theorem cut60 (ns : List Int) : (cutV (ns.map V.int) none (some 60)).length ≤ 60 := by
  show (cutV (ns.map V.int) none (some ((60 : Nat) : Int))).length ≤ 60
  unfold cutV
  rw [HT.sIx_none, HT.sIx_nat, List.drop_zero, Nat.sub_zero, List.length_take]
  lia
theorem seq_gen {s R : TS} {D : Ends} {σ : L2.St} {H : Hp} (I : L2.St → Hp → Prop) (hR : ∀ σ' H', I σ' H' → R D σ' H') (hs : ∀ N : L2.St → Hp → Prop, (∀ σ' H', I σ' H' → N σ' H') → s { D with nx := N } σ H) : tSeq s R D σ H := hs (R D) hR
theorem seq_genG {i : Nat} {v : V} {s R : TS} {D : Ends} {σ : L2.St} {H : Hp} (I : L2.St → Hp → Prop) (hR : ∀ σ' H', I σ' H' → R D σ' H') (hs : ∀ N : L2.St → Hp → Prop, (∀ σ' H', I σ' H' → N σ' H') → gName i v σ H fun σ2 H2 => s { D with nx := N } σ2 H2) : gName i v σ H (tSeq s R D) := hs (R D) hR
theorem rd_ints {H : Hp} : ∀ ns : List Int, RdVs H (ns.map V.int) (ns.map PyData.int)
  | [] => .nil
  | n :: r => .cons (.int n) (rd_ints r)
theorem eqv_int1 (n : Int) : PyData.eqv (.int n) (.int n) = true := by simp [PyData.eqv]
theorem eqvAll_ints : ∀ ns : List Int, PyData.eqvAll (ns.map PyData.int) (ns.map PyData.int) = true
  | [] => by simp [PyData.eqvAll]
  | n :: r => by rw [List.map_cons, PyData.eqvAll, eqv_int1, eqvAll_ints r]; rfl
theorem eqv_ints (ns : List Int) : PyData.eqv (.list (ns.map PyData.int)) (.list (ns.map PyData.int)) = true := by
  rw [PyData.eqv, eqvAll_ints]
theorem lay_ints : ∀ ns : List Int, PyData.canLayAll0 (ns.map PyData.int) = true
  | [] => by rw [List.map_nil, PyData.canLayAll0]
  | n :: r => by
    rw [List.map_cons, PyData.canLayAll0, lay_ints r, PyData.canLay0]
    rfl
theorem deep_ints : ∀ ns : List Int, PyData.depthAll (ns.map PyData.int) ≤ 0
  | [] => by rw [List.map_nil, PyData.depthAll]; exact Nat.zero_le _
  | n :: r => by
    have h := deep_ints r
    rw [List.map_cons, PyData.depthAll, PyData.depth]
    lia
theorem sh_ints (ns : List Int) : shaped (.list (ns.map PyData.int)) = true := by
  unfold shaped
  rw [PyData.canLay0, lay_ints, PyData.depth]
  have := deep_ints ns
  (rw [decide_eq_true (by lia)])
  rfl
theorem dd_ints (ns : List Int) : ∃ ds : List Int, SK.dd (kAt (ns.map (Sum.inl : Int → Key))) (ns.map (Sum.inl : Int → Key)).length = ds.map Sum.inl ∧ ds.Nodup ∧ (∀ n, n ∈ ds ↔ n ∈ ns) ∧ ds.length ≤ ns.length := by
  have hl : (ns.map (Sum.inl : Int → Key)).length = ns.length := List.length_map ..
  rw [hl]
  have go : ∀ i, i ≤ ns.length → ∃ ds : List Int, SK.dd (kAt (ns.map (Sum.inl : Int → Key))) i = ds.map Sum.inl ∧ ds.Nodup ∧ (∀ n, n ∈ ds ↔ n ∈ ns.take i) ∧ ds.length ≤ i := by
    intro i
    induction i with
    | zero => exact fun _ => ⟨[], rfl, List.nodup_nil, fun n => by simp, Nat.le_refl _⟩
    | succ i ih =>
      intro hi
      have hi2 : i < ns.length := hi
      obtain ⟨ds, e, nd, me, le⟩ := ih (by lia)
      have ev : kAt (ns.map (Sum.inl : Int → Key)) i = Sum.inl ns[i] := by simp [kAt, List.getD, hi2]
      have htk := List.take_succ_eq_append_getElem hi2
      have hin : (Sum.inl ns[i] : Key) ∈ ds.map (Sum.inl : Int → Key) ↔ ns[i] ∈ ds := by
        rw [List.mem_map]
        exact ⟨fun ⟨m, hm, e⟩ => by cases e; exact hm, fun h => ⟨_, h, rfl⟩⟩
      by_cases hm : ns[i] ∈ ds
      · refine ⟨ds, ?_, nd, fun n => ?_, by lia⟩
        · unfold SK.dd
          rw [e, ev, if_pos (hin.mpr hm)]
        · rw [htk, List.mem_append, List.mem_singleton, me n]
          exact ⟨.inl, fun z => z.elim id fun z => by rw [z]; exact (me _).mp hm⟩
      · refine ⟨ds ++ [ns[i]], ?_, nd_snoc nd hm, fun n => ?_, by rw [List.length_append]; exact Nat.succ_le_succ le⟩
        · unfold SK.dd
          rw [e, ev, if_neg fun z => hm (hin.mp z), List.map_append]
          rfl
        · rw [htk, List.mem_append, List.mem_append, me n]
  obtain ⟨ds, e, nd, me, le⟩ := go ns.length (Nat.le_refl _)
  rw [List.take_length] at me
  exact ⟨ds, e, nd, me, le⟩
theorem in_ints (n : Int) (ys : List Int) : inV (.int n) (ys.map V.int) = decide (n ∈ ys) := by
  unfold inV
  rw [List.any_map, Bool.eq_iff_iff, List.any_eq_true, decide_eq_true_eq]
  constructor
  · rintro ⟨m, hm, e⟩
    have e2 : m = n := by simpa [eqV] using e
    rw [← e2]
    exact hm
  · intro hm
    exact ⟨n, hm, by simp [eqV]⟩
theorem in_bls (bs : List Bool) : (!inV (.bl false) (bs.map V.bl)) = bs.all fun b => b := by
  unfold inV
  rw [List.any_map]
  induction bs with
  | nil => rfl
  | cons b r ih =>
    rw [List.any_cons, List.all_cons, Bool.not_or, ih]
    cases b <;> rfl
theorem flat_ints (ys : List Int) : (ys.map V.int).all flatV = true := List.all_eq_true.mpr fun v hv => by
  obtain ⟨n, _, rfl⟩ := List.mem_map.mp hv
  rfl
theorem flat_bls (ys : List Bool) : (ys.map V.bl).all flatV = true := List.all_eq_true.mpr fun v hv => by
  obtain ⟨n, _, rfl⟩ := List.mem_map.mp hv
  rfl
structure JL (K : PySem.W.Frag) (a l1 l2 : Addr) (ns m1 m2 : List Int) (H : Hp) : Prop where
  sc : SqL K H a (ns.map V.int)
  e1 : H l1 = some (.lst (m1.map V.int))
  e2 : H l2 = some (.lst (m2.map V.int))
  w1 : Wd m1
  w2 : Wd m2
  z1 : m1.length ≤ 60
  z2 : m2.length ≤ 60
theorem JL.same {K : PySem.W.Frag} {a l1 l2 : Addr} {ns m1 m2 : List Int} {H H' : Hp} (j : JL K a l1 l2 ns m1 m2 H) (s : Same H H') : JL K a l1 l2 ns m1 m2 H' := ⟨s.seq j.sc, s _ _ j.e1, s _ _ j.e2, j.w1, j.w2, j.z1, j.z2⟩
inductive spSetOf (K : PySem.W.Frag) (vs : List V) (H : Hp) (Q : VK) (E0_ : XK) : Prop
  | mk (a : Addr) (ns : List Int) (c0 : vs = [.ref a]) (c1 : SqL K H a (ns.map V.int)) (c2 : Wd ns) (c3 : Q (.int (bt ns : Nat)) H) : spSetOf K vs H Q E0_
inductive spWof (vs : List V) (H : Hp) (Q : VK) (E0_ : XK) : Prop
  | mk (m : Nat) (c0 : vs = [.int (m : Nat)]) (c1 : m < 2 ^ 200) (c2 : ∀ (l : Addr) (H' : Hp), Same H H' → H l = none → H' l = some (.lst ((wl m).map V.int)) → Q (.ref l) H') : spWof  vs H Q E0_
inductive spSize (vs : List V) (H : Hp) (Q : VK) (E0_ : XK) : Prop
  | mk (m : Nat) (c0 : vs = [.int (m : Nat)]) (c1 : m < 2 ^ 200) (c2 : ∀ (H' : Hp), Same H H' → Q (.int ((wl m).length : Nat)) H') : spSize  vs H Q E0_
noncomputable def headV : List Int → V
  | [] => .non
  | n :: _ => .int n
inductive spLeast (vs : List V) (H : Hp) (Q : VK) (E0_ : XK) : Prop
  | mk (m : Nat) (c0 : vs = [.int (m : Nat)]) (c1 : m < 2 ^ 200) (c2 : ∀ (H' : Hp), Same H H' → Q (headV (wl m)) H') : spLeast  vs H Q E0_
inductive spIn (vs : List V) (H : Hp) (Q : VK) (E0_ : XK) : Prop
  | mk (i j : Int) (c0 : vs = [.int i, .int j]) (c1 : Q (.bl (decide (V.int (Builtin.bitAnd i j) = V.int i))) H) : spIn  vs H Q E0_
inductive spOut (vs : List V) (H : Hp) (Q : VK) (E0_ : XK) : Prop
  | mk (i j : Int) (c0 : vs = [.int i, .int j]) (c1 : Q (.int (Builtin.bitXor i (Builtin.bitAnd i j))) H) : spOut  vs H Q E0_
inductive spBits (K : PySem.W.Frag) (vs : List V) (H : Hp) (Q : VK) (E0_ : XK) : Prop
  | mk (a : Addr) (ns : List Int) (c0 : vs = [.ref a]) (c1 : SqL K H a (ns.map V.int)) (c2 : Wd ns) (c3 : ns.length ≤ 60) (c4 : ∀ (H' : Hp), Same H H' → Q (.int (bt ns : Nat)) H') : spBits K vs H Q E0_
inductive spList (K : PySem.W.Frag) (vs : List V) (H : Hp) (Q : VK) (E0_ : XK) : Prop
  | mk (a : Addr) (ns : List Int) (k : Int) (c0 : vs = [.ref a, .int k]) (c1 : SqL K H a (ns.map V.int)) (c2 : ns.length ≤ 63) (c3 : 0 ≤ k) (c4 : k < 1000) (c5 : ∀ (l : Addr) (ms : List Int) (H' : Hp), Same H H' → H l = none → H' l = some (.lst (ms.map V.int)) → Wd ms → ms.length ≤ 60 → Q (.ref l) H') : spList K vs H Q E0_
inductive spTold (vs : List V) (H : Hp) (Q : VK) (E0_ : XK) : Prop
  | mk (a : Addr) (ns : List Int) (c0 : vs = [.ref a]) (c1 : H a = some (.lst (ns.map V.int))) (c2 : Wd ns) (c3 : ns.length ≤ 60) (c4 : ∀ (H' : Hp), Same H H' → Q (.bl true) H') : spTold  vs H Q E0_
inductive spLaw (K : PySem.W.Frag) (vs : List V) (H : Hp) (Q : VK) (E0_ : XK) : Prop
  | mk (a : Addr) (ns : List Int) (c0 : vs = [.ref a]) (c1 : SqL K H a (ns.map V.int)) (c2 : ns.length ≤ 63) (c3 : ∀ H', Q (.bl true) H') : spLaw K vs H Q E0_
noncomputable abbrev pSetOf : List Str := ["worlds"]
noncomputable abbrev nSetOf : List Str := ["worlds", "some", "world"]
theorem scSetOf : FnScope nSetOf pSetOf (defScope sSetOf) := ⟨rfl, rfl, rfl, by decide +kernel, rfl, by decide +kernel, by decide +kernel⟩
noncomputable abbrev pWorldsOf : List Str := ["some"]
noncomputable abbrev nWorldsOf : List Str := ["some"]
theorem scWorldsOf : FnScope nWorldsOf pWorldsOf (defScope sWorldsOf) := ⟨rfl, rfl, rfl, by decide +kernel, rfl, by decide +kernel, by decide +kernel⟩
noncomputable abbrev pSizeOf : List Str := ["some"]
noncomputable abbrev nSizeOf : List Str := ["some"]
theorem scSizeOf : FnScope nSizeOf pSizeOf (defScope sSizeOf) := ⟨rfl, rfl, rfl, by decide +kernel, rfl, by decide +kernel, by decide +kernel⟩
noncomputable abbrev pLeastOf : List Str := ["some"]
noncomputable abbrev nLeastOf : List Str := ["some", "worlds"]
theorem scLeastOf : FnScope nLeastOf pLeastOf (defScope sLeastOf) := ⟨rfl, rfl, rfl, by decide +kernel, rfl, by decide +kernel, by decide +kernel⟩
noncomputable abbrev pWithin : List Str := ["one", "other"]
noncomputable abbrev nWithin : List Str := ["one", "other"]
theorem scWithin : FnScope nWithin pWithin (defScope sWithin) := ⟨rfl, rfl, rfl, by decide +kernel, rfl, by decide +kernel, by decide +kernel⟩
noncomputable abbrev pWithout : List Str := ["one", "other"]
noncomputable abbrev nWithout : List Str := ["one", "other"]
theorem scWithout : FnScope nWithout pWithout (defScope sWithout) := ⟨rfl, rfl, rfl, by decide +kernel, rfl, by decide +kernel, by decide +kernel⟩
noncomputable abbrev pLBits : List Str := ["_law_worlds"]
noncomputable abbrev nLBits : List Str := ["_law_worlds", "_law_found", "_law_world"]
theorem scLBits : FnScope nLBits pLBits (defScope sLBits) := ⟨rfl, rfl, rfl, by decide +kernel, rfl, by decide +kernel, by decide +kernel⟩
noncomputable abbrev pLList : List Str := ["_law_script", "_law_k"]
noncomputable abbrev nLList : List Str := ["_law_script", "_law_k", "_law_count"]
theorem scLList : FnScope nLList pLList (defScope sLList) := ⟨rfl, rfl, rfl, by decide +kernel, rfl, by decide +kernel, by decide +kernel⟩
noncomputable abbrev pLTold : List Str := ["_law_worlds"]
noncomputable abbrev nLTold : List Str := ["_law_worlds", "_law_handed", "_law_some", "_law_due", "_law_told_here"]
theorem scLTold : FnScope nLTold pLTold (defScope sLTold) := ⟨rfl, rfl, rfl, by decide +kernel, rfl, by decide +kernel, by decide +kernel⟩
noncomputable abbrev pLaw : List Str := ["_law_script"]
noncomputable abbrev nLaw : List Str := ["_law_script", "_law_one", "_law_other", "_law_some", "_law_more", "_law_inside", "_law_left"]
theorem scLaw : FnScope nLaw pLaw (defScope sLaw) := ⟨rfl, rfl, rfl, by decide +kernel, rfl, by decide +kernel, by decide +kernel⟩
end
end K16
namespace K16
open PySem L2 Tx Rk PyProof.Rows PySem.SeqAt
open PySem.PyData (strOk)
section
variable {P : Program} {w : World} {K : PySem.W.Frag} {mg : Str → Option Value} {base : Heap}
theorem ok_setof {f : Addr} {fd : FuncData} (F : Fun K "set_of" "set_of" sSetOf f fd) : FnOk P w K mg base CX0 1 f fd pSetOf (spSetOf K) := by
  refine F.ok scSetOf (fun vs H Q E h => ?_) (fun cdv A outer s H vs Q E hr h => ?_)
  · obtain ⟨a, ns, rfl, _⟩ := h
    rfl
  · obtain ⟨a, ns, rfl, hS, wd, q⟩ := h
    refine ⟨_, (pss_cons (ps_set (i := 1) scSetOf.nd rfl (Or.inl rfl) pe_int)
      (pss_cons (ps_for PassesOwn.never rfl (pi_list (pv 0)) (pg_name (i := 2) scSetOf.nd rfl (Or.inl rfl))
        (pss_one (ps_set (i := 1) scSetOf.nd rfl (Or.inl rfl) (pe_op op_or (pv 1) (pe_op op_shl pe_int (pv 2))))))
      (pss_one (ps_ret (pv 1))))), ?_⟩
    refine ⟨_, rfl, a, rfl, ⟨_, hS⟩, for_list (K := K) (a := a) (xs := ns.map V.int) (fun i σ H2 => ∃ v2 : Option V, σ = [some (.ref a), some (.int (bt (ns.take i) : Nat)), v2] ∧ H2 = H) ⟨none, rfl, rfl⟩ (fun i σ H2 _ hh0 => by obtain ⟨_, _, e⟩ := hh0; rw [e]; exact hS) ?_ ?_⟩
    · rintro i x σ H2 hx ⟨v2, rfl, e⟩
      rw [List.getElem?_map] at hx
      obtain ⟨n, en, rfl⟩ := Option.map_eq_some_iff.mp hx
      have hi : i < ns.length := (List.getElem?_eq_some_iff.mp en).1
      have hni : ns[i] = n := (List.getElem?_eq_some_iff.mp en).2
      have hw := wd n (List.mem_of_getElem? en)
      have key : Builtin.bitOr ((bt (ns.take i) : Nat) : Int) (1 * 2 ^ n.toNat) = ((bt (ns.take (i + 1)) : Nat) : Int) := by
        rw [List.take_succ_eq_append_getElem hi, hni, bt_snoc, Int.one_mul, pow_i, or_nat]
      refine ⟨_, rfl, _, rfl, _, _, rfl, rfl, ⟨hw.1, by lia, by decide⟩, _, _, rfl, rfl, ?_⟩
      exact ⟨some (.int n), by rw [← key]; rfl, e⟩
    · rintro σ H2 ⟨v2, rfl, e⟩
      rw [show (ns.map V.int).length = ns.length from List.length_map .., List.take_length, e]
      exact ⟨_, rfl, q⟩
end
end K16
namespace K16
open PySem L2 Tx Rk PyProof.Rows PySem.SeqAt
open PySem.PyData (strOk)
section
variable {P : Program} {w : World} {K : PySem.W.Frag} {mg : Str → Option Value} {base : Heap}
theorem ok_worldsof {f : Addr} {fd : FuncData} (F : Fun K "worlds_of" "worlds_of" sWorldsOf f fd) (T : Bl mg) : FnOk P w K mg base CX0 1 f fd pWorldsOf spWof := by
  refine F.ok scWorldsOf (fun vs H Q E h => ?_) (fun cdv A outer s H vs Q E hr h => ?_)
  · obtain ⟨m, rfl, _⟩ := h
    rfl
  · obtain ⟨m, rfl, hm, q⟩ := h
    have hsl : sizeLine = 16777216 := sizeLine_eq
    refine ⟨_, (pss_one (ps_ret (pe_lc (N := ["world", "some"]) (sc := defScope sWorldsOf) (own := ["world"]) (fr := ["some"]) (js := [0]) ⟨rfl, rfl, rfl, rfl, by decide +kernel, by decide +kernel, by decide +kernel, rfl, by decide +kernel⟩ rfl (pi_range1 (by rfl) T.range (pa_cons (pe_bm0 PySem.F.plainAttrs_int PySem.F.slot_int_bit_length PySem.F.type_int_bit_length mt_bitlen (pv 0)) pa_nil)) (fun _ _ _ _ => pg_name (i := 0) (show List.Nodup (["world", "some"] : List Str) by decide +kernel) rfl (Or.inl rfl)) (fun _ _ _ _ => pif_one (pt_cmpR op_eq (pe_op op_and (pe_op op_shr (pv 1) (pv 0)) pe_int) pe_int (nomark _))) (fun _ _ _ _ => (pv 0))))), ?_⟩
    have hnb : nb m ≤ 200 := nb_le hm
    have hnb2 : Builtin.Int.intBits (m : Int) ≤ 200 := hnb
    refine ⟨_, rfl, rfl, _, rfl, rfl, _, rfl, by lia, by lia, fun D hD => ?_⟩
    refine lcJ (n := nb m) (fun i ys H2 => ys = (((List.range i).filter fun j => m.testBit j).map fun (j : Nat) => (j : Int)).map V.int ∧ Same H H2 ∧ H2 D = some (.lst ys)) ⟨rfl, Same.new hD, upd_same⟩
      (fun i ys H2 hi _ => by show i < _; rw [Int.toNat_natCast]; exact hi) (fun ys H2 _ => by show _ ≤ nb m; rw [Int.toNat_natCast]; exact Nat.le_refl _) ?_ ?_
    · rintro i ys H2 x H3 hi ⟨rfl, s2, e2⟩ ⟨rfl, rfl⟩
      have e0 : (0 + (i : Int)).toNat = i := by lia
      refine ⟨_, rfl, _, rfl, _, _, rfl, rfl, by show (0 : Int) ≤ 0 + (i : Int); lia, _, _, rfl, rfl, rfl, _, rfl, ?_⟩
      rw [e0, bit_is]
      have hl : ((((List.range i).filter fun j => m.testBit j).map fun (j : Nat) => (j : Int)).map V.int).length < sizeLine := by
        rw [List.length_map, List.length_map]
        have := List.length_filter_le (fun j => m.testBit j) (List.range i)
        rw [List.length_range] at this
        lia
      cases hb : m.testBit i with
      | true =>
        refine iteT' rfl ?_
        refine ⟨_, rfl, _, e2, hl, ?_, s2.put hD, upd_same⟩
        rw [List.range_succ, List.filter_append, List.map_append, List.map_append]
        simp [hb]
      | false =>
        refine iteF' (by decide) ?_
        refine ⟨?_, s2, ?_⟩
        · rw [List.range_succ, List.filter_append]
          simp [hb]
        · exact e2
    · rintro ys H2 ⟨rfl, s2, e2⟩
      exact q D H2 s2 hD e2
end
end K16
namespace K16
open PySem L2 Tx Rk PyProof.Rows PySem.SeqAt
open PySem.PyData (strOk)
section
variable {P : Program} {w : World} {K : PySem.W.Frag} {mg : Str → Option Value} {base : Heap}
theorem ok_sizeof {f f1 : Addr} {fd d1 : FuncData} (F : Fun K "size_of" "size_of" sSizeOf f fd) (T : Bl mg) (D_worlds_of : Df K mg "worlds_of" sWorldsOf pWorldsOf f1 d1) (G_worlds_of : FnOk P w K mg base CX0 1 f1 d1 pWorldsOf spWof) : FnOk P w K mg base CX0 2 f fd pSizeOf spSize := by
  refine F.ok scSizeOf (fun vs H Q E h => ?_) (fun cdv A outer s H vs Q E hr1 h => ?_)
  · obtain ⟨m, rfl, _⟩ := h
    rfl
  · obtain ⟨m, rfl, hm, q⟩ := h
    refine ⟨_, (pss_one (ps_ret (pe_callB call_len (by rfl) T.len PySem.boot_len (pa_cons (pe_call G_worlds_of hr1 (by rfl) D_worlds_of.m D_worlds_of.F.kp D_worlds_of.b .nil pass0 (pa_cons (pv 0) pa_nil)) pa_nil)))), ?_⟩
    refine ⟨_, rfl, m, rfl, hm, fun l H1 s1 hl e1 => ?_⟩
    have e2 : ((wl m).map V.int).length = (wl m).length := List.length_map ..
    refine ⟨_, _, rfl, .inl ⟨_, SqL.of e1, rfl⟩, ?_⟩
    rw [e2]
    exact q H1 s1
end
end K16
namespace K16
open PySem L2 Tx Rk PyProof.Rows PySem.SeqAt
open PySem.PyData (strOk)
section
variable {P : Program} {w : World} {K : PySem.W.Frag} {mg : Str → Option Value} {base : Heap}
theorem ok_leastof {f f1 : Addr} {fd d1 : FuncData} (F : Fun K "least_of" "least_of" sLeastOf f fd) (T : Bl mg) (D_worlds_of : Df K mg "worlds_of" sWorldsOf pWorldsOf f1 d1) (G_worlds_of : FnOk P w K mg base CX0 1 f1 d1 pWorldsOf spWof) : FnOk P w K mg base CX0 2 f fd pLeastOf spLeast := by
  refine F.ok scLeastOf (fun vs H Q E h => ?_) (fun cdv A outer s H vs Q E hr1 h => ?_)
  · obtain ⟨m, rfl, _⟩ := h
    rfl
  · obtain ⟨m, rfl, hm, q⟩ := h
    refine ⟨_, (pss_cons (ps_set (i := 1) scLeastOf.nd rfl (Or.inl rfl) (pe_call G_worlds_of hr1 (by rfl) D_worlds_of.m D_worlds_of.F.kp D_worlds_of.b .nil pass0 (pa_cons (pv 0) pa_nil)))
      (pss_one (ps_ret (pe_ifExp (pt_cmpR op_gt (pe_callB call_len (by rfl) T.len PySem.boot_len (pa_cons (pv 1) pa_nil)) pe_int (nomark _)) (pe_ix ix_list (pv 1) pe_int (fun _ _ => rfl)) pe_non)))), ?_⟩
    refine ⟨_, rfl, m, rfl, hm, fun l H1 s1 hl e1 => ?_⟩
    have e2 : ((wl m).map V.int).length = (wl m).length := List.length_map ..
    have q1 := q H1 s1
    refine ⟨_, rfl, _, _, rfl, .inl ⟨_, SqL.of e1, rfl⟩, _, _, rfl, rfl, _, rfl, ?_⟩
    rw [e2]
    cases hw : wl m with
    | nil =>
      rw [hw] at q1
      exact iteF' (by decide) q1
    | cons n r =>
      rw [hw] at q1 e1
      have hat : atI ((n :: r).map V.int) ((0 : Nat) : Int) = some (.int n) := atI_nat rfl
      exact iteT' (decide_eq_true (by rw [List.length_cons]; lia)) ⟨_, rfl, l, _, _, _, rfl, rfl, SqL.of e1, hat, q1⟩
end
end K16
namespace K16
open PySem L2 Tx Rk PyProof.Rows PySem.SeqAt
open PySem.PyData (strOk)
section
variable {P : Program} {w : World} {K : PySem.W.Frag} {mg : Str → Option Value} {base : Heap}
theorem ok_within {f : Addr} {fd : FuncData} (F : Fun K "within" "within" sWithin f fd) : FnOk P w K mg base CX0 1 f fd pWithin spIn := by
  refine F.ok scWithin (fun vs H Q E h => ?_) (fun cdv A outer s H vs Q E hr h => ?_)
  · obtain ⟨i, j, rfl, _⟩ := h
    rfl
  · obtain ⟨i, j, rfl, q⟩ := h
    refine ⟨_, (pss_one (ps_ret (pe_cmpR op_eq (pe_op op_and (pv 0) (pv 1)) (pv 0) (nomark _)))), ?_⟩
    exact ⟨_, rfl, _, rfl, _, _, rfl, rfl, _, rfl, rfl, q⟩
end
end K16
namespace K16
open PySem L2 Tx Rk PyProof.Rows PySem.SeqAt
open PySem.PyData (strOk)
section
variable {P : Program} {w : World} {K : PySem.W.Frag} {mg : Str → Option Value} {base : Heap}
theorem ok_without {f : Addr} {fd : FuncData} (F : Fun K "without" "without" sWithout f fd) : FnOk P w K mg base CX0 1 f fd pWithout spOut := by
  refine F.ok scWithout (fun vs H Q E h => ?_) (fun cdv A outer s H vs Q E hr h => ?_)
  · obtain ⟨i, j, rfl, _⟩ := h
    rfl
  · obtain ⟨i, j, rfl, q⟩ := h
    refine ⟨_, (pss_one (ps_ret (pe_op op_xor (pv 0) (pe_op op_and (pv 0) (pv 1))))), ?_⟩
    exact ⟨_, rfl, _, rfl, _, rfl, _, _, rfl, rfl, _, _, rfl, rfl, q⟩
end
end K16
namespace K16
open PySem L2 Tx Rk PyProof.Rows PySem.SeqAt
open PySem.PyData (strOk)
section
variable {P : Program} {w : World} {K : PySem.W.Frag} {mg : Str → Option Value} {base : Heap}
theorem ok_bits {f : Addr} {fd : FuncData} (F : Fun K "_law_bits" "_law_bits" sLBits f fd) (T : Bl mg) : FnOk P w K mg base CX0 1 f fd pLBits (spBits K) := by
  refine F.ok scLBits (fun vs H Q E h => ?_) (fun cdv A outer s H vs Q E hr h => ?_)
  · obtain ⟨a, ns, rfl, _⟩ := h
    rfl
  · obtain ⟨a, ns, rfl, hS, wd, hn, q⟩ := h
    have hu := hu_of hr
    have hsl : sizeLine = 16777216 := sizeLine_eq
    refine ⟨_, (pss_cons (ps_set (i := 1) scLBits.nd rfl (Or.inl rfl) pe_dnewK)
      (pss_cons (ps_for PassesOwn.never rfl (pi_list (pv 0)) (pg_name (i := 2) scLBits.nd rfl (Or.inl rfl))
        (pss_one (ps_dput hu (pv 1) (pv 2) pe_bl rfl)))
      (pss_one (ps_ret (pe_callB (call_sumI rfl) (by rfl) T.sum bt_sum (pa_cons (pe_lc (N := ["_law_world"]) (sc := defScope sLBits) (own := ["_law_world"]) (fr := []) (js := []) ⟨rfl, rfl, rfl, rfl, by decide +kernel, by decide +kernel, by decide +kernel, rfl, by decide +kernel⟩ rfl (pi_keys (pv 1)) (fun _ _ _ _ => pg_name (i := 0) (show List.Nodup (["_law_world"] : List Str) by decide +kernel) rfl (Or.inl rfl)) (fun _ _ _ _ => pif_nil) (fun _ _ _ _ => (pe_op op_shl pe_int (pv 0)))) pa_nil)))))), ?_⟩
    intro d hd
    have s0 : Same H (upd H d (.dK [])) := Same.new hd
    refine ⟨_, rfl, a, rfl, ⟨_, s0.seq hS⟩, for_list (K := K) (a := a) (xs := ns.map V.int) (fun i σ H2 => ∃ (v2 : Option V) (ks : List Int), σ = [some (.ref a), some (.ref d), v2] ∧ Same H H2 ∧ H2 d = some (.dK (kT ks)) ∧ ks.Nodup ∧ ks.length ≤ i ∧ ∀ n, n ∈ ks ↔ n ∈ ns.take i) ⟨none, [], rfl, s0, upd_same, List.nodup_nil, Nat.le_refl _, fun n => by simp⟩
      (fun i σ H2 _ hh0 => by obtain ⟨_, _, _, s2, _⟩ := hh0; exact s2.seq hS) ?_ ?_⟩
    · rintro i x σ H2 hx ⟨v2, ks, rfl, s2, e2, nd, hk, me⟩
      rw [List.getElem?_map] at hx
      obtain ⟨n, en, rfl⟩ := Option.map_eq_some_iff.mp hx
      have hi : i < ns.length := (List.getElem?_eq_some_iff.mp en).1
      have hni : ns[i] = n := (List.getElem?_eq_some_iff.mp en).2
      have hkl : (kT ks).length = ks.length := kT_len ks
      refine ⟨_, rfl, _, rfl, d, _, rfl, DPut.k (k := (Sum.inl n : Key)) e2 (by lia), ?_⟩
      have htk : ns.take (i + 1) = ns.take i ++ [n] := by rw [List.take_succ_eq_append_getElem hi, hni]
      by_cases hm : n ∈ ks
      · refine ⟨_, ks, rfl, s2.put hd, by rw [upd_same, kT_old hm], nd, by lia, fun y => ?_⟩
        rw [me y, htk, List.mem_append, List.mem_singleton]
        exact ⟨.inl, fun z => z.elim id fun z => by rw [z]; exact (me n).mp hm⟩
      · refine ⟨_, ks ++ [n], rfl, s2.put hd, by rw [upd_same, kT_new hm], nd_snoc nd hm, by rw [List.length_append]; exact Nat.succ_le_succ hk, fun y => ?_⟩
        rw [htk, List.mem_append, List.mem_append, me y]
    · rintro σ H2 ⟨v2, ks, rfl, s2, e2, nd, hk, me⟩
      rw [show (ns.map V.int).length = ns.length from List.length_map ..] at hk me
      rw [List.take_length] at me
      have w0 : ∀ n ∈ ks, 0 ≤ n ∧ n < 200 := fun n hn => wd n ((me n).mp hn)
      have hkl : (kT ks).length = ks.length := kT_len ks
      refine ⟨_, rfl, d, _, rfl, e2, fun o D hD => ?_⟩
      have eb : bt ks = bt ns := bt_ext me
      refine lcJ (n := ks.length) (fun i ys H3 => ys = ((ks.take i).map fun n => (2 : Int) ^ n.toNat).map V.int ∧ Same (upd H2 d (.frz o (.dK (kT ks)))) H3 ∧ H3 D = some (.lst ys)) ⟨rfl, Same.new hD, upd_same⟩
        (fun i ys H3 hi hh0 => by obtain ⟨_, s3, _⟩ := hh0; exact ⟨by rw [hkl]; exact hi, s3 _ _ upd_same⟩) (fun ys H3 hh0 => by obtain ⟨_, s3, _⟩ := hh0; exact ⟨by rw [hkl]; exact Nat.le_refl _, s3 _ _ upd_same⟩) ?_ ?_
      · rintro i ys H3 x H4 hi ⟨rfl, s3, e3⟩ ⟨rfl, k, v, hkv, rfl⟩
        refine lc_yes ?_
        rw [kT_at hi] at hkv
        cases hkv
        have hw := w0 ks[i] (List.getElem_mem hi)
        refine ⟨_, rfl, _, _, rfl, rfl, ⟨hw.1, by show ks[i] ≤ 1000000; lia, by decide⟩, _, e3, by rw [List.length_map, List.length_map, List.length_take]; lia, ?_, s3.put hD, upd_same⟩
        rw [List.take_succ_eq_append_getElem hi, List.map_append, List.map_append, Int.one_mul]
        rfl
      · rintro ys H3 ⟨rfl, s3, e3⟩
        rw [List.take_length] at e3
        have hsum := sum_bt nd fun n hn => (w0 n hn).1
        refine ⟨D, _, rfl, SqL.of e3, ?_⟩
        rw [hsum, eb]
        refine q H3 fun b u e => s3 b u ?_
        rw [upd_ne (ne_of_none e hd)]
        exact s2 b u e
end
end K16
namespace K16
open PySem L2 Tx Rk PyProof.Rows PySem.SeqAt
open PySem.PyData (strOk)
section
variable {P : Program} {w : World} {K : PySem.W.Frag} {mg : Str → Option Value} {base : Heap}
theorem ok_list {f f1 : Addr} {fd d1 : FuncData} (F : Fun K "_law_list" "_law_list" sLList f fd) (T : Bl mg) (D_l_pick : Df K mg "_law_pick" sPick pPick f1 d1) (G_l_pick : FnOk P w K mg base CX0 1 f1 d1 pPick (spPick K)) : FnOk P w K mg base CX0 2 f fd pLList (spList K) := by
  refine F.ok scLList (fun vs H Q E h => ?_) (fun cdv A outer s H vs Q E hr1 h => ?_)
  · obtain ⟨a, ns, k, rfl, _⟩ := h
    rfl
  · obtain ⟨a, ns, k, rfl, hS, hn, k0, k1, q⟩ := h
    have hsl : sizeLine = 16777216 := sizeLine_eq
    refine ⟨_, (pss_cons (ps_set (i := 2) scLList.nd rfl (Or.inl rfl) (pe_callB (call_max2 rfl) (by rfl) T.max bt_max (pa_cons (pe_callB call_len (by rfl) T.len PySem.boot_len (pa_cons (pe_slice sl_list (pv 0) po_none (po_some pe_int)) pa_nil)) (pa_cons (pe_call G_l_pick hr1 (by rfl) D_l_pick.m D_l_pick.F.kp D_l_pick.b .nil pass0 (pa_cons (pv 0) (pa_cons (pv 1) (pa_cons pe_int pa_nil)))) pa_nil))))
      (pss_one (ps_ret (pe_lc (N := ["_law_i", "_law_script", "_law_k"]) (sc := defScope sLList) (own := ["_law_i"]) (fr := ["_law_script", "_law_k"]) (js := [0, 1]) ⟨rfl, rfl, rfl, rfl, by decide +kernel, by decide +kernel, by decide +kernel, rfl, by decide +kernel⟩ rfl (pi_range1 (by rfl) T.range (pa_cons (pv 2) pa_nil)) (fun _ _ _ _ => pg_name (i := 0) (show List.Nodup (["_law_i", "_law_script", "_law_k"] : List Str) by decide +kernel) rfl (Or.inl rfl)) (fun _ _ _ _ => pif_nil) (fun _ _ _ _ => (pe_call G_l_pick hr1 (by rfl) D_l_pick.m D_l_pick.F.kp D_l_pick.b .nil pass0 (pa_cons (pv 1) (pa_cons (pe_op op_add (pe_op op_add (pv 2) pe_int) (pv 0)) (pa_cons pe_int pa_nil))))))))), ?_⟩
    refine ⟨_, rfl, _, rfl, a, _, rfl, hS, fun p hp => ?_⟩
    have s1 : Same H (upd H p (.lst (cutV (ns.map V.int) none (some 60)))) := Same.new hp
    have e1 : (upd H p (.lst (cutV (ns.map V.int) none (some 60)))) p = some (.lst (cutV (ns.map V.int) none (some 60))) := upd_same
    have hc := cut60 ns
    generalize (upd H p (.lst (cutV (ns.map V.int) none (some 60)))) = H1 at s1 e1 ⊢
    refine ⟨_, _, rfl, .inl ⟨_, SqL.of e1, rfl⟩, _, rfl, _, rfl, a, ns, k, 61, rfl, s1.seq hS, hn, k0, by lia, by decide, fun r r0 r1 => ?_⟩
    have hcc : ∃ c : Nat, (c : Int) = (if r > (((cutV (ns.map V.int) none (some 60)).length : Nat) : Int) then r else (((cutV (ns.map V.int) none (some 60)).length : Nat) : Int)) ∧ c ≤ 60 := by
      split
      · exact ⟨r.toNat, by lia, by lia⟩
      · exact ⟨_, rfl, hc⟩
    obtain ⟨c, ec, c60⟩ := hcc
    refine ⟨_, _, rfl, ?_⟩
    rw [← ec]
    refine ⟨_, rfl, _, rfl, by lia, by lia, fun D hD => ?_⟩
    refine lcJ (n := c) (fun i ys H2 => ∃ ms : List Int, ys = ms.map V.int ∧ Wd ms ∧ ms.length = i ∧ Same H1 H2 ∧ H2 D = some (.lst ys)) ⟨[], rfl, (fun _ z => nomatch z), rfl, Same.new hD, upd_same⟩
      (fun i ys H2 hi _ => by show i < _; rw [Int.toNat_natCast]; exact hi) (fun ys H2 _ => by show _ ≤ c; rw [Int.toNat_natCast]; exact Nat.le_refl _) ?_ ?_
    · rintro i ys H2 x H3 hi ⟨ms, rfl, wm, lm, s2, e2⟩ ⟨rfl, rfl⟩
      refine lc_yes ?_
      refine ⟨_, rfl, _, rfl, _, _, rfl, rfl, _, rfl, _, _, rfl, rfl, a, ns, _, 200, rfl, (s1.trans s2).seq hS, hn, by lia, by lia, by decide, fun r2 r20 r21 => ?_⟩
      refine ⟨_, e2, by rw [List.length_map]; lia, ms ++ [r2], by rw [List.map_append]; rfl, fun n hnn => ?_, by rw [List.length_append, lm]; rfl, s2.put hD, upd_same⟩
      rcases List.mem_append.mp hnn with z | z
      · exact wm n z
      · rw [List.mem_singleton.mp z]; exact ⟨r20, r21⟩
    · rintro ys H2 ⟨ms, rfl, wm, lm, s2, e2⟩
      exact q D ms H2 (s1.trans s2) (s1.free hD) e2 wm (by lia)
end
end K16
namespace K16
open PySem L2 Tx Rk PyProof.Rows PySem.SeqAt
open PySem.PyData (strOk)
section
variable {P : Program} {w : World} {K : PySem.W.Frag} {mg : Str → Option Value} {base : Heap}
theorem ok_told {f f1 f2 f3 f4 f5 : Addr} {fd d1 d2 d3 d4 d5 : FuncData} (F : Fun K "_law_told" "_law_told" sLTold f fd) (T : Bl mg) (D_set_of : Df K mg "set_of" sSetOf pSetOf f1 d1) (G_set_of : FnOk P w K mg base CX0 1 f1 d1 pSetOf (spSetOf K))
    (D_l_bits : Df K mg "_law_bits" sLBits pLBits f2 d2) (G_l_bits : FnOk P w K mg base CX0 1 f2 d2 pLBits (spBits K)) (D_worlds_of : Df K mg "worlds_of" sWorldsOf pWorldsOf f3 d3) (G_worlds_of : FnOk P w K mg base CX0 1 f3 d3 pWorldsOf spWof)
    (D_size_of : Df K mg "size_of" sSizeOf pSizeOf f4 d4) (G_size_of : FnOk P w K mg base CX0 2 f4 d4 pSizeOf spSize) (D_least_of : Df K mg "least_of" sLeastOf pLeastOf f5 d5) (G_least_of : FnOk P w K mg base CX0 2 f5 d5 pLeastOf spLeast) : FnOk P w K mg base CX0 3 f fd pLTold spTold := by
  refine F.ok scLTold (fun vs H Q E h => ?_) (fun cdv A outer s H vs Q E hr2 h => ?_)
  · obtain ⟨a, ns, rfl, _⟩ := h
    rfl
  · obtain ⟨a, ns, rfl, ha, wd, hn, q⟩ := h
    have hr1 : Room 1 _ := hr2.mono (by decide)
    have hun := hr2.units
    have hsl : sizeLine = 16777216 := sizeLine_eq
    refine ⟨_, (pss_cons (ps_set (i := 1) scLTold.nd rfl (Or.inl rfl) (pe_callTy call_list_of (by rfl) T.list bt_list (pa_cons (pv 0) pa_nil)))
      (pss_cons (ps_set (i := 2) scLTold.nd rfl (Or.inl rfl) (pe_call G_set_of hr1 (by rfl) D_set_of.m D_set_of.F.kp D_set_of.b .nil pass0 (pa_cons (pv 1) pa_nil)))
      (pss_cons (ps_if (PW.pt (pw_or (pt_not (pt_val (pe_callB call_isi (by rfl) T.isi bt_isi (pa_cons (pv 2) (pa_cons (pe_bltn (v := .ty "int") (by rfl) T.int bt_int rfl) pa_nil))))) (pw_or (pt_val (pe_callB call_isi (by rfl) T.isi bt_isi (pa_cons (pv 2) (pa_cons (pe_bltn (v := .ty "bool") (by rfl) T.bool bt_bool rfl) pa_nil)))) (pw_or (pt_cmpR op_ne (pv 2) (pe_call G_l_bits hr1 (by rfl) D_l_bits.m D_l_bits.F.kp D_l_bits.b .nil pass0 (pa_cons (pv 0) pa_nil)) (nomark _)) (pw_or1 (pt_cmpR (op_neLD hun) (pv 1) (pv 0) (nomark _))))))) (pss_one (ps_ret pe_bl)) pss_nil)
      (pss_cons (ps_set (i := 3) scLTold.nd rfl (Or.inl rfl) (pe_callB (call_sortedG rfl) (by rfl) T.sorted bt_sorted (pa_cons (pe_callTy (call_setG rfl) (by rfl) T.set bt_set (pa_cons (pv 0) pa_nil)) pa_nil)))
      (pss_cons (ps_set (i := 4) scLTold.nd rfl (Or.inl rfl) (pe_call G_worlds_of hr1 (by rfl) D_worlds_of.m D_worlds_of.F.kp D_worlds_of.b .nil pass0 (pa_cons (pv 2) pa_nil)))
      (pss_cons (ps_if (PW.pt (pw_or (pt_not (pt_val (pe_callB call_isiL (by rfl) T.isi bt_isi (pa_cons (pv 4) (pa_cons (pe_bltn (v := .ty "list") (by rfl) T.list bt_list rfl) pa_nil))))) (pw_or (pt_cmpR (op_neLD hun) (pv 4) (pv 3) (nomark _)) (pw_or1 (pt_cmpR op_ne (pe_call G_size_of hr2 (by rfl) D_size_of.m D_size_of.F.kp D_size_of.b .nil pass0 (pa_cons (pv 2) pa_nil)) (pe_callB call_len (by rfl) T.len PySem.boot_len (pa_cons (pv 3) pa_nil)) (nomark _)))))) (pss_one (ps_ret pe_bl)) pss_nil)
      (pss_cons (ps_if (pt_cmpR op_eq (pe_callB call_len (by rfl) T.len PySem.boot_len (pa_cons (pv 3) pa_nil)) pe_int (nomark _)) (pss_one (ps_ret (pe_cmpR op_isN (pe_call G_least_of hr2 (by rfl) D_least_of.m D_least_of.F.kp D_least_of.b .nil pass0 (pa_cons (pv 2) pa_nil)) pe_non (nomark _)))) pss_nil)
      (pss_one (ps_ret (pe_cmpR op_eq (pe_call G_least_of hr2 (by rfl) D_least_of.m D_least_of.F.kp D_least_of.b .nil pass0 (pa_cons (pv 2) pa_nil)) (pe_ix ix_list (pv 3) pe_int (fun _ _ => rfl)) (nomark _))))))))))), ?_⟩
    refine ⟨_, rfl, a, _, rfl, .inl (SqL.of ha), fun l hl => ?_⟩
    have s1 : Same H (upd H l (.lst (ns.map V.int))) := Same.new hl
    have e1 : (upd H l (.lst (ns.map V.int))) l = some (.lst (ns.map V.int)) := upd_same
    generalize (upd H l (.lst (ns.map V.int))) = H1 at s1 e1 ⊢
    refine ⟨_, rfl, l, ns, rfl, SqL.of e1, wd, ?_⟩
    dsimp only
    refine seq_genG (fun σ H2 => σ = [some (.ref a), some (.ref l), some (.int (bt ns : Nat)), none, none] ∧ Same H1 H2) (fun σ H2 i => ?_) (fun N hN => ?_)
    rotate_left
    · refine ⟨_, rfl, _, _, rfl, .inl ⟨rfl, _, rfl, iteF ?_⟩⟩
      refine ⟨_, rfl, _, _, rfl, .inr ⟨rfl, _, rfl, iteF ?_⟩⟩
      refine ⟨_, rfl, _, rfl, a, ns, rfl, SqL.of (s1 _ _ ha), wd, hn, fun H2 s2 => ⟨rfl, _, rfl, ?_⟩⟩
      refine iteF' (by simp) ?_
      refine ⟨_, rfl, _, rfl, l, a, _, _, _, _, rfl, rfl, s2 _ _ e1, s2 _ _ (s1 _ _ ha), rd_ints ns, rd_ints ns, sh_ints ns, sh_ints ns, _, rfl, ?_⟩
      rw [eqv_ints]
      exact iteF (hN _ _ ⟨rfl, s2⟩)
    obtain ⟨rfl, s2⟩ := i
    have a2 := s2 _ _ (s1 _ _ ha)
    obtain ⟨ds, ed, nd, me, ld⟩ := dd_ints ns
    have ek : ns.map V.int = (ns.map (Sum.inl : Int → Key)).map kV := by rw [List.map_map]; rfl
    refine ⟨_, rfl, a, ns.map Sum.inl, rfl, SqL.of (by rw [← ek]; exact a2), by rw [List.length_map]; lia, fun st hst => ?_⟩
    rw [ed]
    have s3 : Same H2 (upd H2 st (setG P w st (ds.map Sum.inl))) := Same.new hst
    refine ⟨st, ds, rfl, upd_same, nd, by lia, fun l2 zs hl2 pm so => ?_⟩
    have hz := wl_is wd nd me pm so
    subst hz
    have s4 := Same.put (H' := upd H2 st (setG P w st (ds.map Sum.inl))) (o := .lst ((wl (bt ns)).map V.int)) s3 (s3.free hl2)
    refine ⟨_, rfl, bt ns, rfl, bt_lt wd, fun l3 H5 s5 f5 e5 => ?_⟩
    have e45 : H5 l2 = some (.lst ((wl (bt ns)).map V.int)) := s5 _ _ upd_same
    have s45 : Same H2 H5 := fun b u e => s5 b u (s4 b u e)
    have hlw : ((wl (bt ns)).map V.int).length = (wl (bt ns)).length := List.length_map ..
    dsimp only
    refine seq_genG (fun σ H6 => σ = [some (.ref a), some (.ref l), some (.int (bt ns : Nat)), some (.ref l2), some (.ref l3)] ∧ Same H5 H6) (fun σ H6 i => ?_) (fun N hN => ?_)
    rotate_left
    · refine ⟨_, rfl, _, _, rfl, e5, _, rfl, iteF ?_⟩
      refine ⟨_, rfl, _, rfl, l3, l2, _, _, _, _, rfl, rfl, e5, e45, rd_ints _, rd_ints _, sh_ints _, sh_ints _, _, rfl, ?_⟩
      rw [eqv_ints]
      refine iteF ?_
      refine ⟨_, rfl, bt ns, rfl, bt_lt wd, fun H6 s6 => ?_⟩
      refine ⟨_, rfl, _, _, rfl, .inl ⟨_, SqL.of (s6 _ _ e45), rfl⟩, rfl, _, rfl, ?_⟩
      rw [hlw]
      exact iteF' (by simp) (hN _ _ ⟨rfl, s6⟩)
    obtain ⟨rfl, s6⟩ := i
    have e6 := s6 _ _ e45
    have s06 : Same H H6 := s1.trans (s2.trans (s45.trans s6))
    refine ⟨_, rfl, _, _, rfl, .inl ⟨_, SqL.of e6, rfl⟩, rfl, _, rfl, ?_⟩
    rw [hlw]
    cases hw : wl (bt ns) with
    | nil =>
      refine iteT' rfl ?_
      refine ⟨_, rfl, bt ns, rfl, bt_lt wd, fun H7 s7 => ?_⟩
      rw [hw]
      exact ⟨rfl, q H7 (s06.trans s7)⟩
    | cons n r =>
      refine iteF' (by rw [List.length_cons]; simp; lia) ?_
      refine ⟨_, rfl, bt ns, rfl, bt_lt wd, fun H7 s7 => ?_⟩
      rw [hw] at e6 ⊢
      have hat : atI ((n :: r).map V.int) ((0 : Nat) : Int) = some (.int n) := atI_nat rfl
      refine ⟨_, rfl, l2, _, _, _, rfl, rfl, SqL.of (s7 _ _ e6), hat, rfl, ?_⟩
      show Q (.bl (decide (V.int n = V.int n))) H7
      rw [decide_eq_true rfl]
      exact q H7 (s06.trans s7)
end
end K16
namespace K16
open PySem L2 Tx Rk PyProof.Rows PySem.SeqAt
open PySem.PyData (strOk)
section
variable {P : Program} {w : World} {K : PySem.W.Frag} {mg : Str → Option Value} {base : Heap}
theorem ok_law {f f1 f2 f3 f4 f5 f6 : Addr} {fd d1 d2 d3 d4 d5 d6 : FuncData} (F : Fun K "law" "law" sLaw f fd) (T : Bl mg) (D_l_pick : Df K mg "_law_pick" sPick pPick f1 d1) (G_l_pick : FnOk P w K mg base CX0 1 f1 d1 pPick (spPick K))
    (D_l_list : Df K mg "_law_list" sLList pLList f2 d2) (G_l_list : FnOk P w K mg base CX0 2 f2 d2 pLList (spList K)) (D_l_told : Df K mg "_law_told" sLTold pLTold f3 d3) (G_l_told : FnOk P w K mg base CX0 3 f3 d3 pLTold spTold)
    (D_l_bits : Df K mg "_law_bits" sLBits pLBits f4 d4) (G_l_bits : FnOk P w K mg base CX0 1 f4 d4 pLBits (spBits K)) (D_within : Df K mg "within" sWithin pWithin f5 d5) (G_within : FnOk P w K mg base CX0 1 f5 d5 pWithin spIn)
    (D_without : Df K mg "without" sWithout pWithout f6 d6) (G_without : FnOk P w K mg base CX0 1 f6 d6 pWithout spOut) : FnOk P w K mg base CX0 4 f fd ["_law_script"] (spLaw K) := by
  refine F.ok scLaw (fun vs H Q E h => ?_) (fun cdv A outer s H vs Q E hr3 h => ?_)
  · obtain ⟨a, ns, rfl, _⟩ := h
    rfl
  · obtain ⟨a, ns, rfl, hS, hn, q⟩ := h
    have hr1 : Room 1 _ := hr3.mono (by decide)
    have hr2 : Room 2 _ := hr3.mono (by decide)
    have hsl : sizeLine = 16777216 := sizeLine_eq
    refine ⟨_, (pss_cons (ps_set (i := 1) scLaw.nd rfl (Or.inl rfl) (pe_call G_l_list hr2 (by rfl) D_l_list.m D_l_list.F.kp D_l_list.b .nil pass0 (pa_cons (pv 0) (pa_cons pe_int pa_nil))))
      (pss_cons (ps_set (i := 2) scLaw.nd rfl (Or.inl rfl) (pe_call G_l_list hr2 (by rfl) D_l_list.m D_l_list.F.kp D_l_list.b .nil pass0 (pa_cons (pv 0) (pa_cons pe_int pa_nil))))
      (pss_cons (ps_if (pt_cmpR op_eq (pe_call G_l_pick hr1 (by rfl) D_l_pick.m D_l_pick.F.kp D_l_pick.b .nil pass0 (pa_cons (pv 0) (pa_cons pe_int (pa_cons pe_int pa_nil)))) pe_int (nomark _)) (pss_one (ps_lc (i := 2) (N := ["_law_world", "_law_script"]) (sc := defScope sLaw) (own := ["_law_world"]) (fr := ["_law_script"]) (js := [0]) scLaw.nd rfl rfl ⟨rfl, rfl, rfl, rfl, by decide +kernel, by decide +kernel, by decide +kernel, rfl, by decide +kernel⟩ rfl (pi_list (pv 1)) (fun _ _ _ _ => pg_name (i := 0) (show List.Nodup (["_law_world", "_law_script"] : List Str) by decide +kernel) rfl (Or.inl rfl)) (fun _ _ _ _ => pif_one (pt_cmpR op_ne (pe_op op_mod (pv 0) pe_int) (pe_call G_l_pick hr1 (by rfl) D_l_pick.m D_l_pick.F.kp D_l_pick.b .nil pass0 (pa_cons (pv 1) (pa_cons pe_int (pa_cons pe_int pa_nil)))) (nomark _))) (fun _ _ _ _ => (pv 0)))) pss_nil)
      (pss_cons (ps_if (pt_cmpR op_eq (pe_call G_l_pick hr1 (by rfl) D_l_pick.m D_l_pick.F.kp D_l_pick.b .nil pass0 (pa_cons (pv 0) (pa_cons pe_int (pa_cons pe_int pa_nil)))) pe_int (nomark _)) (pss_one (ps_set (i := 1) scLaw.nd rfl (Or.inl rfl) (pe_lst pa_nil))) pss_nil)
      (pss_cons (ps_if (PW.pt (pw_or (pt_not (pt_val (pe_call G_l_told hr3 (by rfl) D_l_told.m D_l_told.F.kp D_l_told.b .nil pass0 (pa_cons (pv 1) pa_nil)))) (pw_or1 (pt_not (pt_val (pe_call G_l_told hr3 (by rfl) D_l_told.m D_l_told.F.kp D_l_told.b .nil pass0 (pa_cons (pv 2) pa_nil))))))) (pss_one (ps_ret pe_bl)) pss_nil)
      (pss_cons (ps_for PassesOwn.never rfl (pi_list (pe_lst (pa_cons (pe_tup (pa_cons (pv 1) (pa_cons (pv 2) pa_nil))) (pa_cons (pe_tup (pa_cons (pv 2) (pa_cons (pv 1) pa_nil))) pa_nil)))) (pg_tup rfl (pgs_cons (pg_name (i := 3) scLaw.nd rfl (Or.inl rfl)) (pgs_cons (pg_name (i := 4) scLaw.nd rfl (Or.inr rfl)) pgs_nil)))
        (pss_cons (ps_set (i := 5) scLaw.nd rfl (Or.inl rfl) (pe_call G_within hr1 (by rfl) D_within.m D_within.F.kp D_within.b .nil pass0 (pa_cons (pe_call G_l_bits hr1 (by rfl) D_l_bits.m D_l_bits.F.kp D_l_bits.b .nil pass0 (pa_cons (pv 3) pa_nil)) (pa_cons (pe_call G_l_bits hr1 (by rfl) D_l_bits.m D_l_bits.F.kp D_l_bits.b .nil pass0 (pa_cons (pv 4) pa_nil)) pa_nil))))
      (pss_cons (ps_set (i := 6) scLaw.nd rfl (Or.inl rfl) (pe_call G_without hr1 (by rfl) D_without.m D_without.F.kp D_without.b .nil pass0 (pa_cons (pe_call G_l_bits hr1 (by rfl) D_l_bits.m D_l_bits.F.kp D_l_bits.b .nil pass0 (pa_cons (pv 3) pa_nil)) (pa_cons (pe_call G_l_bits hr1 (by rfl) D_l_bits.m D_l_bits.F.kp D_l_bits.b .nil pass0 (pa_cons (pv 4) pa_nil)) pa_nil))))
      (pss_cons (ps_if (PW.pt (pw_or (pt_not (pt_val (pe_callB call_isiB (by rfl) T.isi bt_isi (pa_cons (pv 5) (pa_cons (pe_bltn (v := .ty "bool") (by rfl) T.bool bt_bool rfl) pa_nil))))) (pw_or1 (pt_cmpR op_ne (pv 5) (pe_cmpR op_notIn_seq pe_bl (pe_lc (N := ["_law_world", "_law_more"]) (sc := defScope sLaw) (own := ["_law_world"]) (fr := ["_law_more"]) (js := [4]) ⟨rfl, rfl, rfl, rfl, by decide +kernel, by decide +kernel, by decide +kernel, rfl, by decide +kernel⟩ rfl (pi_list (pv 3)) (fun _ _ _ _ => pg_name (i := 0) (show List.Nodup (["_law_world", "_law_more"] : List Str) by decide +kernel) rfl (Or.inl rfl)) (fun _ _ _ _ => pif_nil) (fun _ _ _ _ => (pe_cmpR (op_in_seqK K rfl) (pv 0) (pv 1) (by rfl)))) (by rfl)) (nomark _))))) (pss_one (ps_ret pe_bl)) pss_nil)
      (pss_one (ps_if (PW.pt (pw_or (pt_not (pt_val (pe_callB call_isi (by rfl) T.isi bt_isi (pa_cons (pv 6) (pa_cons (pe_bltn (v := .ty "int") (by rfl) T.int bt_int rfl) pa_nil))))) (pw_or1 (pt_cmpR op_ne (pv 6) (pe_call G_l_bits hr1 (by rfl) D_l_bits.m D_l_bits.F.kp D_l_bits.b .nil pass0 (pa_cons (pe_lc (N := ["_law_world", "_law_more"]) (sc := defScope sLaw) (own := ["_law_world"]) (fr := ["_law_more"]) (js := [4]) ⟨rfl, rfl, rfl, rfl, by decide +kernel, by decide +kernel, by decide +kernel, rfl, by decide +kernel⟩ rfl (pi_list (pv 3)) (fun _ _ _ _ => pg_name (i := 0) (show List.Nodup (["_law_world", "_law_more"] : List Str) by decide +kernel) rfl (Or.inl rfl)) (fun _ _ _ _ => pif_one (pt_cmpR (op_notIn_seqK K rfl) (pv 0) (pv 1) (by rfl))) (fun _ _ _ _ => (pv 0))) pa_nil)) (nomark _))))) (pss_one (ps_ret pe_bl)) pss_nil))))))
      (pss_one (ps_ret pe_bl)))))))), ?_⟩
    refine ⟨_, rfl, a, ns, 3, rfl, hS, hn, by decide, by decide, fun l1 m1 H1 s1 f1 e1 w1 z1 => ?_⟩
    refine ⟨_, rfl, a, ns, 70, rfl, s1.seq hS, hn, by decide, by decide, fun l2 m2 H2 s2 f2 e2 w2 z2 => ?_⟩
    have j0 : JL K a l1 l2 ns m1 m2 H2 := ⟨(s1.trans s2).seq hS, s2 _ _ e1, e2, w1, w2, z1, z2⟩
    clear s1 s2 e1 e2 w1 w2 z1 z2 f1 f2 hS
    dsimp only
    refine seq_genG (fun σ H3 => ∃ (l1 l2 : Addr) (m1 m2 : List Int), σ = [some (.ref a), some (.ref l1), some (.ref l2), none, none, none, none] ∧ JL K a l1 l2 ns m1 m2 H3) (fun σ H3 i => ?_) (fun N hN => ?_)
    rotate_left
    · refine ⟨_, rfl, a, ns, 1, 3, rfl, j0.sc, hn, by decide, by decide, by decide, fun r r0 r1 => ⟨rfl, _, rfl, ?_⟩⟩
      refine ite2 (fun _ => ?_) (fun _ => hN _ _ ⟨l1, l2, m1, m2, rfl, j0⟩)
      refine ⟨_, rfl, l1, rfl, ⟨_, SqL.of j0.e1⟩, fun D hD => ?_⟩
      refine lcJ (n := m1.length) (fun i ys H3 => ∃ fs : List Int, ys = fs.map V.int ∧ (∀ n ∈ fs, n ∈ m1) ∧ fs.length ≤ i ∧ Same H2 H3 ∧ H3 D = some (.lst ys)) ⟨[], rfl, (fun _ z => nomatch z), Nat.le_refl _, Same.new hD, upd_same⟩
        (fun i ys H3 hi hh0 => by obtain ⟨_, _, _, _, s3, _⟩ := hh0; exact ⟨_, .int m1[i], SqL.of (s3 _ _ j0.e1), by simp [hi]⟩) (fun ys H3 hh0 => by obtain ⟨_, _, _, _, s3, _⟩ := hh0; exact ⟨_, SqL.of (s3 _ _ j0.e1), by simp⟩) ?_ ?_
      · rintro i ys H3 x H4 hi ⟨fs, rfl, me, le, s3, e3⟩ ⟨rfl, hx⟩
        have hx1 := hx _ (SqL.of (s3 _ _ j0.e1))
        have hx2 : x = .int m1[i] := by
          rw [List.getElem?_map, List.getElem?_eq_getElem hi] at hx1
          exact (Option.some.inj hx1).symm
        subst hx2
        have hz := j0.z1
        refine ⟨_, rfl, _, _, rfl, rfl, by decide, _, rfl, a, ns, 2, 5, rfl, s3.seq j0.sc, hn, by decide, by decide, by decide, fun r2 r20 r21 => ⟨rfl, _, rfl, ?_⟩⟩
        refine ite2 (fun _ => ?_) (fun _ => ⟨fs, rfl, me, by lia, s3, e3⟩)
        refine ⟨_, rfl, _, e3, by rw [List.length_map]; lia, fs ++ [m1[i]], by rw [List.map_append]; rfl, fun n hnn => ?_, by rw [List.length_append]; exact Nat.succ_le_succ le, s3.put hD, upd_same⟩
        rcases List.mem_append.mp hnn with z | z
        · exact me n z
        · rw [List.mem_singleton.mp z]; exact List.getElem_mem hi
      · rintro ys H3 ⟨fs, rfl, me, le, s3, e3⟩
        have hz := j0.z1
        exact hN _ _ ⟨l1, D, m1, fs, rfl, s3.seq j0.sc, s3 _ _ j0.e1, e3, j0.w1, fun n hn => j0.w1 n (me n hn), hz, by lia⟩
    obtain ⟨l1, l2, m1, m2, rfl, j1⟩ := i
    clear j0 H2
    refine seq_gen (s := tIfS _ _ _) (fun σ H4 => ∃ (l1 l2 : Addr) (m1 m2 : List Int), σ = [some (.ref a), some (.ref l1), some (.ref l2), none, none, none, none] ∧ JL K a l1 l2 ns m1 m2 H4) (fun σ H4 i => ?_) (fun N hN => ?_)
    rotate_left
    · refine ⟨_, rfl, a, ns, 0, 8, rfl, j1.sc, hn, by decide, by decide, by decide, fun r r0 r1 => ⟨rfl, _, rfl, ?_⟩⟩
      refine ite2 (fun _ => ?_) (fun _ => hN _ _ ⟨l1, l2, m1, m2, rfl, j1⟩)
      refine ⟨by show 0 ≤ sizeLine; lia, fun p hp => ?_⟩
      have s4 : Same H3 (upd H3 p (.lst [])) := Same.new hp
      exact hN _ _ ⟨p, l2, [], m2, rfl, s4.seq j1.sc, upd_same, s4 _ _ j1.e2, (fun _ z => nomatch z), j1.w2, Nat.zero_le _, j1.z2⟩
    obtain ⟨l1, l2, m1, m2, rfl, j2⟩ := i
    clear j1 H3
    refine ⟨_, rfl, l1, m1, rfl, j2.e1, j2.w1, j2.z1, fun H5 s5 => ⟨_, rfl, iteF ?_⟩⟩
    have j5 := j2.same s5
    refine ⟨_, rfl, l2, m2, rfl, j5.e2, j5.w2, j5.z2, fun H6 s6 => ⟨_, rfl, iteF ?_⟩⟩
    have j6 := j5.same s6
    clear j5 j2 s5 s6 H4 H5
    refine ⟨_, rfl, _, rfl, by show 2 ≤ sizeLine; lia, fun t1 h1 => ⟨_, rfl, _, rfl, by show 2 ≤ sizeLine; lia, fun t2 h2 => ⟨by show 2 ≤ sizeLine; lia, fun l hl => ?_⟩⟩⟩
    have sA : Same H6 (upd H6 t1 (.tup [.ref l1, .ref l2])) := Same.new h1
    have sB : Same (upd H6 t1 (.tup [.ref l1, .ref l2])) (upd (upd H6 t1 (.tup [.ref l1, .ref l2])) t2 (.tup [.ref l2, .ref l1])) := Same.new h2
    have sC : Same (upd (upd H6 t1 (.tup [.ref l1, .ref l2])) t2 (.tup [.ref l2, .ref l1])) (upd (upd (upd H6 t1 (.tup [.ref l1, .ref l2])) t2 (.tup [.ref l2, .ref l1])) l (.lst [.ref t1, .ref t2])) := Same.new hl
    have et1 := sC _ _ (sB _ _ (upd_same (H := H6) (a := t1) (o := .tup [.ref l1, .ref l2])))
    have et2 := sC _ _ (upd_same (H := upd H6 t1 (.tup [.ref l1, .ref l2])) (a := t2) (o := .tup [.ref l2, .ref l1]))
    have el : (upd (upd (upd H6 t1 (.tup [.ref l1, .ref l2])) t2 (.tup [.ref l2, .ref l1])) l (.lst [.ref t1, .ref t2])) l = some (.lst [.ref t1, .ref t2]) := upd_same
    have j7 := j6.same (sA.trans (sB.trans sC))
    generalize (upd (upd (upd H6 t1 (.tup [.ref l1, .ref l2])) t2 (.tup [.ref l2, .ref l1])) l (.lst [.ref t1, .ref t2])) = H7 at sC et1 et2 el j7 ⊢
    refine ⟨l, rfl, ⟨_, SqL.of el⟩, for_list (K := K) (a := l) (xs := [.ref t1, .ref t2]) (fun i σ H8 => ∃ v3 v4 v5 v6 : Option V, σ = [some (.ref a), some (.ref l1), some (.ref l2), v3, v4, v5, v6] ∧ Same H7 H8) ⟨none, none, none, none, rfl, Same.refl _⟩
      (fun i σ H8 _ hh0 => by obtain ⟨_, _, _, _, _, s8⟩ := hh0; exact SqL.of (s8 _ _ el)) ?_ ?_⟩
    rotate_left
    · rintro σ H8 ⟨v3, v4, v5, v6, rfl, s8⟩
      exact q H8
    rintro i x σ H8 hx ⟨v3, v4, v5, v6, rfl, s8⟩
    have j8 := j7.same s8
    obtain ⟨t, lx, ly, xs, ys, rfl, et, ex, ey, wx, wy, zx, zy⟩ : ∃ (t lx ly : Addr) (xs ys : List Int), x = .ref t ∧ H8 t = some (.tup [.ref lx, .ref ly]) ∧ H8 lx = some (.lst (xs.map V.int)) ∧ H8 ly = some (.lst (ys.map V.int)) ∧ Wd xs ∧ Wd ys ∧ xs.length ≤ 60 ∧ ys.length ≤ 60 := by
      rcases i with _ | _ | i
      · cases hx
        exact ⟨t1, l1, l2, m1, m2, rfl, s8 _ _ et1, j8.e1, j8.e2, j8.w1, j8.w2, j8.z1, j8.z2⟩
      · cases hx
        exact ⟨t2, l2, l1, m2, m1, rfl, s8 _ _ et2, j8.e2, j8.e1, j8.w2, j8.w1, j8.z2, j8.z1⟩
      · cases hx
    refine ⟨t, _, rfl, SqT.of et, rfl, _, _, rfl, _, _, rfl, rfl, ?_⟩
    refine ⟨_, rfl, lx, xs, rfl, SqL.of ex, wx, zx, fun H9 s9 => ⟨_, rfl, ly, ys, rfl, SqL.of (s9 _ _ ey), wy, zy, fun H10 s10 => ⟨_, _, rfl, ?_⟩⟩⟩
    have sx := s9.trans s10
    refine ⟨_, rfl, lx, xs, rfl, SqL.of (sx _ _ ex), wx, zx, fun H11 s11 => ⟨_, rfl, ly, ys, rfl, SqL.of (s11 _ _ (sx _ _ ey)), wy, zy, fun H12 s12 => ⟨_, _, rfl, ?_⟩⟩⟩
    have sy := sx.trans (s11.trans s12)
    have ex2 := sy _ _ ex
    have ey2 := sy _ _ ey
    have eb : decide (V.int (Builtin.bitAnd (bt xs : Int) (bt ys)) = V.int (bt xs : Int)) = xs.all fun x => decide (x ∈ ys) := by
      rw [← in_all wx wy, dec_int, Bool.beq_eq_decide_eq]
    rw [eb, out_is wx wy]
    dsimp only
    refine seq_genG (fun σ H13 => σ = [some (.ref a), some (.ref l1), some (.ref l2), some (.ref lx), some (.ref ly), some (.bl (xs.all fun x => decide (x ∈ ys))), some (.int (bt (xs.filter fun x => !decide (x ∈ ys)) : Nat))] ∧ Same H12 H13) (fun σ H13 i => ?_) (fun N hN => ?_)
    rotate_left
    · refine ⟨_, rfl, _, rfl, _, rfl, iteF ?_⟩
      refine ⟨_, rfl, _, rfl, lx, rfl, ⟨_, SqL.of ex2⟩, fun D hD => ?_⟩
      refine lcJ (n := xs.length) (fun i zs H14 => zs = ((xs.take i).map fun n => decide (n ∈ ys)).map V.bl ∧ Same H12 H14 ∧ H14 D = some (.lst zs)) ⟨rfl, Same.new hD, upd_same⟩
        (fun i zs H14 hi hh0 => by obtain ⟨_, s3, _⟩ := hh0; exact ⟨_, .int xs[i], SqL.of (s3 _ _ ex2), by simp [hi]⟩) (fun zs H14 hh0 => by obtain ⟨_, s3, _⟩ := hh0; exact ⟨_, SqL.of (s3 _ _ ex2), by simp⟩) ?_ ?_
      · rintro i zs H14 x H15 hi ⟨rfl, s3, e3⟩ ⟨rfl, hx⟩
        refine lc_yes ?_
        have hx1 := hx _ (SqL.of (s3 _ _ ex2))
        have hx2 : x = .int xs[i] := by
          rw [List.getElem?_map, List.getElem?_eq_getElem hi] at hx1
          exact (Option.some.inj hx1).symm
        subst hx2
        refine ⟨_, rfl, _, rfl, ly, _, rfl, .inl (SqL.of (s3 _ _ ey2)), rfl, flat_ints _, _, e3, by rw [List.length_map, List.length_map, List.length_take]; lia, ?_, s3.put hD, upd_same⟩
        rw [List.take_succ_eq_append_getElem hi, List.map_append, List.map_append, if_neg Bool.false_ne_true, in_ints]
        rfl
      · rintro zs H14 ⟨rfl, s3, e3⟩
        rw [List.take_length] at e3
        refine ⟨D, _, rfl, .inl (SqL.of e3), rfl, flat_bls _, rfl, _, rfl, ?_⟩
        rw [if_pos rfl, in_bls, List.all_map]
        refine iteF' ?_ (hN _ _ ⟨rfl, s3⟩)
        show ¬ (!decide (V.bl (xs.all fun x => decide (x ∈ ys)) = V.bl (xs.all fun x => decide (x ∈ ys)))) = true
        simp
    obtain ⟨rfl, s13⟩ := i
    have ex3 := s13 _ _ ex2
    have ey3 := s13 _ _ ey2
    refine ⟨_, rfl, _, _, rfl, .inl ⟨rfl, _, rfl, iteF ?_⟩⟩
    refine ⟨_, rfl, _, rfl, lx, rfl, ⟨_, SqL.of ex3⟩, fun D hD => ?_⟩
    refine lcJ (n := xs.length) (fun i zs H14 => zs = ((xs.take i).filter fun n => !decide (n ∈ ys)).map V.int ∧ Same H13 H14 ∧ H14 D = some (.lst zs)) ⟨rfl, Same.new hD, upd_same⟩
      (fun i zs H14 hi hh0 => by obtain ⟨_, s3, _⟩ := hh0; exact ⟨_, .int xs[i], SqL.of (s3 _ _ ex3), by simp [hi]⟩) (fun zs H14 hh0 => by obtain ⟨_, s3, _⟩ := hh0; exact ⟨_, SqL.of (s3 _ _ ex3), by simp⟩) ?_ ?_
    · rintro i zs H14 x H15 hi ⟨rfl, s3, e3⟩ ⟨rfl, hx⟩
      have hx1 := hx _ (SqL.of (s3 _ _ ex3))
      have hx2 : x = .int xs[i] := by
        rw [List.getElem?_map, List.getElem?_eq_getElem hi] at hx1
        exact (Option.some.inj hx1).symm
      subst hx2
      have hlz : (((xs.take i).filter fun n => !decide (n ∈ ys)).map V.int).length < sizeLine := by
        rw [List.length_map]
        have := List.length_filter_le (fun n => !decide (n ∈ ys)) (xs.take i)
        rw [List.length_take] at this
        lia
      refine ⟨_, rfl, _, rfl, ly, _, rfl, .inl (SqL.of (s3 _ _ ey3)), rfl, flat_ints _, _, rfl, ?_⟩
      rw [if_pos rfl, in_ints]
      cases hm : decide (xs[i] ∈ ys) with
      | true =>
        refine iteF' (by decide) ⟨?_, s3, e3⟩
        rw [List.take_succ_eq_append_getElem hi, List.filter_append]
        simp [hm]
      | false =>
        refine iteT' rfl ?_
        refine ⟨_, rfl, _, e3, hlz, ?_, s3.put hD, upd_same⟩
        rw [List.take_succ_eq_append_getElem hi, List.filter_append, List.map_append]
        simp [hm]
    · rintro zs H14 ⟨rfl, s3, e3⟩
      rw [List.take_length] at e3
      have hlf := List.length_filter_le (fun n => !decide (n ∈ ys)) xs
      refine ⟨D, _, rfl, SqL.of e3, fun n hn => wx n (List.mem_filter.mp hn).1, by lia, fun H15 s15 => ⟨rfl, _, rfl, ?_⟩⟩
      exact iteF' (by simp) ⟨_, _, _, _, rfl, s8.trans (sy.trans (s13.trans (s3.trans s15)))⟩
end
end K16
namespace K16
open PySem L2 Tx Rk PyProof.Rows PySem.SeqAt
theorem ln1 {P : List Value → Prop} (h : ∀ a0 : Value, P [a0]) : ∀ us : List Value, us.length = 1 → P us := fun us hl => by
  obtain _ | ⟨a0, r0⟩ := us
  · exact absurd hl (by simp)
  obtain _ | ⟨b, r⟩ := r0
  · exact h a0
  · exact absurd hl (by simp)
theorem ln2 {P : List Value → Prop} (h : ∀ a0 a1 : Value, P [a0, a1]) : ∀ us : List Value, us.length = 2 → P us := fun us hl => by
  obtain _ | ⟨a0, r0⟩ := us
  · exact absurd hl (by simp)
  obtain _ | ⟨a1, r1⟩ := r0
  · exact absurd hl (by simp)
  obtain _ | ⟨b, r⟩ := r1
  · exact h a0 a1
  · exact absurd hl (by simp)
theorem ln3 {P : List Value → Prop} (h : ∀ a0 a1 a2 : Value, P [a0, a1, a2]) : ∀ us : List Value, us.length = 3 → P us := fun us hl => by
  obtain _ | ⟨a0, r0⟩ := us
  · exact absurd hl (by simp)
  obtain _ | ⟨a1, r1⟩ := r0
  · exact absurd hl (by simp)
  obtain _ | ⟨a2, r2⟩ := r1
  · exact absurd hl (by simp)
  obtain _ | ⟨b, r⟩ := r2
  · exact h a0 a1 a2
  · exact absurd hl (by simp)
theorem all_mk {l : PySem.W.OpenLaw} {w : World} {K : PySem.W.Frag} {h : Heap} {mg : Str → Option Value} {fa  f1 f2 f3 f4 f5 f6 f7 f8 f9 f10 f11 : Addr} (X : K.In h) (G : h.Ns mainGlobals mg) (hfa : mg "law" = some (.ref fa))
    {od1 an1 od2 an2 od3 an3 od4 an4 od5 an5 od6 an6 od7 an7 od8 an8 od9 an9 od10 an10 od11 an11 : Option Addr} {sl1 sl2 sl3 sl4 sl5 sl6 sl7 sl8 sl9 sl10 sl11 : Array (Option Value)} {oc1 kV1 dc1 pm1 cd1 ct1 oc2 kV2 dc2 pm2 cd2 ct2 oc3 kV3 dc3 pm3 cd3 ct3 oc4 kV4 dc4 pm4 cd4 ct4 oc5 kV5 dc5 pm5 cd5 ct5 oc6 kV6 dc6 pm6 cd6 ct6 oc7 kV7 dc7 pm7 cd7 ct7 oc8 kV8 dc8 pm8 cd8 ct8 oc9 kV9 dc9 pm9 cd9 ct9 oc10 kV10 dc10 pm10 cd10 ct10 oc11 kV11 dc11 pm11 cd11 ct11  : Value}
    (a1 : PySem.W.nsIn K mainGlobals "set_of" = some (some (.ref f1))) (l1 : K.lookup f1 = some ⟨oc1, od1, .func (PySem.W.fnOf "set_of" "set_of" (defArgs sSetOf) (defBody sSetOf) (defScope sSetOf) .none kV1 dc1 pm1 an1 cd1 ct1), sl1⟩) (c1 : PySem.W.codeIn K cd1 "set_of" = true) (k1 : PySem.W.keepIn K (.ref f1) = true)
    (a2 : PySem.W.nsIn K mainGlobals "worlds_of" = some (some (.ref f2))) (l2 : K.lookup f2 = some ⟨oc2, od2, .func (PySem.W.fnOf "worlds_of" "worlds_of" (defArgs sWorldsOf) (defBody sWorldsOf) (defScope sWorldsOf) .none kV2 dc2 pm2 an2 cd2 ct2), sl2⟩) (c2 : PySem.W.codeIn K cd2 "worlds_of" = true) (k2 : PySem.W.keepIn K (.ref f2) = true)
    (a3 : PySem.W.nsIn K mainGlobals "size_of" = some (some (.ref f3))) (l3 : K.lookup f3 = some ⟨oc3, od3, .func (PySem.W.fnOf "size_of" "size_of" (defArgs sSizeOf) (defBody sSizeOf) (defScope sSizeOf) .none kV3 dc3 pm3 an3 cd3 ct3), sl3⟩) (c3 : PySem.W.codeIn K cd3 "size_of" = true) (k3 : PySem.W.keepIn K (.ref f3) = true)
    (a4 : PySem.W.nsIn K mainGlobals "least_of" = some (some (.ref f4))) (l4 : K.lookup f4 = some ⟨oc4, od4, .func (PySem.W.fnOf "least_of" "least_of" (defArgs sLeastOf) (defBody sLeastOf) (defScope sLeastOf) .none kV4 dc4 pm4 an4 cd4 ct4), sl4⟩) (c4 : PySem.W.codeIn K cd4 "least_of" = true) (k4 : PySem.W.keepIn K (.ref f4) = true)
    (a5 : PySem.W.nsIn K mainGlobals "within" = some (some (.ref f5))) (l5 : K.lookup f5 = some ⟨oc5, od5, .func (PySem.W.fnOf "within" "within" (defArgs sWithin) (defBody sWithin) (defScope sWithin) .none kV5 dc5 pm5 an5 cd5 ct5), sl5⟩) (c5 : PySem.W.codeIn K cd5 "within" = true) (k5 : PySem.W.keepIn K (.ref f5) = true)
    (a6 : PySem.W.nsIn K mainGlobals "without" = some (some (.ref f6))) (l6 : K.lookup f6 = some ⟨oc6, od6, .func (PySem.W.fnOf "without" "without" (defArgs sWithout) (defBody sWithout) (defScope sWithout) .none kV6 dc6 pm6 an6 cd6 ct6), sl6⟩) (c6 : PySem.W.codeIn K cd6 "without" = true) (k6 : PySem.W.keepIn K (.ref f6) = true)
    (a7 : PySem.W.nsIn K mainGlobals "_law_pick" = some (some (.ref f7))) (l7 : K.lookup f7 = some ⟨oc7, od7, .func (PySem.W.fnOf "_law_pick" "_law_pick" (defArgs sPick) (defBody sPick) (defScope sPick) .none kV7 dc7 pm7 an7 cd7 ct7), sl7⟩) (c7 : PySem.W.codeIn K cd7 "_law_pick" = true) (k7 : PySem.W.keepIn K (.ref f7) = true)
    (a8 : PySem.W.nsIn K mainGlobals "_law_bits" = some (some (.ref f8))) (l8 : K.lookup f8 = some ⟨oc8, od8, .func (PySem.W.fnOf "_law_bits" "_law_bits" (defArgs sLBits) (defBody sLBits) (defScope sLBits) .none kV8 dc8 pm8 an8 cd8 ct8), sl8⟩) (c8 : PySem.W.codeIn K cd8 "_law_bits" = true) (k8 : PySem.W.keepIn K (.ref f8) = true)
    (a9 : PySem.W.nsIn K mainGlobals "_law_list" = some (some (.ref f9))) (l9 : K.lookup f9 = some ⟨oc9, od9, .func (PySem.W.fnOf "_law_list" "_law_list" (defArgs sLList) (defBody sLList) (defScope sLList) .none kV9 dc9 pm9 an9 cd9 ct9), sl9⟩) (c9 : PySem.W.codeIn K cd9 "_law_list" = true) (k9 : PySem.W.keepIn K (.ref f9) = true)
    (a10 : PySem.W.nsIn K mainGlobals "_law_told" = some (some (.ref f10))) (l10 : K.lookup f10 = some ⟨oc10, od10, .func (PySem.W.fnOf "_law_told" "_law_told" (defArgs sLTold) (defBody sLTold) (defScope sLTold) .none kV10 dc10 pm10 an10 cd10 ct10), sl10⟩) (c10 : PySem.W.codeIn K cd10 "_law_told" = true) (k10 : PySem.W.keepIn K (.ref f10) = true)
    (a11 : PySem.W.nsIn K mainGlobals "law" = some (some (.ref f11))) (l11 : K.lookup f11 = some ⟨oc11, od11, .func (PySem.W.fnOf "law" "law" (defArgs sLaw) (defBody sLaw) (defScope sLaw) .none kV11 dc11 pm11 an11 cd11 ct11), sl11⟩) (c11 : PySem.W.codeIn K cd11 "law" = true) (k11 : PySem.W.keepIn K (.ref f11) = true)
    (z1 : PySem.W.nsIn K mainGlobals "len" = some none) (z2 : PySem.W.nsIn K mainGlobals "range" = some none) (z3 : PySem.W.nsIn K mainGlobals "tuple" = some none) (z4 : PySem.W.nsIn K mainGlobals "zip" = some none) (z5 : PySem.W.nsIn K mainGlobals "isinstance" = some none) (z6 : PySem.W.nsIn K mainGlobals "str" = some none) (z7 : PySem.W.nsIn K mainGlobals "list" = some none) (z8 : PySem.W.nsIn K mainGlobals "set" = some none) (z9 : PySem.W.nsIn K mainGlobals "all" = some none) (z10 : PySem.W.nsIn K mainGlobals "sorted" = some none) (z11 : PySem.W.nsIn K mainGlobals "int" = some none) (z12 : PySem.W.nsIn K mainGlobals "bool" = some none) (z13 : PySem.W.nsIn K mainGlobals "sum" = some none) (z14 : PySem.W.nsIn K mainGlobals "max" = some none) :
    ∃ fd : FuncData, (∀ (s : Shared) (v : Value), BindsTo s fd ⟨[v], []⟩ [("_law_script", v)]) ∧ ∀ base : Heap, K.In base → base.Ns mainGlobals mg → FnOk l.prog w K mg base CX0 4 fa fd ["_law_script"] (spLaw K) := by
  have e := hfa.symm.trans (PySem.W.mg_of X G a11)
  cases e
  have T : Bl mg := ⟨PySem.W.mg_none_of X G z1, PySem.W.mg_none_of X G z2, PySem.W.mg_none_of X G z3, PySem.W.mg_none_of X G z4, PySem.W.mg_none_of X G z5, PySem.W.mg_none_of X G z6, PySem.W.mg_none_of X G z7, PySem.W.mg_none_of X G z8, PySem.W.mg_none_of X G z9, PySem.W.mg_none_of X G z10, PySem.W.mg_none_of X G z11, PySem.W.mg_none_of X G z12, PySem.W.mg_none_of X G z13, PySem.W.mg_none_of X G z14⟩
  have F1 := fun_mk (st := sSetOf) l1 c1 k1
  have F2 := fun_mk (st := sWorldsOf) l2 c2 k2
  have F3 := fun_mk (st := sSizeOf) l3 c3 k3
  have F4 := fun_mk (st := sLeastOf) l4 c4 k4
  have F5 := fun_mk (st := sWithin) l5 c5 k5
  have F6 := fun_mk (st := sWithout) l6 c6 k6
  have F7 := fun_mk (st := sPick) l7 c7 k7
  have F8 := fun_mk (st := sLBits) l8 c8 k8
  have F9 := fun_mk (st := sLList) l9 c9 k9
  have F10 := fun_mk (st := sLTold) l10 c10 k10
  have F11 := fun_mk (st := sLaw) l11 c11 k11
  have D1 : Df K mg "set_of" sSetOf ["worlds"] f1 _ := ⟨F1, PySem.W.mg_of X G a1, F1.binds (ps := ["worlds"]) fun _ _ _ _ _ _ => ln1 fun _ => rfl⟩
  have D2 : Df K mg "worlds_of" sWorldsOf ["some"] f2 _ := ⟨F2, PySem.W.mg_of X G a2, F2.binds (ps := ["some"]) fun _ _ _ _ _ _ => ln1 fun _ => rfl⟩
  have D3 : Df K mg "size_of" sSizeOf ["some"] f3 _ := ⟨F3, PySem.W.mg_of X G a3, F3.binds (ps := ["some"]) fun _ _ _ _ _ _ => ln1 fun _ => rfl⟩
  have D4 : Df K mg "least_of" sLeastOf ["some"] f4 _ := ⟨F4, PySem.W.mg_of X G a4, F4.binds (ps := ["some"]) fun _ _ _ _ _ _ => ln1 fun _ => rfl⟩
  have D5 : Df K mg "within" sWithin ["one", "other"] f5 _ := ⟨F5, PySem.W.mg_of X G a5, F5.binds (ps := ["one", "other"]) fun _ _ _ _ _ _ => ln2 fun _ _ => rfl⟩
  have D6 : Df K mg "without" sWithout ["one", "other"] f6 _ := ⟨F6, PySem.W.mg_of X G a6, F6.binds (ps := ["one", "other"]) fun _ _ _ _ _ _ => ln2 fun _ _ => rfl⟩
  have D7 : Df K mg "_law_pick" sPick ["_law_script", "_law_k", "_law_many"] f7 _ := ⟨F7, PySem.W.mg_of X G a7, F7.binds (ps := ["_law_script", "_law_k", "_law_many"]) fun _ _ _ _ _ _ => ln3 fun _ _ _ => rfl⟩
  have D8 : Df K mg "_law_bits" sLBits ["_law_worlds"] f8 _ := ⟨F8, PySem.W.mg_of X G a8, F8.binds (ps := ["_law_worlds"]) fun _ _ _ _ _ _ => ln1 fun _ => rfl⟩
  have D9 : Df K mg "_law_list" sLList ["_law_script", "_law_k"] f9 _ := ⟨F9, PySem.W.mg_of X G a9, F9.binds (ps := ["_law_script", "_law_k"]) fun _ _ _ _ _ _ => ln2 fun _ _ => rfl⟩
  have D10 : Df K mg "_law_told" sLTold ["_law_worlds"] f10 _ := ⟨F10, PySem.W.mg_of X G a10, F10.binds (ps := ["_law_worlds"]) fun _ _ _ _ _ _ => ln1 fun _ => rfl⟩
  refine ⟨PySem.W.fnOf "law" "law" (defArgs sLaw) (defBody sLaw) (defScope sLaw) .none kV11 dc11 pm11 an11 cd11 ct11, fun s v => .of_eq rfl, fun base _ _ => ?_⟩
  have GQ := ok_pickD (P := l.prog) (w := w) (base := base) F7 T
  have GP := ok_pick GQ
  have Gso := ok_setof (P := l.prog) (w := w) (mg := mg) (base := base) F1
  have Gwo := ok_worldsof (P := l.prog) (w := w) (base := base) F2 T
  have Gsz := ok_sizeof (P := l.prog) (w := w) (base := base) F3 T D2 Gwo
  have Gle := ok_leastof (P := l.prog) (w := w) (base := base) F4 T D2 Gwo
  have Gin := ok_within (P := l.prog) (w := w) (mg := mg) (base := base) F5
  have Gou := ok_without (P := l.prog) (w := w) (mg := mg) (base := base) F6
  have Gbi := ok_bits (P := l.prog) (w := w) (base := base) F8 T
  have Gli := ok_list (P := l.prog) (w := w) (base := base) F9 T D7 GP
  have Gto := ok_told (P := l.prog) (w := w) (base := base) F10 T D1 Gso D8 Gbi D2 Gwo D3 Gsz D4 Gle
  exact ok_law F11 T D7 GP D9 Gli D10 Gto D8 Gbi D5 Gin D6 Gou
theorem walk {l : PySem.W.OpenLaw} {q : Program} {loose : List Str} {XP : (Str → Option Value) → Heap → Prop} {YP : World → Heap → Prop} {d : DefRec} {K : Params → PySem.W.Frag} (hn : l.most = some 63) (hdf : d.params.defaults = [])
    (hY : ∀ (w : World) (h : Heap), YP w h → (K w.params).In h)
    (F : ∀ (w : World) (mg : Str → Option Value) (fa : Addr) (h : Heap), (K w.params).In h → h.Ns mainGlobals mg → mg d.name = some (.ref fa) →
      ∃ fd : FuncData, (∀ (s : Shared) (u : Value), BindsTo s fd ⟨[u], []⟩ [("_law_script", u)]) ∧ ∀ base : Heap, (K w.params).In base → base.Ns mainGlobals mg → FnOk l.prog w (K w.params) mg base CX0 4 fa fd ["_law_script"] (spLaw (K w.params))) :
    PySem.W.WalkO q loose XP YP l.row.toRowW d [] (fun f vs => PySem.call f vs) :=
  L2.walk_of (n := 63) (k := 4) (x := "_law_script") (CX := fun _ => CX0) (sp := fun w => spLaw (K w.params)) hn (by decide) hdf ⟨rfl, by decide, by decide⟩ hY F (fun _ _ a ns hl _ hS => ⟨a, ns, rfl, hS, hl, fun _ => rfl⟩) fun _ _ _ _ _ z => z
end K16
open PySem PySem.W PyProof.Rows
set_option maxRecDepth 100000 in
set_option maxHeartbeats 0 in
theorem PySem.Challenge.cw_grope_k16_sets_by_bits_holds : PySem.Challenge.rw_grope_k16_sets_by_bits.Holds := by
  w_on; o_law; k_head; (case hw => w_witness2)
  k_fill
  refine K16.walk (l := PySem.Challenge.rw_grope_k16_sets_by_bits) rfl rfl (fun w h Y => PySem.W.kIn_of Y) ?F
  case F =>
    intro w mg fa h KX G hmg
    refine' K16.all_mk KX G hmg ?a1 ?l1 ?c1 ?k1 ?a2 ?l2 ?c2 ?k2 ?a3 ?l3 ?c3 ?k3 ?a4 ?l4 ?c4 ?k4 ?a5 ?l5 ?c5 ?k5 ?a6 ?l6 ?c6 ?k6 ?a7 ?l7 ?c7 ?k7 ?a8 ?l8 ?c8 ?k8 ?a9 ?l9 ?c9 ?k9 ?a10 ?l10 ?c10 ?k10 ?a11 ?l11 ?c11 ?k11 ?z1 ?z2 ?z3 ?z4 ?z5 ?z6 ?z7 ?z8 ?z9 ?z10 ?z11 ?z12 ?z13 ?z14
    (case a1 => k_is)
    (case l1 => k_is)
    (case c1 => k_is)
    (case k1 => k_is)
    (case a2 => k_is)
    (case l2 => k_is)
    (case c2 => k_is)
    (case k2 => k_is)
    (case a3 => k_is)
    (case l3 => k_is)
    (case c3 => k_is)
    (case k3 => k_is)
    (case a4 => k_is)
    (case l4 => k_is)
    (case c4 => k_is)
    (case k4 => k_is)
    (case a5 => k_is)
    (case l5 => k_is)
    (case c5 => k_is)
    (case k5 => k_is)
    (case a6 => k_is)
    (case l6 => k_is)
    (case c6 => k_is)
    (case k6 => k_is)
    (case a7 => k_is)
    (case l7 => k_is)
    (case c7 => k_is)
    (case k7 => k_is)
    (case a8 => k_is)
    (case l8 => k_is)
    (case c8 => k_is)
    (case k8 => k_is)
    (case a9 => k_is)
    (case l9 => k_is)
    (case c9 => k_is)
    (case k9 => k_is)
    (case a10 => k_is)
    (case l10 => k_is)
    (case c10 => k_is)
    (case k10 => k_is)
    (case a11 => k_is)
    (case l11 => k_is)
    (case c11 => k_is)
    (case k11 => k_is)
    (case z1 => k_is)
    (case z2 => k_is)
    (case z3 => k_is)
    (case z4 => k_is)
    (case z5 => k_is)
    (case z6 => k_is)
    (case z7 => k_is)
    (case z8 => k_is)
    (case z9 => k_is)
    (case z10 => k_is)
    (case z11 => k_is)
    (case z12 => k_is)
    (case z13 => k_is)
    (case z14 => k_is)
#print axioms PySem.Challenge.cw_grope_k16_sets_by_bits_holds
