import PyProof.Rows.All
import Wide.All
import OpenK.AllK
import Wide.FinOn
import Lean
import PyProof.EqAt
import PyProof.EqKinds
import PyProof.TupleCall
import PySem.Challenge.RW_grope_k36_a_plan_told
set_option Elab.async false
set_option linter.all false
set_option maxRecDepth 100000
set_option maxHeartbeats 4000000
namespace L2
open PySem PySem.Spec PyProof.Rows
noncomputable abbrev Key:=Sum Int Str
noncomputable def Zgw:Key→Value→Bool
 | .inl k,v=>Value.isInt k v
 | .inr x,v=>Value.isStrOf x v
noncomputable def keyH (w:World):Key→Int
 | .inl k=>hashInt k
 | .inr x=>hashStr w x
theorem Za3:∀ {k:Key} {v:Value},Zgw k v=true→(∃ i t,k=Sum.inl i∧v=Value.int i t) ∨ (∃ x t,k=Sum.inr x∧v=Value.str x t)
 | .inl i,v,h=>by
  obtain ⟨t,e⟩:=Value.isInt_shape (k:=i) (v:=v) h
  exact .inl ⟨i,t,rfl,e⟩
 | .inr x,v,h=>by
  obtain ⟨t,e⟩:=Value.isStrOf_shape (x:=x) (v:=v) h
  exact .inr ⟨x,t,rfl,e⟩
theorem keyIs_int (i:Int) (t:Tok):Zgw (.inl i) (.int i t)=true:=by simp [Zgw,Value.isInt]
theorem keyIs_str (x:Str) (t:Tok):Zgw (.inr x) (.str x t)=true:=by simp [Zgw,Value.isStrOf]
theorem key_ll (a b:Int):decide ((Sum.inl a:Key)=Sum.inl b)=(a == b):=by
 by_cases e:a=b
 ·subst e; simp
 ·have h:¬ (Sum.inl a:Key)=Sum.inl b:=fun q=>e (Sum.inl.inj q)
  rw [decide_eq_false h]
  exact (beq_eq_false_iff_ne.mpr e).symm
theorem key_rr (a b:Str):decide ((Sum.inr a:Key)=Sum.inr b)=decide (a=b):=by
 by_cases e:a=b
 ·subst e; simp
 ·have h:¬ (Sum.inr a:Key)=Sum.inr b:=fun q=>e (Sum.inr.inj q)
  rw [decide_eq_false h,decide_eq_false e]
theorem key_lr (a:Int) (b:Str):decide ((Sum.inl a:Key)=Sum.inr b)=false:=decide_eq_false (fun q=>nomatch q)
theorem key_rl (a:Str) (b:Int):decide ((Sum.inr a:Key)=Sum.inl b)=false:=decide_eq_false (fun q=>nomatch q)
noncomputable def Za2 (prog:Program) (w:World):PySem.KeyKind prog w Key where
 is:=Zgw
 hash:=keyH w
 inj:=fun v a b ha hb=>by
  rcases Za3 ha with ⟨i,t,rfl,rfl⟩ | ⟨x,t,rfl,rfl⟩
  ·rcases Za3 hb with ⟨j,u,rfl,e⟩ | ⟨y,u,rfl,e⟩
   ·injection e with e1 _; rw [e1]
   ·exact nomatch e
  ·rcases Za3 hb with ⟨j,u,rfl,e⟩ | ⟨y,u,rfl,e⟩
   ·exact nomatch e
   ·injection e with e1 _; rw [e1]
 byValue:=fun k v h=>by
  rcases Za3 h with ⟨i,t,rfl,rfl⟩ | ⟨x,t,rfl,rfl⟩ <;> rfl
 pyHash:=fun hv h=>by
  rcases Za3 hv with ⟨i,t,rfl,rfl⟩ | ⟨x,t,rfl,rfl⟩
  ·exact wpAny_pyHash_int h
  ·exact wpAny_pyHash_str h
 eqBool:=fun hu hv h=>by
  rcases Za3 hu with ⟨i,t,rfl,rfl⟩ | ⟨x,t,rfl,rfl⟩
  ·rcases Za3 hv with ⟨j,u,rfl,rfl⟩ | ⟨y,u,rfl,rfl⟩
   ·rw [key_ll] at h; exact wpAny_eqBool_int h
   ·rw [key_lr] at h; exact SeqAt.EqAt.int_str i t y u _ _ _ _ h
  ·rcases Za3 hv with ⟨j,u,rfl,rfl⟩ | ⟨y,u,rfl,rfl⟩
   ·rw [key_rl] at h; exact SeqAt.EqAt.str_int x t j u _ _ _ _ h
   ·rw [key_rr] at h; exact wpAny_eqBool_str h
 «strs»:=fun k x t v h=>by
  rcases Za3 h with ⟨i,u,rfl,e⟩ | ⟨y,u,rfl,e⟩
  ·exact nomatch e
  ·injection e with e1 _
   subst e1
   cases v <;> rfl
theorem mixKind_int (prog:Program) (w:World) (i:Int) (t:Tok):(Za2 prog w).is (.inl i) (.int i t)=true:=keyIs_int i t
theorem mixKind_str (prog:Program) (w:World) (x:Str) (t:Tok):(Za2 prog w).is (.inr x) (.str x t)=true:=keyIs_str x t
end L2
namespace L2
open PySem PySem.Spec PyProof.Rows
inductive V where
 | non | bl (b:Bool) | int (i:Int) | str (x:Str) | byt (b:Array UInt8) | flt (b:UInt64) | ref (a:Addr) | ty (n:String)
 deriving DecidableEq
noncomputable def RelV:V→Value→Prop
 | .non,u=>u=Value.none
 | .bl b,u=>u=Value.bool b
 | .int i,u=>∃ t,u=Value.int i t
 | .str x,u=>∃ t,u=Value.str x t
 | .byt b,u=>∃ t,u=Value.bytes b t
 | .flt b,u=>∃ t,u=Value.float b t
 | .ref a,u=>u=Value.ref a
 | .ty n,u=>u=Value.type n
noncomputable abbrev Vals:List V→List Value→Prop:=Paired RelV
theorem Vals.length {xs:List V} {us:List Value} (r:Vals xs us):xs.length=us.length:=Paired.length r
theorem Vals.get:∀ {xs:List V} {us:List Value} {i:Nat} {x:V},Vals xs us→xs[i]? = some x→∃ u,us[i]? = some u∧RelV x u
 | _,_,_,_,.nil,e=>by simp at e
 | _,_,0,_,.cons r _,e=>by simp at e; subst e; exact ⟨_,rfl,r⟩
 | _,_,i + 1,x,.cons _ t,e=>by
  obtain ⟨u,h1,h2⟩:=Vals.get (i:=i) (x:=x) t (by simpa using e)
  exact ⟨u,by simpa using h1,h2⟩
theorem Vals.append:∀ {xs ys:List V} {us ws:List Value},Vals xs us→Vals ys ws→Vals (xs ++ ys) (us ++ ws)
 | _,_,_,_,.nil,s=>s
 | _,_,_,_,.cons r t,s=>.cons r (Vals.append t s)
theorem Vals.take:∀ {xs:List V} {us:List Value} (n:Nat),Vals xs us→Vals (xs.take n) (us.take n)
 | _,_,0,_=>.nil
 | _,_,_ + 1,.nil=>.nil
 | _,_,n + 1,.cons r t=>.cons r (Vals.take n t)
theorem Vals.drop:∀ {xs:List V} {us:List Value} (n:Nat),Vals xs us→Vals (xs.drop n) (us.drop n)
 | _,_,0,r=>r
 | _,_,_ + 1,.nil=>.nil
 | _,_,n + 1,.cons _ t=>Vals.drop n t
noncomputable def RelO:Option V→Option Value→Prop
 | some v,some u=>RelV v u
 | none,none=>True
 | _,_=>False
noncomputable def KV {κ:Type}:List (κ × V)→List (κ × Value)→Prop:=Paired fun (p:κ × V) (q:κ × Value)=>p.1=q.1∧RelV p.2 q.2
noncomputable def kV:Key→V
 | .inl i=>.int i
 | .inr x=>.str x
inductive HO where
 /-- a list -/
 | lst (xs:List V)
 /-- a tuple (never changes) -/
 | tup (xs:List V)
 /-- a dict whose keys are ints and texts; one whose keys are tuples of ints and texts (the empty one is both) -/
 | dK (kvs:List (Key × V)) | dT (kvs:List (List Key × V))
 /-- a set of ints: its members,its size -/
 | set (S:Int→Bool) (n:Nat)
 /-- an instance of the class at C,its dict at dx,its attributes -/
 | ins (C dx:Addr) (fs:List (Str × V))
 /-- the dict of the instance at x -/
 | own (x:Addr)
 /-- the dict of an exception -/
 | xd (fs:List (Str × V))
 /-- a bound method,f of x -/
 | met (f x:Addr)
 /-- a range object lo,lo + 1,.. below hi -/
 | rng (lo hi:Int)
 /-- a thing that is known to the object (the script; a dict while a loop walks it): read,never written while it is so -/
 | frz (o:Obj) (u:HO)
 /-- a code object's table -/
 | tbl (ps:Array Value)
 /-- any other thing,by what is true of its one object (a def of one's own: SetO a S n:=HO.ext fun h=>..) -/
 | ext (φ:Heap→Prop)
noncomputable abbrev Hp:=Addr→Option HO
noncomputable def upd (H:Hp) (a:Addr) (o:HO):Hp:=fun b=>if b=a then some o else H b
theorem Zac {H:Hp} {a:Addr} {o:HO}:upd H a o a=some o:=by unfold upd; rw [if_pos rfl]
theorem Zak {H:Hp} {a b:Addr} {o:HO} (h:b ≠ a):upd H a o b=H b:=by unfold upd; rw [if_neg h]
theorem Za5 {H:Hp} {a b:Addr} {o u:HO} (h:H a=some o) (h':H b=some u) (d:o ≠ u):a ≠ b:=by
 intro e; subst e; rw [h] at h'; exact d (Option.some.inj h')
theorem Zah {H:Hp} {a b:Addr} {o:HO} (h:H a=some o) (h':H b=none):a ≠ b:=by
 intro e; subst e; rw [h] at h'; cases h'
section
variable (P:Program) (w:World)
noncomputable def ObjOk (H:Hp) (h:Heap) (a:Addr):HO→Prop
 | .lst xs=>xs.length ≤ sizeLine∧∃ (its:List Value) (n:Nat),Vals xs its∧h.get? a=some { cls:=.type "list",data:=.seq its.toArray n }
 | .tup xs=>xs.length ≤ sizeLine∧∃ its:List Value,Vals xs its∧IsTup h a its.toArray
 | .dK kvs=>kvs.length ≤ sizeLine∧(a == sysModules)=false∧∃ vs,KV kvs vs∧h.DictOf (Za2 P w) a vs
 | .dT kvs=>kvs.length ≤ sizeLine∧(a == sysModules)=false∧∃ xs:List (List Key × Addr × Value),
   Paired (fun (p:List Key × V) (q:List Key × Addr × Value)=>p.1=q.1∧H q.2.1=some (.tup (p.1.map kV))∧RelV p.2 q.2.2) kvs xs ∧
   ∃ o es ep,h.get? a=some o∧o.ExactDict∧o.data=.dict es ep∧es.toList=xs.map (entryOfKey (tupleKind (Za2 P w)))∧(xs.map (·.1)).Nodup
 | .set S n=>h.SetOf (intKind P w) a S n
 | .ins C dx fs=>H dx=some (.own a)∧fs.length ≤ 1000∧dx ≠ a∧h.get? a=some (PySem.W.instObj C dx) ∧
   ∃ mA,h.Ns1 dx mA∧(∀ f,RelO (fs.lookup f) (mA f))∧PySem.Within mA (fs.map (·.1))
 | .own _=>∃ o,h.get? a=some o
 | .xd fs=>∃ mA,h.Ns1 a mA∧∀ f,RelO (fs.lookup f) (mA f)
 | .rng lo hi=>∃ t u v,h.get? a=some { cls:=.type "range",data:=.fields #[.int lo t,.int hi u,.int 1 v] }
 | .frz o u=>h.get? a=some o∧ObjOk H h a u
 | .tbl ps=>h.get? a=some { cls:=.none,data:=.fields ps }
 | .met f x=>h.get? a=some (PySem.W.methodObj (.ref f) (.ref x))
 | .ext φ=>φ h∧(∃ o,h.get? a=some o)∧∀ h1 h2:Heap,φ h1→(∀ o,h1.get? a=some o→h2.get? a=some o)→φ h2
noncomputable def HOk (H:Hp) (h:Heap):Prop:=∀ a o,H a=some o→ObjOk P w H h a o
end
section
variable {P:Program} {w:World} {H H':Hp} {h h':Heap} {a:Addr} {o:HO}
theorem ObjOk.lt (x:ObjOk P w H h a o):a < h.objs.size:=by
 cases o with
 | lst xs=>obtain ⟨_,_,_,_,e⟩:=x; exact Heap.lt_size e
 | tup xs=>obtain ⟨_,_,_,p⟩:=x; exact p.lt
 | dK kvs=>obtain ⟨_,_,_,_,o,_,_,e,_⟩:=x; exact Heap.lt_size e
 | dT kvs=>obtain ⟨_,_,_,_,o,_,_,e,_⟩:=x; exact Heap.lt_size e
 | set S n=>obtain ⟨o,_,_,_,e,_⟩:=x; exact Heap.lt_size e
 | ins C dx fs=>obtain ⟨_,_,_,e,_⟩:=x; exact Heap.lt_size e
 | own y=>obtain ⟨_,e⟩:=x; exact Heap.lt_size e
 | xd fs=>obtain ⟨_,⟨_,_,_,e,_⟩,_⟩:=x; exact Heap.lt_size e
 | rng lo hi=>obtain ⟨_,_,_,e⟩:=x; exact Heap.lt_size e
 | frz ob u=>obtain ⟨e,_⟩:=x; exact Heap.lt_size e
 | tbl ps=>exact Heap.lt_size (show h.get? a=some _ from x)
 | met f y=>exact Heap.lt_size (show h.get? a=some _ from x)
 | ext φ=>obtain ⟨_,⟨_,e⟩,_⟩:=x; exact Heap.lt_size e
theorem Paired.mapP {α β:Type} {F G:α→β→Prop}:∀ {l₁:List α} {l₂:List β},Paired F l₁ l₂→(∀ a b,F a b→G a b)→Paired G l₁ l₂
 | _,_,.nil,_=>.nil
 | _,_,.cons r t,f=>.cons (f _ _ r) (Paired.mapP t f)
theorem ObjOk.stay (x:ObjOk P w H h a o) (k:∀ b u,(b=a ∨ H b=some (.own a))→h.get? b=some u→h'.get? b=some u)
  (ho:∀ b,H b=some (.own a)→H' b=some (.own a)) (ht:∀ b xs,H b=some (.tup xs)→H' b=some (.tup xs)):ObjOk P w H' h' a o:=by
 induction o with
 | lst xs=>obtain ⟨z,its,n,r,e⟩:=x; exact ⟨z,its,n,r,k _ _ (.inl rfl) e⟩
 | tup xs=>obtain ⟨z,its,r,ob,e,c⟩:=x; exact ⟨z,its,r,ob,k _ _ (.inl rfl) e,c⟩
 | dK kvs=>obtain ⟨z,y,vs,r,ob,es,ep,e,c⟩:=x; exact ⟨z,y,vs,r,ob,es,ep,k _ _ (.inl rfl) e,c⟩
 | dT kvs=>
  obtain ⟨z,y,xs,r,ob,es,ep,e,c⟩:=x
  exact ⟨z,y,xs,Paired.mapP r fun p q z=>⟨z.1,ht _ _ z.2.1,z.2.2⟩,ob,es,ep,k _ _ (.inl rfl) e,c⟩
 | set S n=>obtain ⟨ob,es,ep,t,e,c⟩:=x; exact ⟨ob,es,ep,t,k _ _ (.inl rfl) e,c⟩
 | ins C dx fs=>
  obtain ⟨d,z,ne,e,mA,⟨od,es,ep,e2,c⟩,r⟩:=x
  exact ⟨ho _ d,z,ne,k _ _ (.inl rfl) e,mA,⟨od,es,ep,k _ _ (.inr d) e2,c⟩,r⟩
 | own y=>obtain ⟨ob,e⟩:=x; exact ⟨ob,k _ _ (.inl rfl) e⟩
 | xd fs=>obtain ⟨mA,⟨od,es,ep,e,c⟩,r⟩:=x; exact ⟨mA,⟨od,es,ep,k _ _ (.inl rfl) e,c⟩,r⟩
 | rng lo hi=>obtain ⟨t,u,v,e⟩:=x; exact ⟨t,u,v,k _ _ (.inl rfl) e⟩
 | frz ob u ih=>obtain ⟨e,q⟩:=x; exact ⟨k _ _ (.inl rfl) e,ih q⟩
 | tbl ps=>
  have e:h.get? a=some { cls:=.none,data:=.fields ps }:=x
  show h'.get? a=some { cls:=.none,data:=.fields ps }
  exact k a _ (.inl rfl) e
 | met f y=>
  have e:h.get? a=some (PySem.W.methodObj (.ref f) (.ref y)):=x
  show h'.get? a=some (PySem.W.methodObj (.ref f) (.ref y))
  exact k a _ (.inl rfl) e
 | ext φ=>obtain ⟨p,⟨o,e⟩,st⟩:=x; exact ⟨st _ _ p fun o q=>k _ _ (.inl rfl) q,⟨o,k _ _ (.inl rfl) e⟩,st⟩
theorem HOk.lt (x:HOk P w H h) (e:H a=some o):a < h.objs.size:=(x a o e).lt
theorem HOk.fresh (x:HOk P w H h) (e:h.objs.size ≤ a):H a=none:=by
 cases q:H a with
 | none=>rfl
 | some u=>exact absurd (Nat.lt_of_lt_of_le (x.lt q) e) (Nat.lt_irrefl _)
theorem HOk.kept (x:HOk P w H h) (k:∀ b u,h.get? b=some u→h'.get? b=some u):HOk P w H h':=fun a o e=>
 (x a o e).stay (fun b u _ q=>k b u q) (fun _ q=>q) fun _ _ q=>q
theorem HOk.laid (x:HOk P w H h) (k:∀ b u,h.get? b=some u→h'.get? b=some u) (hp:h.objs.size ≤ a) (new:ObjOk P w (upd H a o) h' a o):HOk P w (upd H a o) h':=fun b u e=>by
 have hn:=x.fresh hp
 by_cases hb:b=a
 ·subst hb; rw [Zac] at e; cases e; exact new
 ·rw [Zak hb] at e
  exact (x b u e).stay (fun c v _ q=>k c v q) (fun c q=>by rw [Zak (Zah q hn)]; exact q) fun c xs q=>by rw [Zak (Zah q hn)]; exact q
end
noncomputable def Rd (H:Hp) (a:Addr) (u:HO):Prop:=H a=some u ∨ ∃ o,H a=some (.frz o u)
theorem Rd.ok {P:Program} {w:World} {H:Hp} {h:Heap} {a:Addr} {u:HO} (r:Rd H a u) (x:HOk P w H h):ObjOk P w H h a u:=by
 rcases r with r | ⟨o,r⟩
 ·exact x a u r
 ·obtain ⟨_,q⟩:=x a _ r
  exact q
noncomputable def Mut:Option HO→Prop
 | some (.lst _)=>True
 | some (.dK _)=>True
 | some (.dT _)=>True
 | some (.set _ _)=>True
 | some (.ins _ _ _)=>True
 | some (.ext _)=>True
 | _=>False
section
variable {P:Program} {w:World} {H:Hp} {h h':Heap} {x e:Addr} {o':HO}
theorem HOk.write (ok:HOk P w H h) (mu:Mut (H x)) (he:e=x ∨ H e=some (.own x)) (k:∀ b u,b ≠ e→h.get? b=some u→h'.get? b=some u) (heo:∃ u,h'.get? e=some u)
  (new:ObjOk P w (upd H x o') h' x o'):HOk P w (upd H x o') h':=fun b u q=>by
 have nown:∀ c y,H c=some (.own y)→c ≠ x:=fun c y r z=>by subst z; rw [r] at mu; exact mu
 have ntup:∀ c xs,H c=some (.tup xs)→c ≠ x:=fun c xs r z=>by subst z; rw [r] at mu; exact mu
 by_cases hb:b=x
 ·subst hb; rw [Zac] at q; cases q; exact new
 ·rw [Zak hb] at q
  by_cases hbe:b=e
  ·have q':H b=some (.own x):=by
    rcases he with z | z
    ·exact absurd (hbe.trans z) hb
    ·rw [hbe]; exact z
   rw [q] at q'; cases q'
   obtain ⟨v,hv⟩:=heo
   exact ⟨v,by rw [hbe]; exact hv⟩
  ·refine (ok b u q).stay (fun c v hc r=>k c v ?_ r) (fun c r=>by rw [Zak (nown c b r)]; exact r) fun c xs r=>by rw [Zak (ntup c xs r)]; exact r
   rcases hc with rfl | hc
   ·exact hbe
   ·rintro rfl
    rcases he with z | z
    ·exact nown c b hc z
    ·rw [hc] at z; cases z; exact hb rfl
end
structure Un (fs ex:List Addr) (H H':Hp) (h h':Heap):Prop where
 keep:∀ b o,h.get? b=some o→H b=none→b ∉ fs→b ∉ ex→h'.get? b=some o
 slot:∀ b o,h.get? b=some o→H b=none→b ∈ fs→b ∉ ex→∃ sl,h'.get? b=some { o with slots:=sl }
 free:∀ b o,h.get? b=some o→H b=none→b ∉ ex→H' b=none
 there:∀ b o,h.get? b=some o→b ∉ ex→∃ o',h'.get? b=some o'
 tups:∀ b xs,H b=some (.tup xs)→H' b=some (.tup xs)
 frzs:∀ b o u,H b=some (.frz o u)→H' b=some (.frz o u)
 tbls:∀ b ps,H b=some (.tbl ps)→∃ more,H' b=some (.tbl (ps ++ more))
section
variable {fs fs' ex ex':List Addr} {H H1 H2:Hp} {h h1 h2 h':Heap} {a x e:Addr} {o:HO}
theorem Un.any (u:Un fs ex H H1 h h1) {b:Addr} {ob:Obj} (q:h.get? b=some ob) (n:H b=none) (hx:b ∉ ex):∃ sl,h1.get? b=some { ob with slots:=sl }:=by
 by_cases hb:b ∈ fs
 ·exact u.slot b ob q n hb hx
 ·exact ⟨ob.slots,u.keep b ob q n hb hx⟩
theorem Un.kept (k:∀ b u,h.get? b=some u→h'.get? b=some u):Un fs ex H H h h':=
 ⟨fun b ob q _ _ _=>k b ob q,fun b ob q _ _ _=>⟨ob.slots,k b ob q⟩,fun _ _ _ n _=>n,fun b ob q _=>⟨ob,k b ob q⟩,fun _ _ q=>q,fun _ _ _ q=>q,fun _ ps q=>⟨#[],by rw [q]; simp⟩⟩
theorem Un.refl:Un fs ex H H h h:=Un.kept fun _ _ q=>q
theorem Un.laid (k:∀ b u,h.get? b=some u→h'.get? b=some u) (hp:h.objs.size ≤ a) (hn:H a=none):Un fs ex H (upd H a o) h h' where
 keep:=fun b u q _ _ _=>k b u q
 slot:=fun b u q _ _ _=>⟨u.slots,k b u q⟩
 free:=fun b u q n _=>by rw [Zak (Nat.ne_of_lt (Nat.lt_of_lt_of_le (Heap.lt_size q) hp))]; exact n
 there:=fun b u q _=>⟨u,k b u q⟩
 tups:=fun b xs q=>by rw [Zak (Zah q hn)]; exact q
 frzs:=fun b u xs q=>by rw [Zak (Zah q hn)]; exact q
 tbls:=fun b ps q=>⟨#[],by rw [Zak (Zah q hn),q]; simp⟩
theorem Un.write (mu:Mut (H x)) (he:e=x ∨ H e=some (.own x)) (k:∀ b u,b ≠ e→h.get? b=some u→h'.get? b=some u) (heo:∃ u,h'.get? e=some u):Un fs ex H (upd H x o) h h':=by
 have hx:∀ b,H b=none→b ≠ x:=fun b n z=>by subst z; rw [n] at mu; exact mu
 have hb:∀ b,H b=none→b ≠ e:=fun b n z=>by
  subst z
  rcases he with r | r
  ·exact hx b n r
  ·rw [n] at r; cases r
 have hm:∀ b u,H b=some u→¬ Mut (some u)→b ≠ x:=fun b u q nm z=>by subst z; rw [q] at mu; exact nm mu
 refine ⟨fun b u q n _ _=>k b u (hb b n) q,fun b u q n _ _=>⟨u.slots,k b u (hb b n) q⟩,fun b u q n _=>by rw [Zak (hx b n)]; exact n,fun b u q _=>?_,
  fun b xs q=>by rw [Zak (hm b _ q fun z=>z)]; exact q,fun b u xs q=>by rw [Zak (hm b _ q fun z=>z)]; exact q,fun b ps q=>⟨#[],by rw [Zak (hm b _ q fun z=>z),q]; simp⟩⟩
 by_cases hbe:b=e
 ·subst hbe; exact heo
 ·exact ⟨u,k b u hbe q⟩
end
noncomputable def trk (h:Heap) (H:Hp):List Addr:=(List.range h.objs.size).filter fun a=>(H a).isSome
noncomputable def hidT (h:Heap) (H:Hp):Heap:=PySem.W.hideAll h (trk h H)
theorem hidT_size (h:Heap) (H:Hp):(hidT h H).objs.size=h.objs.size:=PySem.W.hideAll_size _ _
theorem hidT_get {h:Heap} {H:Hp} {b:Addr} {o:Obj} (e:h.get? b=some o) (n:H b=none):(hidT h H).get? b=some o:=
 PySem.W.hideAll_get _ e fun hm=>by
  have q:(H b).isSome=true:=(List.mem_filter.mp hm).2
  rw [n] at q; simp at q
theorem of_hidT {h:Heap} {H:Hp} {b:Addr} {o:Obj} (e:(hidT h H).get? b=some o):h.get? b=some o∧H b=none:=by
 have e':h.get? b=some o:=PySem.W.of_hideAll (trk h H) e
 refine ⟨e',?_⟩
 cases q:H b with
 | none=>rfl
 | some x=>
  have hm:b ∈ trk h H:=List.mem_filter.mpr ⟨List.mem_range.mpr (Heap.lt_size e'),by simp [q]⟩
  have z:(hidT h H).get? b=none:=PySem.W.hideAll_none (trk h H) hm
  rw [z] at e; cases e
end L2
namespace L2
open PySem PySem.Spec PyProof.Rows
structure Mod (K:PySem.W.Frag) (mg:Str→Option Value) (base:Heap):Prop where
 kin:K.In base
 glob:base.Ns mainGlobals mg
 blt:∃ mb,base.Ns builtinsNs mb∧∀ x:Str,x ≠ "__name__" → mb x=bootBuiltins x
 nolimit:base.NoLimit
structure Cx where
 prog:Program
 w:World
 K:PySem.W.Frag
 mg:Str→Option Value
 base:Heap
 A:Around
 N:List Str
 s₀:Shared
 H₀:Hp
 env:Env
 outer:List Env
 stack:List Env
 ex:List Addr
 fn:Str→Bool
 calm:Bool
 pn:List (Addr × Obj)
 xe:Value→Shared→Prop
noncomputable def frs (l:List Env):List Addr:=l.filterMap (·.frame)
noncomputable abbrev Cx.fs (X:Cx):List Addr:=frs X.outer
noncomputable def Vis (sc:Scope) (x:Str):Prop:=sc.names.lookup x=some .local ∨ sc.names.lookup x=some .cell ∨ sc.names.lookup x=some .free
noncomputable def Loc (sc:Scope) (x:Str):Prop:=sc.names.lookup x=some .local ∨ sc.names.lookup x=some .cell
noncomputable def Look (env:Env) (h:Heap) (m:Str→Option Value) (x:Str) (u:Value):Prop:=
 (env.kindOf x=some .local∧m x=some u) ∨ ((env.kindOf x=some .cell ∨ env.kindOf x=some .free)∧∃ c,env.cells.lookup x=some c∧h.IsCell c (some u))
structure Cx.Ok (X:Cx):Prop where
 mod:Mod X.K X.mg X.base
 kind:X.env.scope.kind=.function
 glob:X.env.globals=mainGlobals
 blt:X.env.builtins=builtinsNs
 above:X.s₀.heap.objs.size ≤ X.env.locals
 inj:∀ x y c,X.env.cells.lookup x=some c→X.env.cells.lookup y=some c→x=y
 has:∀ x,(X.env.kindOf x=some .cell ∨ X.env.kindOf x=some .free)→∃ c,X.env.cells.lookup x=some c
 cab:∀ x c,X.fn x=true→X.env.cells.lookup x=some c→X.s₀.heap.objs.size ≤ c
 hd:X.calm=true→X.A.handled=none
 frames:X.A.frames=some X.stack
 stk:X.stack=X.outer ∨ (X.stack=X.env :: X.outer∧X.env.frame=some X.env.locals)
 exf:∀ b ∈ X.ex,b ≠ X.env.locals∧∀ x c,X.env.cells.lookup x=some c→c ≠ b
 bs:∀ b o,X.base.get? b=some o→X.s₀.heap.get? b=some o∧X.H₀ b=none
 bsz:X.base.objs.size ≤ X.s₀.heap.objs.size
 noex:∀ b o,X.base.get? b=some o→b ∉ X.ex
 exfs:∀ b ∈ X.ex,b ∉ X.fs
 funs:X.s₀.heap.FunFrames X.base X.outer
 frf:∀ b ∈ X.fs,X.H₀ b=none
structure Inv (X:Cx) (pins:List (Addr × Obj)) (σ:List (Option V)) (H:Hp) (s:Shared):Prop where
 ok:X.Ok
 os:s.os=X.s₀.os
 bare:AllBare s.gens
 base:Un X.fs X.ex X.H₀ H X.s₀.heap s.heap
 loc:∃ m,s.heap.Ns X.env.locals m∧∀ (i:Nat) (x:Str) (v:V),X.N[i]? = some x→σ[i]? = some (some v)→Vis X.env.scope x→∃ u,RelV v u∧Look X.env s.heap m x u
 cell:∀ x c,X.env.cells.lookup x=some c→∃ v,s.heap.IsCell c v
 free:H X.env.locals=none
 freeC:∀ x c,X.env.cells.lookup x=some c→H c=none
 pin:∀ p ∈ X.pn ++ pins,s.heap.get? p.1=some p.2∧H p.1=none∧p.1 ≠ X.env.locals∧p.1 ∉ X.fs∧∀ v,p.2.data ≠ .cell v
 hok:HOk X.prog X.w H s.heap
 len:σ.length=X.N.length
section
variable {X:Cx} {pins:List (Addr × Obj)} {σ:List (Option V)} {H H':Hp} {s:Shared} {h':Heap}
theorem Cx.Ok.nofr (ok:X.Ok) {b:Addr} {o:Obj} (e:X.base.get? b=some o):b ∉ X.fs:=fun hb=>by
 have:=(ok.funs.mem hb).1
 rw [e] at this; cases this
theorem Inv.bs (I:Inv X pins σ H s):∀ b o,X.base.get? b=some o→s.heap.get? b=some o∧H b=none:=fun b o e=>
 ⟨I.base.keep b o (I.ok.bs b o e).1 (I.ok.bs b o e).2 (I.ok.nofr e) (I.ok.noex b o e),I.base.free b o (I.ok.bs b o e).1 (I.ok.bs b o e).2 (I.ok.noex b o e)⟩
theorem Inv.bk (I:Inv X pins σ H s):∀ b o,X.base.get? b=some o→s.heap.get? b=some o:=fun b o e=>(I.bs b o e).1
theorem Inv.mod (I:Inv X pins σ H s):Mod X.K X.mg X.base:=I.ok.mod
theorem Inv.kIn (I:Inv X pins σ H s):X.K.In s.heap:=I.ok.mod.kin.keeps I.bk
theorem Inv.lt (I:Inv X pins σ H s):X.env.locals < s.heap.objs.size:=let ⟨_,hn,_⟩:=I.loc; hn.lt
theorem Inv.sz (I:Inv X pins σ H s):X.s₀.heap.objs.size ≤ s.heap.objs.size:=Nat.le_trans I.ok.above (Nat.le_of_lt I.lt)
theorem Inv.nofs (I:Inv X pins σ H s) {a:Addr} (h:s.heap.objs.size ≤ a):a ∉ X.fs:=fun hb=>by
 obtain ⟨_,o,ho,_⟩:=I.ok.funs.mem hb
 exact absurd (Nat.lt_of_lt_of_le (Heap.lt_size ho) (Nat.le_trans I.sz h)) (Nat.lt_irrefl _)
theorem Inv.cne (I:Inv X pins σ H s):∀ x c,X.env.cells.lookup x=some c→c ≠ X.env.locals:=fun x c e z=>by
 obtain ⟨v,o,ho,hd⟩:=I.cell x c e
 obtain ⟨m,⟨o',es,ep,ho',hd',_⟩,_⟩:=I.loc
 rw [z,ho'] at ho; cases ho; rw [hd'] at hd; cases hd
theorem Inv.funs (I:Inv X pins σ H s):s.heap.FunFrames X.base X.outer:=by
 have all:∀ (l:List Env),(∀ b ∈ frs l,b ∈ X.fs)→X.s₀.heap.FunFrames X.base l→s.heap.FunFrames X.base l:=by
  intro l
  induction l with
  | nil=>intro _ _; trivial
  | cons env r ih=>
   intro hs hl
   obtain ⟨hk,⟨L,o,hf,hn,ho,hd⟩,hr⟩:=hl
   have hL:L ∈ X.fs:=hs L (by unfold frs; rw [List.filterMap_cons,hf]; exact List.mem_cons_self)
   obtain ⟨sl,e⟩:=I.base.slot L o ho (I.ok.frf L hL) hL fun z=>I.ok.exfs L z hL
   exact ⟨hk,⟨L,_,hf,hn,e,hd⟩,ih (fun b hb=>hs b (by unfold frs; rw [List.filterMap_cons,hf]; exact List.mem_cons_of_mem _ hb)) hr⟩
 exact all X.outer (fun _ hb=>hb) I.ok.funs
theorem Inv.stack (I:Inv X pins σ H s):s.heap.FunFrames X.base X.stack:=by
 rcases I.ok.stk with e | ⟨e,hf⟩
 ·rw [e]; exact I.funs
 ·rw [e]
  obtain ⟨m,hn,_⟩:=I.loc
  refine .cons (by rw [I.ok.kind]; decide) hf hn ?_ I.funs
  exact Heap.get?_none_of_le (Nat.le_trans I.ok.bsz I.ok.above)
theorem Inv.stkSub (I:Inv X pins σ H s):∀ b ∈ frs X.stack,b ∈ X.env.locals :: X.fs:=fun b hb=>by
 rcases I.ok.stk with e | ⟨e,hf⟩
 ·rw [e] at hb; exact List.mem_cons_of_mem _ hb
 ·rw [e] at hb
  unfold frs at hb
  rw [List.filterMap_cons,hf] at hb
  exact hb
theorem Inv.stkFree (I:Inv X pins σ H s):∀ b ∈ frs X.stack,H b=none:=fun b hb=>by
 rcases List.mem_cons.mp (I.stkSub b hb) with e | hb
 ·rw [e]; exact I.free
 ·obtain ⟨_,o,ho,_⟩:=I.ok.funs.mem hb
  exact I.base.free b o ho (I.ok.frf b hb) fun z=>I.ok.exfs b z hb
theorem Inv.step {g':Array GenState} {t':Nat} {d':Drawn} {ch:List Addr} (I:Inv X pins σ H s)
  (hch:∀ b ∈ ch,(b ∈ X.ex ∨ X.s₀.heap.objs.size ≤ b)∧b ≠ X.env.locals∧(∀ x c,X.env.cells.lookup x=some c→c ≠ b)∧∀ p ∈ X.pn ++ pins,p.1 ≠ b)
  (keep:∀ b o,b ≠ X.env.locals→b ∉ X.fs→b ∉ ch→s.heap.get? b=some o→H b=none→h'.get? b=some o)
  (slot:∀ b o,b ≠ X.env.locals→b ∈ X.fs→b ∉ ch→s.heap.get? b=some o→H b=none→∃ sl,h'.get? b=some { o with slots:=sl }) (free:∀ b o,b ∉ ch→s.heap.get? b=some o→H b=none→H' b=none)
  (there:∀ b o,b ∉ ch→s.heap.get? b=some o→∃ o',h'.get? b=some o')
  (tups:∀ b xs,H b=some (.tup xs)→H' b=some (.tup xs)) (frzs:∀ b o u,H b=some (.frz o u)→H' b=some (.frz o u)) (tbls:∀ b ps,H b=some (.tbl ps)→∃ more,H' b=some (.tbl (ps ++ more)))
  (ns:∀ m,s.heap.Ns X.env.locals m→h'.Ns X.env.locals m) (hok:HOk X.prog X.w H' h') (hg:AllBare g') :
  Inv X pins σ H' { s with heap:=h',gens:=g',drawn:=d',toks:=t' }:=by
 have neL:∀ b o,X.s₀.heap.get? b=some o→b ≠ X.env.locals:=fun b o e=>Nat.ne_of_lt (Nat.lt_of_lt_of_le (Heap.lt_size e) I.ok.above)
 have neC:∀ b o,X.s₀.heap.get? b=some o→b ∉ X.ex→b ∉ ch:=fun b o e hx hb=>by
  rcases (hch b hb).1 with z | z
  ·exact hx z
  ·exact absurd (Nat.lt_of_lt_of_le (Heap.lt_size e) z) (Nat.lt_irrefl _)
 have cellK:∀ x c,X.env.cells.lookup x=some c→∀ v,s.heap.IsCell c v→h'.IsCell c v:=fun x c e v ⟨o,ho,hd⟩=>by
  have nch:c ∉ ch:=fun z=>(hch c z).2.2.1 x c e rfl
  by_cases hc:c ∈ X.fs
  ·obtain ⟨sl,q⟩:=slot c o (I.cne x c e) hc nch ho (I.freeC x c e)
   exact ⟨_,q,hd⟩
  ·exact ⟨o,keep c o (I.cne x c e) hc nch ho (I.freeC x c e),hd⟩
 refine ⟨I.ok,I.os,hg,⟨fun b o e n hb hx=>?_,fun b o e n hb hx=>?_,fun b o e n hx=>?_,fun b o e hx=>?_,fun b xs e=>tups b xs (I.base.tups b xs e),fun b o xs e=>frzs b o xs (I.base.frzs b o xs e),fun b ps e=>?_⟩,?_,fun x c e=>?_,?_,fun x c e=>?_,fun p hp=>?_,hok,I.len⟩
 ·exact keep b o (neL b o e) hb (neC b o e hx) (I.base.keep b o e n hb hx) (I.base.free b o e n hx)
 ·obtain ⟨sl,e1⟩:=I.base.slot b o e n hb hx
  obtain ⟨sl',e2⟩:=slot b _ (neL b o e) hb (neC b o e hx) e1 (I.base.free b o e n hx)
  exact ⟨sl',e2⟩
 ·obtain ⟨o',e1⟩:=I.base.there b o e hx
  exact free b o' (neC b o e hx) e1 (I.base.free b o e n hx)
 ·obtain ⟨o',e1⟩:=I.base.there b o e hx
  exact there b o' (neC b o e hx) e1
 ·obtain ⟨m1,e1⟩:=I.base.tbls b ps e
  obtain ⟨m2,e2⟩:=tbls b _ e1
  exact ⟨m1 ++ m2,by rw [e2,Array.append_assoc]⟩
 ·obtain ⟨m,hn,hl⟩:=I.loc
  refine ⟨m,ns m hn,fun i x v e1 e2 e3=>?_⟩
  obtain ⟨u,r,l⟩:=hl i x v e1 e2 e3
  refine ⟨u,r,?_⟩
  rcases l with l | ⟨k,c,e,z⟩
  ·exact .inl l
  ·exact .inr ⟨k,c,e,cellK x c e _ z⟩
 ·obtain ⟨v,z⟩:=I.cell x c e
  exact ⟨v,cellK x c e v z⟩
 ·obtain ⟨m,⟨o,_,_,ho,_⟩,_⟩:=I.loc
  exact free _ o (fun z=>(hch _ z).2.1 rfl) ho I.free
 ·obtain ⟨v,o,ho,hd⟩:=I.cell x c e
  exact free c o (fun z=>(hch c z).2.2.1 x c e rfl) ho (I.freeC x c e)
 ·obtain ⟨e,n,ne,nf,d⟩:=I.pin p hp
  have nch:p.1 ∉ ch:=fun z=>(hch p.1 z).2.2.2 p hp rfl
  exact ⟨keep p.1 p.2 ne nf nch e n,free p.1 p.2 nch e n,ne,nf,d⟩
theorem Inv.un {t':Nat} (I:Inv X pins σ H s) (u:Un X.fs [] H H' s.heap h') (hok:HOk X.prog X.w H' h'):Inv X pins σ H' { s with heap:=h',toks:=t' }:=by
 obtain ⟨m,⟨o,es,ep,ho,r⟩,_⟩:=id I.loc
 obtain ⟨sl,hL⟩:=u.any ho I.free (by simp)
 exact I.step (g':=s.gens) (d':=s.drawn) (ch:=[]) (fun _ z=>nomatch z) (fun b o _ hb _ e n=>u.keep b o e n hb (by simp)) (fun b o _ hb _ e n=>u.slot b o e n hb (by simp)) (fun b o _ e n=>u.free b o e n (by simp)) (fun b o _ e=>u.there b o e (by simp)) u.tups u.frzs u.tbls (fun m' hm=>by
  obtain ⟨o',es',ep',ho',r'⟩:=hm
  rw [ho] at ho'; cases ho'
  exact ⟨_,es',ep',hL,r'⟩) hok I.bare
theorem Inv.call {g':Array GenState} {t':Nat} {d':Drawn} {ch:List Addr} (I:Inv X pins σ H s) (u:Un (frs X.stack) ch H H' s.heap h') (hok:HOk X.prog X.w H' h') (hg:AllBare g')
  (hch:∀ b ∈ ch,(b ∈ X.ex ∨ X.s₀.heap.objs.size ≤ b)∧b ≠ X.env.locals∧(∀ x c,X.env.cells.lookup x=some c→c ≠ b)∧∀ p ∈ X.pn ++ pins,p.1 ≠ b) :
  Inv X pins σ H' { s with heap:=h',gens:=g',drawn:=d',toks:=t' }:=by
 obtain ⟨m,⟨o,es,ep,ho,r⟩,_⟩:=id I.loc
 obtain ⟨sl,hL⟩:=u.any ho I.free fun z=>(hch _ z).2.1 rfl
 exact I.step (ch:=ch) hch (fun b o hL hb hc e n=>u.keep b o e n (fun z=>(List.mem_cons.mp (I.stkSub b z)).elim hL hb) hc) (fun b o _ _ hc e n=>u.any e n hc) (fun b o hc e n=>u.free b o e n hc) (fun b o hc e=>u.there b o e hc) u.tups u.frzs u.tbls (fun m' hm=>by
  obtain ⟨o',es',ep',ho',r'⟩:=hm
  rw [ho] at ho'; cases ho'
  exact ⟨_,es',ep',hL,r'⟩) hok hg
theorem Inv.turned {t':Nat} {it:Addr} (I:Inv X pins σ H s) (k:∀ b o,b ≠ it→s.heap.get? b=some o→h'.get? b=some o) (hn:H it=none) (hL:it ≠ X.env.locals)
  (h1:it ∈ X.ex ∨ X.s₀.heap.objs.size ≤ it) (h2:∀ x c,X.env.cells.lookup x=some c→c ≠ it) (h3:∀ p ∈ X.pn ++ pins,p.1 ≠ it):Inv X pins σ H { s with heap:=h',toks:=t' }:=by
 have nit:∀ b u,H b=some u→b ≠ it:=fun b u e z=>by rw [z,hn] at e; cases e
 refine I.step (g':=s.gens) (d':=s.drawn) (ch:=[it]) (fun b hb=>?_) (fun b o _ _ hc e _=>k b o (fun z=>hc (by simp [z])) e) (fun b o _ _ hc e _=>⟨o.slots,k b o (fun z=>hc (by simp [z])) e⟩) (fun _ _ _ _ n=>n)
  (fun b o hc e=>⟨o,k b o (fun z=>hc (by simp [z])) e⟩) (fun _ _ e=>e) (fun _ _ _ e=>e) (fun b ps e=>⟨#[],by rw [e]; simp⟩) (fun m hm=>?_) (fun b u e=>?_) I.bare
 ·have e:b=it:=by simpa using hb
  subst e
  exact ⟨h1,hL,h2,h3⟩
 ·obtain ⟨o,es,ep,ho,r⟩:=hm
  exact ⟨o,es,ep,k _ o (Ne.symm hL) ho,r⟩
 ·refine (I.hok b u e).stay (fun c v hc q=>k c v ?_ q) (fun _ q=>q) fun _ _ q=>q
  rcases hc with z | z
  ·rw [z]; exact nit b u e
  ·exact nit c _ z
theorem Inv.tok (I:Inv X pins σ H s) (t:Nat):Inv X pins σ H { s with toks:=t }:=I.un (h':=s.heap) (t':=t) Un.refl I.hok
theorem Inv.kept {t':Nat} (I:Inv X pins σ H s) (k:∀ b u,s.heap.get? b=some u→h'.get? b=some u):Inv X pins σ H { s with heap:=h',toks:=t' }:=I.un (Un.kept k) (I.hok.kept k)
theorem Inv.laid {a:Addr} {o:HO} {t':Nat} (I:Inv X pins σ H s) (k:∀ b u,s.heap.get? b=some u→h'.get? b=some u) (hp:s.heap.objs.size ≤ a) (new:ObjOk X.prog X.w (upd H a o) h' a o) :
  Inv X pins σ (upd H a o) { s with heap:=h',toks:=t' }:=I.un (Un.laid k hp (I.hok.fresh hp)) (I.hok.laid k hp new)
theorem Inv.write {x e:Addr} {o:HO} {t':Nat} (I:Inv X pins σ H s) (mu:Mut (H x)) (he:e=x ∨ H e=some (.own x)) (k:∀ b u,b ≠ e→s.heap.get? b=some u→h'.get? b=some u) (heo:∃ u,h'.get? e=some u)
  (new:ObjOk X.prog X.w (upd H x o) h' x o):Inv X pins σ (upd H x o) { s with heap:=h',toks:=t' }:=I.un (Un.write mu he k heo) (I.hok.write mu he k heo new)
theorem Inv.weak {σ':List (Option V)} (I:Inv X pins σ H s) (hl:σ'.length=σ.length) (w:∀ (i:Nat) v,σ'[i]? = some (some v)→σ[i]? = some (some v)):Inv X pins σ' H s:=
 ⟨I.ok,I.os,I.bare,I.base,let ⟨m,hn,hl'⟩:=I.loc; ⟨m,hn,fun i x v e1 e2 e3=>hl' i x v e1 (w i v e2) e3⟩,I.cell,I.free,I.freeC,I.pin,I.hok,hl.trans I.len⟩
theorem Inv.pins_of {pins':List (Addr × Obj)} (I:Inv X pins σ H s) (h:∀ p ∈ pins',s.heap.get? p.1=some p.2∧H p.1=none∧p.1 ≠ X.env.locals∧p.1 ∉ X.fs∧∀ v,p.2.data ≠ .cell v):Inv X pins' σ H s:=
 ⟨I.ok,I.os,I.bare,I.base,I.loc,I.cell,I.free,I.freeC,fun p hp=>(List.mem_append.mp hp).elim (fun z=>I.pin p (List.mem_append_left _ z)) (h p),I.hok,I.len⟩
theorem Zj8 {N:List Str} (hN:N.Nodup) {i j:Nat} {x:Str} (a:N[i]? = some x) (b:N[j]? = some x):i=j:=by
 obtain ⟨h1,e1⟩:=List.getElem?_eq_some_iff.mp a
 obtain ⟨h2,e2⟩:=List.getElem?_eq_some_iff.mp b
 exact (List.getElem_inj hN).mp (e1.trans e2.symm)
theorem Zid {M:Model} {A:Around} {E:Value→Shared→Prop} {i:Nat} {x:Str} {v:V} {u:Value} {Q:Unit→Shared→Prop} (I:Inv X pins σ H s) (hN:X.N.Nodup) (hi:X.N[i]? = some x) (hx:Loc X.env.scope x) (r:RelV v u)
  (h:∀ s',Inv X pins (σ.set i (some v)) H s'→(∃ a,Heap.SameBut a s.heap s'.heap∧(a=X.env.locals ∨ X.env.cells.lookup x=some a))→Q () s') (hf:X.fn x=true ∨ X.env.scope.names.lookup x=some .local:=by first | exact .inl rfl | exact .inr rfl | assumption):wpAny M A (storeName X.env x u) Q E s:=by
 obtain ⟨m,hn,hl⟩:=id I.loc
 have hcls:(X.env.scope.kind == .class || (X.env.scope.kind == .module && X.env.locals != X.env.globals))=false:=by rw [I.ok.kind]; rfl
 have hiσ:i < σ.length:=by rw [I.len]; exact (List.getElem?_eq_some_iff.mp hi).1
 have cne:=I.cne
 have tracked:∀ {a:Addr} {h':Heap},(∃ o,s.heap.get? a=some o∧H a=none)→Heap.SameBut a s.heap h'→HOk X.prog X.w H h':=fun {a h'} ha hs b ob e=>by
  obtain ⟨_,_,hfree⟩:=ha
  refine (I.hok b ob e).stay (fun c w' hc q=>(hs.2 c ?_).trans q) (fun _ q=>q) fun _ _ q=>q
  rintro rfl
  rcases hc with rfl | hc
  ·rw [hfree] at e; cases e
  ·rw [hfree] at hc; cases hc
 rcases hx with hk | hk
 ·refine wpAny_storeName_local hk hn (fun h' hn' hs=>?_) hcls
  obtain ⟨oL,_,_,hoL,_⟩:=id hn
  refine h _ ⟨I.ok,I.os,I.bare,⟨fun b o e n hb hx=>?_,fun b o e n hb hx=>?_,I.base.free,fun b o e hx=>?_,I.base.tups,I.base.frzs,I.base.tbls⟩,⟨_,hn',fun j y v' e1 e2 e3=>?_⟩,fun y c e=>?_,I.free,I.freeC,fun p hp=>?_,tracked ⟨oL,hoL,I.free⟩ hs,by simpa using I.len⟩ ⟨_,hs,.inl rfl⟩
  ·exact (hs.2 b (Nat.ne_of_lt (Nat.lt_of_lt_of_le (Heap.lt_size e) I.ok.above))).trans (I.base.keep b o e n hb hx)
  ·obtain ⟨sl,e1⟩:=I.base.slot b o e n hb hx
   exact ⟨sl,(hs.2 b (Nat.ne_of_lt (Nat.lt_of_lt_of_le (Heap.lt_size e) I.ok.above))).trans e1⟩
  ·obtain ⟨o',e1⟩:=I.base.there b o e hx
   exact ⟨o',(hs.2 b (Nat.ne_of_lt (Nat.lt_of_lt_of_le (Heap.lt_size e) I.ok.above))).trans e1⟩
  ·by_cases hj:j=i
   ·subst hj
    rw [hi] at e1; cases e1
    rw [List.getElem?_set_self hiσ] at e2
    cases e2
    exact ⟨u,r,.inl ⟨hk,by simp⟩⟩
   ·rw [List.getElem?_set_ne (Ne.symm hj)] at e2
    obtain ⟨u',r',q⟩:=hl j y v' e1 e2 e3
    refine ⟨u',r',?_⟩
    rcases q with ⟨k,e⟩ | ⟨k,c,e,z⟩
    ·refine .inl ⟨k,?_⟩
     have:y ≠ x:=fun e=>hj (Zj8 hN e1 (e ▸ hi))
     simp [this,e]
    ·exact .inr ⟨k,c,e,z.sameBut hs (cne y c e)⟩
  ·obtain ⟨w',z⟩:=I.cell y c e
   exact ⟨w',z.sameBut hs (cne y c e)⟩
  ·obtain ⟨e,n,ne,nf,d⟩:=I.pin p hp
   exact ⟨(hs.2 p.1 ne).trans e,n,ne,nf,d⟩
 ·have hfn:X.fn x=true:=by
   rcases hf with z | z
   ·exact z
   ·rw [z] at hk; cases hk
  obtain ⟨c,hc⟩:=I.ok.has x (.inl hk)
  obtain ⟨w',z⟩:=I.cell x c hc
  refine wpAny_storeName_cell I.ok.kind hk hc z (fun h' hc' hs=>?_)
  obtain ⟨oc,hoc,hocd⟩:=id z
  refine h { s with heap:=h' } ⟨I.ok,I.os,I.bare,⟨fun b o e n hb hx=>?_,fun b o e n hb hx=>?_,I.base.free,fun b o e hx=>?_,I.base.tups,I.base.frzs,I.base.tbls⟩,⟨m,hn.sameBut hs (Ne.symm (cne x c hc)),fun j y v' e1 e2 e3=>?_⟩,fun y c' e=>?_,I.free,I.freeC,fun p hp=>?_,tracked ⟨oc,hoc,I.freeC x c hc⟩ hs,by simpa using I.len⟩ ⟨c,hs,.inr hc⟩
  ·exact (hs.2 b (Nat.ne_of_lt (Nat.lt_of_lt_of_le (Heap.lt_size e) (I.ok.cab x c hfn hc)))).trans (I.base.keep b o e n hb hx)
  ·obtain ⟨sl,e1⟩:=I.base.slot b o e n hb hx
   exact ⟨sl,(hs.2 b (Nat.ne_of_lt (Nat.lt_of_lt_of_le (Heap.lt_size e) (I.ok.cab x c hfn hc)))).trans e1⟩
  ·obtain ⟨o',e1⟩:=I.base.there b o e hx
   exact ⟨o',(hs.2 b (Nat.ne_of_lt (Nat.lt_of_lt_of_le (Heap.lt_size e) (I.ok.cab x c hfn hc)))).trans e1⟩
  ·by_cases hj:j=i
   ·subst hj
    rw [hi] at e1; cases e1
    rw [List.getElem?_set_self hiσ] at e2
    cases e2
    exact ⟨u,r,.inr ⟨.inl hk,c,hc,hc'⟩⟩
   ·rw [List.getElem?_set_ne (Ne.symm hj)] at e2
    obtain ⟨u',r',q⟩:=hl j y v' e1 e2 e3
    refine ⟨u',r',?_⟩
    rcases q with q | ⟨k,c',e,z'⟩
    ·exact .inl q
    ·refine .inr ⟨k,c',e,z'.sameBut hs ?_⟩
     rintro rfl
     exact hj (Zj8 hN e1 (I.ok.inj _ _ _ e hc ▸ hi))
  ·by_cases hcc:c'=c
   ·subst hcc; exact ⟨_,hc'⟩
   ·obtain ⟨w2,z2⟩:=I.cell y c' e
    exact ⟨w2,z2.sameBut hs hcc⟩
  ·obtain ⟨e,n,ne,nf,d⟩:=I.pin p hp
   refine ⟨(hs.2 p.1 ?_).trans e,n,ne,nf,d⟩
   intro q
   rw [q,hoc] at e
   have q':oc=p.2:=Option.some.inj e
   exact d w' (by rw [← q']; exact hocd)
theorem Zjs {M:Model} {A:Around} {E:Value→Shared→Prop} {i:Nat} {x:Str} {v:V} {u:Value} {Q:Unit→Shared→Prop} (I:Inv X pins σ H s) (hN:X.N.Nodup) (hi:X.N[i]? = some x) (hx:Loc X.env.scope x) (r:RelV v u)
  (h:∀ s',Inv X pins (σ.set i (some v)) H s'→Q () s') (hf:X.fn x=true ∨ X.env.scope.names.lookup x=some .local:=by first | exact .inl rfl | exact .inr rfl | assumption):wpAny M A (storeName X.env x u) Q E s:=
 Zid I hN hi hx r (fun s' I' _=>h s' I') hf
theorem Inv.call' {s':Shared} {ch:List Addr} (I:Inv X pins σ H s) (ho:s'.os=s.os) (u:Un (frs X.stack) ch H H' s.heap s'.heap) (hok:HOk X.prog X.w H' s'.heap) (hg:AllBare s'.gens)
  (hch:∀ b ∈ ch,(b ∈ X.ex ∨ X.s₀.heap.objs.size ≤ b)∧b ≠ X.env.locals∧(∀ x c,X.env.cells.lookup x=some c→c ≠ b)∧∀ p ∈ X.pn ++ pins,p.1 ≠ b):Inv X pins σ H' s':=by
 obtain ⟨h',g',d',t',o'⟩:=s'
 have e:o'=s.os:=ho
 subst e
 exact I.call (g':=g') (t':=t') (d':=d') u hok hg hch
end
noncomputable abbrev XK:=Value→Option Addr→Hp→Prop
noncomputable abbrev St:=List (Option V)
noncomputable abbrev VK:=V→Hp→Prop
noncomputable abbrev TE:=St→Hp→VK→Prop
noncomputable abbrev TT:=St→Hp→(Bool→Hp→Prop)→Prop
noncomputable abbrev TA:=St→Hp→(List V→Hp→Prop)→Prop
structure Ends where
 nx:St→Hp→Prop
 rt:VK
 bk:St→Hp→Prop:=fun _ _=>False
 ct:St→Hp→Prop:=fun _ _=>False
noncomputable abbrev TS:=Ends→St→Hp→Prop
noncomputable def EP (X:Cx) (pins:List (Addr × Obj)) (σ:St) (Q:VK) (u:Value) (s':Shared):Prop:=∃ v H',Inv X pins σ H' s'∧RelV v u∧Q v H'
noncomputable def TP (X:Cx) (pins:List (Addr × Obj)) (σ:St) (Q:Bool→Hp→Prop) (b:Bool) (s':Shared):Prop:=∃ H',Inv X pins σ H' s'∧Q b H'
noncomputable def AP (X:Cx) (pins:List (Addr × Obj)) (σ:St) (Q:List V→Hp→Prop) (us:List Value) (s':Shared):Prop:=∃ vs H',Inv X pins σ H' s'∧Vals vs us∧Q vs H'
noncomputable def SP (X:Cx) (pins:List (Addr × Obj)) (D:Ends) (f:Flow) (s':Shared):Prop:=
 match f with
 | .next=>∃ σ' H',Inv X pins σ' H' s'∧D.nx σ' H'
 | .brk=>∃ σ' H',Inv X pins σ' H' s'∧D.bk σ' H'
 | .cont=>∃ σ' H',Inv X pins σ' H' s'∧D.ct σ' H'
 | .ret u=>∃ v σ' H',Inv X pins σ' H' s'∧RelV v u∧D.rt v H'
noncomputable def PE (X:Cx) (e:Expr) (t:TE):Prop:=
 ∀ (pins:List (Addr × Obj)) (s:Shared) (σ:St) (H:Hp) (Q:VK),Inv X pins σ H s→t σ H Q→wpAny (model X.prog X.w) X.A (eval e X.env) (EP X pins σ Q) X.xe s
noncomputable def PT (X:Cx) (e:Expr) (t:TT):Prop:=
 ∀ (pins:List (Addr × Obj)) (s:Shared) (σ:St) (H:Hp) (Q:Bool→Hp→Prop),Inv X pins σ H s→t σ H Q→wpAny (model X.prog X.w) X.A (isTrue e X.env (eval e X.env)) (TP X pins σ Q) X.xe s
noncomputable def PW (X:Cx) (e:Expr) (t:TT):Prop:=
 ∀ (whole:Sem Value) (pins:List (Addr × Obj)) (s:Shared) (σ:St) (H:Hp) (Q:Bool→Hp→Prop),Inv X pins σ H s→t σ H Q→wpAny (model X.prog X.w) X.A (isTrue e X.env whole) (TP X pins σ Q) X.xe s
theorem PW.pt {X:Cx} {e:Expr} {t:TT} (h:PW X e t):PT X e t:=h _
noncomputable def PA (X:Cx) (es:List Expr) (t:TA):Prop:=
 ∀ (pos:Pos) (pins:List (Addr × Obj)) (s:Shared) (σ:St) (H:Hp) (Q:List V→Hp→Prop),Inv X pins σ H s→t σ H Q→wpAny (model X.prog X.w) X.A (spliced (backTo pos (starEach es X.env))) (AP X pins σ Q) X.xe s
noncomputable def PS (X:Cx) (st:Stmt) (t:TS):Prop:=
 ∀ (pins:List (Addr × Obj)) (s:Shared) (σ:St) (H:Hp) (D:Ends),Inv X pins σ H s→t D σ H→wpAny (model X.prog X.w) X.A (exec st X.env) (SP X pins D) X.xe s
noncomputable def PSs (X:Cx) (st:List Stmt) (t:TS):Prop:=
 ∀ (pins:List (Addr × Obj)) (s:Shared) (σ:St) (H:Hp) (D:Ends),Inv X pins σ H s→t D σ H→wpAny (model X.prog X.w) X.A (execs st X.env) (SP X pins D) X.xe s
theorem thn {α:Type} {t:Sem α} {Q Q':α→Shared→Prop} {M:Model} {A:Around} {E:Value→Shared→Prop} {s:Shared} (h:wpAny M A t Q E s) (hQ:∀ a s,Q a s→Q' a s):wpAny M A t Q' E s:=wpAny_mono h hQ fun _ _ x=>x
end L2
namespace L2
open PySem PySem.Spec PyProof.Rows
section
variable {X:Cx}
inductive tVar (i:Nat) (σ:St) (H:Hp) (Q:VK):Prop
 | mk (v:_) (c0:σ[i]? = some (some v)) (c1:Q v H):tVar i σ H Q
noncomputable def tC (v:V):TE:=fun _ H Q=>Q v H
theorem pe_var {i:Nat} {x:Str} {pos:Pos} (hN:X.N[i]? = some x) (hv:Vis X.env.scope x) (hd:(x == ("__debug__" : Str))=false:=by decide) (hcd:(x == ("__classdict__" : Str))=false:=by decide):PE X (.Name x pos) (tVar i):=by
 intro pins s σ H Q I h
 obtain ⟨v,e,h⟩:=h
 obtain ⟨m,hn,hl⟩:=I.loc
 obtain ⟨u,r,l⟩:=hl i x v hN e hv
 have fin:EP X pins σ Q u s:=⟨v,H,I,r,h⟩
 rcases l with ⟨hk,hm⟩ | ⟨hk,c,hc,hcell⟩
 ·exact wpAny_Name (wpAny_loadName_local I.ok.kind hk hn hm fin) hd
 ·rcases hk with hk | hk
  ·exact wpAny_Name (wpAny_loadName_cell I.ok.kind hk hc hcell fin) hd
  ·exact wpAny_Name (wpAny_loadName_free I.ok.kind hk hc hcell fin hcd) hd
theorem Zaf {i j pos}:PE X (.Constant (.int i) j pos) (tC (.int i)):=fun _ _ _ H _ I h=>wpAny_Constant_int ⟨.int i,H,I.tok _,⟨_,rfl⟩,h⟩
theorem Zd1 {b j pos}:PE X (.Constant (.bool b) j pos) (tC (.bl b)):=fun _ _ _ H _ I h=>Constant_bool ⟨.bl b,H,I,rfl,h⟩
theorem Zgf {j pos}:PE X (.Constant .none j pos) (tC .non):=fun _ _ _ H _ I h=>Constant_none ⟨.non,H,I,rfl,h⟩
theorem Za1 {x j pos}:PE X (.Constant (.str x) j pos) (tC (.str x)):=fun _ _ _ H _ I h=>Calls.Constant_str ⟨.str x,H,I.tok _,⟨_,rfl⟩,h⟩
noncomputable def Gl (X:Cx) (x:Str):Prop:=X.env.kindOf x=some .globalImplicit
theorem Zfv {E:Value→Shared→Prop} {pins:List (Addr × Obj)} {s:Shared} {σ:St} {H:Hp} {x:Str} {u:Value} {pos:Pos} {Q:Value→Shared→Prop} (I:Inv X pins σ H s) (hg:Gl X x) (hm:X.mg x=some u) (h:Q u s)
  (hd:(x == ("__debug__" : Str))=false:=by decide):wpAny (model X.prog X.w) X.A (eval (.Name x pos) X.env) Q E s:=
 Calls.Name_function_global I.ok.kind hg (Calls.loadGlobal_global (by rw [I.ok.glob]; exact I.mod.glob.keeps I.bk) hm h) hd
theorem Zgu {E:Value→Shared→Prop} {pins:List (Addr × Obj)} {s:Shared} {σ:St} {H:Hp} {x:Str} {u:Value} {pos:Pos} {Q:Value→Shared→Prop} (I:Inv X pins σ H s) (hg:Gl X x) (hm:X.mg x=none) (hv:bootBuiltins x=some u) (h:Q u s)
  (hn:x ≠ "__name__" := by decide) (hd:(x == ("__debug__" : Str))=false:=by decide):wpAny (model X.prog X.w) X.A (eval (.Name x pos) X.env) Q E s:=by
 obtain ⟨mb,h1,h2⟩:=I.mod.blt
 exact Calls.Name_function_global I.ok.kind hg (Calls.loadGlobal_builtin (by rw [I.ok.glob]; exact I.mod.glob.keeps I.bk) hm (by rw [I.ok.blt]; exact h1.keeps I.bk) ((h2 x hn).trans hv) h) hd
theorem Zdk {x:Str} {v:V} {u:Value} {pos:Pos} (hg:Gl X x) (hm:X.mg x=some u) (r:RelV v u) (hd:(x == ("__debug__" : Str))=false:=by decide):PE X (.Name x pos) (tC v):=
 fun _ _ _ H _ I h=>Zfv I hg hm ⟨v,H,I,r,h⟩ hd
theorem Zdl {x:Str} {v:V} {u:Value} {pos:Pos} (hg:Gl X x) (hm:X.mg x=none) (hv:bootBuiltins x=some u) (r:RelV v u) (hn:x ≠ "__name__" := by decide) (hd:(x == ("__debug__" : Str))=false:=by decide):PE X (.Name x pos) (tC v):=
 fun _ _ _ H _ I h=>Zgu I hg hm hv ⟨v,H,I,r,h⟩ hn hd
variable {a b:Expr} {ta tb:TE} {pos:Pos}
noncomputable def PC (X:Cx) (op:CmpOp) (a b:Expr) (t:TE):Prop:=
 ∀ (pins:List (Addr × Obj)) (s:Shared) (σ:St) (H:Hp) (Q:VK),Inv X pins σ H s→t σ H Q →
  wpAny (model X.prog X.w) X.A (eval a X.env) (fun v s₁=>wpAny (model X.prog X.w) X.A (eval b X.env) (fun u s₂=>wpAny (model X.prog X.w) X.A (compareOp op v u) (EP X pins σ Q) X.xe s₂) X.xe s₁) X.xe s
inductive isB0 (Q:Bool→Hp→Prop) (x:V) (H1:Hp):Prop
 | mk (c:_) (c0:x=.bl c) (c1:Q c H1):isB0 Q x H1
noncomputable def tB (t:TE):TT:=fun σ H Q=>t σ H fun x H1=>isB0 Q x H1
theorem Zk7 {op:CmpOp} {t:TE} (h:PC X op a b t) (h1:behindInMarks op b=false:=by first | exact nobehind _ (by decide) (by decide) | rfl):PT X (.Compare a [op] [b] pos) (tB t):=by
 intro pins s σ H Q I hw
 refine wpAny_isTrue_Compare1 (thn (h pins s σ H _ I hw) fun v s1 h1=>thn h1 fun u s2 h2=>thn h2 fun c s3 hp0=>?_) h1
 obtain ⟨x,H1,I1,r1,q1⟩:=hp0
 obtain ⟨d,rfl,q⟩:=q1
 cases r1
 exact wpAny_truthy_bool ⟨H1,I1,q⟩
theorem Zci {e:Expr} {t:TE} (h:PE X e t) (he:∀ whole,isTrue e X.env whole=(do let v ← whole; standAt e.pos; holding [v] (truthy v)):=by intro _; rfl):PT X e (tB t):=by
 intro pins s σ H Q I hw
 refine isTrue_plain (thn (h pins s σ H _ I hw) fun v s1 hp0=>?_) (he _)
 obtain ⟨x,H1,I1,r1,q1⟩:=hp0
 obtain ⟨d,rfl,q⟩:=q1
 cases r1
 exact wpAny_truthy_bool ⟨H1,I1,q⟩
variable {tA tB':TT} {rest:List Expr}
noncomputable def tAnd (t u:TT):TT:=fun σ H Q=>t σ H fun c H1=>if c=true then u σ H1 Q else Q false H1
noncomputable def tOr (t u:TT):TT:=fun σ H Q=>t σ H fun c H1=>if c=true then Q true H1 else u σ H1 Q
noncomputable def tNot (t:TT):TT:=fun σ H Q=>t σ H fun c H1=>Q (!c) H1
theorem Zk6 (ha:PT X a tA):PW X (.BoolOp .And [a] pos) tA:=by
 intro wh pins s σ H Q I h
 refine isTrue_and (thn (ha pins s σ H Q I h) fun c s1 e=>?_)
 cases c with
 | true=>exact isTrue_and_nil e
 | false=>exact e
theorem Zdu (ha:PT X a tA):PW X (.BoolOp .Or [a] pos) tA:=by
 intro wh pins s σ H Q I h
 refine isTrue_or (thn (ha pins s σ H Q I h) fun c s1 e=>?_)
 cases c with
 | false=>exact isTrue_or_nil e
 | true=>exact e
theorem Zmi (ha:PT X a tA) (hb:PW X (.BoolOp .And (b :: rest) pos) tB'):PW X (.BoolOp .And (a :: b :: rest) pos) (tAnd tA tB'):=by
 intro wh pins s σ H Q I h
 refine isTrue_and (thn (ha pins s σ H _ I h) fun c s1 hp0=>?_)
 obtain ⟨H1,I1,q1⟩:=hp0
 cases c with
 | true=>exact hb wh pins s1 σ H1 Q I1 q1
 | false=>exact ⟨H1,I1,q1⟩
theorem Ze3 (ha:PT X a tA) (hb:PW X (.BoolOp .Or (b :: rest) pos) tB'):PW X (.BoolOp .Or (a :: b :: rest) pos) (tOr tA tB'):=by
 intro wh pins s σ H Q I h
 refine isTrue_or (thn (ha pins s σ H _ I h) fun c s1 hp0=>?_)
 obtain ⟨H1,I1,q1⟩:=hp0
 cases c with
 | true=>exact ⟨H1,I1,q1⟩
 | false=>exact hb wh pins s1 σ H1 Q I1 q1
theorem Zb1 (ha:PT X a tA):PT X (.UnaryOp .Not a pos) (tNot tA):=by
 intro pins s σ H Q I h
 exact isTrue_not (ha pins s σ H (fun c H1=>Q (!c) H1) I h)
noncomputable def tAndV (ta tb:TE):TE:=fun σ H Q=>ta σ H fun x H1=>∃ c,x=.bl c∧if c=true then tb σ H1 Q else Q (.bl false) H1
noncomputable def tNotV (ta:TE):TE:=fun σ H Q=>ta σ H fun x H1=>∃ c,x=.bl c∧Q (.bl (!c)) H1
theorem pe_one {op} {t:TE} (h:PE X a t):PE X (.BoolOp op [a] pos) t:=fun pins s σ H Q I hw=>BoolOp_one (h pins s σ H Q I hw)
theorem pe_and (ha:PE X a ta) (hb:PE X (.BoolOp .And (b :: rest) pos) tb):PE X (.BoolOp .And (a :: b :: rest) pos) (tAndV ta tb):=by
 intro pins s σ H Q I h
 refine BoolOp_and (thn (ha pins s σ H _ I h) fun v s1 hp0=>?_)
 obtain ⟨x,H1,I1,r1,q1⟩:=hp0
 obtain ⟨c,rfl,q1⟩:=q1
 cases r1
 refine wpAny_truthy_bool ?_
 cases c with
 | true=>exact hb pins s1 σ H1 Q I1 q1
 | false=>exact ⟨.bl false,H1,I1,rfl,q1⟩
theorem pe_not (ha:PE X a ta):PE X (.UnaryOp .Not a pos) (tNotV ta):=by
 intro pins s σ H Q I h
 refine UnaryOp_ (thn (ha pins s σ H _ I h) fun v s1 hp0=>?_)
 obtain ⟨x,H1,I1,r1,q1⟩:=hp0
 obtain ⟨c,rfl,q1⟩:=q1
 cases r1
 exact not_of (wpAny_truthy_bool ⟨.bl (!c),H1,I1,rfl,q1⟩)
noncomputable def tIf (t:TT) (ta tb:TE):TE:=fun σ H Q=>t σ H fun c H1=>if c=true then ta σ H1 Q else tb σ H1 Q
theorem pe_ifExp {c:Expr} (hc:PT X c tA) (ha:PE X a ta) (hb:PE X b tb):PE X (.IfExp c a b pos) (tIf tA ta tb):=by
 intro pins s σ H Q I h
 refine wpAny_IfExp (thn (hc pins s σ H _ I h) fun d s1 hp0=>?_)
 obtain ⟨H1,I1,q1⟩:=hp0
 cases d with
 | true=>exact ha pins s1 σ H1 Q I1 q1
 | false=>exact hb pins s1 σ H1 Q I1 q1
end
end L2
namespace L2
open PySem PySem.Spec PyProof.Rows
noncomputable def SqL (K:PySem.W.Frag) (H:Hp) (a:Addr) (xs:List V):Prop:=
 Rd H a (.lst xs) ∨
  ∃ (o:Obj) (its:Array Value) (n:Nat),K.lookup a=some o∧o.cls=.type "list" ∧ o.dict=none∧o.data=.seq its n∧its.size ≤ sizeLine∧Vals xs its.toList
noncomputable def SqT (K:PySem.W.Frag) (H:Hp) (a:Addr) (xs:List V):Prop:=
 Rd H a (.tup xs) ∨
  ∃ (o:Obj) (its:Array Value) (n:Nat),K.lookup a=some o∧o.cls=.type "tuple" ∧ o.data=.seq its n∧its.size ≤ sizeLine∧Vals xs its.toList
def absV:Value→Option V
 | .none=>some .non
 | .bool b=>some (.bl b)
 | .int i _=>some (.int i)
 | .str x _=>some (.str x)
 | .bytes b _=>some (.byt b)
 | .float b _=>some (.flt b)
 | .ref a=>some (.ref a)
 | .type n=>some (.ty n)
 | _=>none
theorem RelV.abs {x:V} {u:Value} (r:RelV x u):absV u=some x:=by
 cases x with
 | non=>cases r; rfl
 | bl _=>cases r; rfl
 | int _=>obtain ⟨t,rfl⟩:=r; rfl
 | str _=>obtain ⟨t,rfl⟩:=r; rfl
 | byt _=>obtain ⟨t,rfl⟩:=r; rfl
 | flt _=>obtain ⟨t,rfl⟩:=r; rfl
 | ref _=>cases r; rfl
 | ty _=>cases r; rfl
theorem RelV.inj {x y:V} {u:Value} (r:RelV x u) (q:RelV y u):x=y:=Option.some.inj (r.abs.symm.trans q.abs)
theorem Vals.inj:∀ {xs ys:List V} {us:List Value},Vals xs us→Vals ys us→xs=ys
 | _,_,_,.nil,.nil=>rfl
 | _,_,_,.cons r t,.cons r' t'=>by rw [r.inj r',Vals.inj t t']
section
variable {X:Cx} {pins:List (Addr × Obj)} {σ:St} {H:Hp} {s:Shared} {a:Addr} {xs ys:List V}
theorem SqL.of {K:PySem.W.Frag} (h:H a=some (.lst xs)):SqL K H a xs:=.inl (.inl h)
theorem SqT.of {K:PySem.W.Frag} (h:H a=some (.tup xs)):SqT K H a xs:=.inl (.inl h)
theorem Inv.list (I:Inv X pins σ H s) (h:SqL X.K H a xs):∃ its:List Value,Vals xs its∧PlainL s.heap a its.toArray∧xs.length ≤ sizeLine:=by
 rcases h with h | ⟨o,its,n,hk,hc,hd,hs,hz,r⟩
 ·obtain ⟨z,its,n,r,e⟩:=h.ok I.hok
  exact ⟨its,r,⟨_,n,e,rfl,rfl,rfl⟩,z⟩
 ·refine ⟨its.toList,r,⟨o,n,I.kIn a o hk,hc,hd,by simpa using hs⟩,?_⟩
  have e:=r.length
  simp only [Array.length_toList] at e
  lia
theorem Inv.tuple (I:Inv X pins σ H s) (h:SqT X.K H a xs):∃ its:List Value,Vals xs its∧IsTup s.heap a its.toArray∧xs.length ≤ sizeLine:=by
 rcases h with h | ⟨o,its,n,hk,hc,hs,hz,r⟩
 ·obtain ⟨z,its,r,p⟩:=h.ok I.hok
  exact ⟨its,r,p,z⟩
 ·refine ⟨its.toList,r,⟨o,I.kIn a o hk,hc,n,by simpa using hs⟩,?_⟩
  have e:=r.length
  simp only [Array.length_toList] at e
  lia
theorem Inv.list_inj (I:Inv X pins σ H s) (h:SqL X.K H a xs) (h':SqL X.K H a ys):xs=ys:=by
 obtain ⟨its,r,⟨o,n,e,_,_,d⟩,_⟩:=I.list h
 obtain ⟨its',r',⟨o',n',e',_,_,d'⟩,_⟩:=I.list h'
 rw [e] at e'; cases e'
 rw [d] at d'
 injection d' with d1 _
 have:its=its':=by simpa using congrArg Array.toList d1
 subst this
 exact r.inj r'
theorem Inv.tuple_inj (I:Inv X pins σ H s) (h:SqT X.K H a xs) (h':SqT X.K H a ys):xs=ys:=by
 obtain ⟨its,r,⟨o,e,_,n,d⟩,_⟩:=I.tuple h
 obtain ⟨its',r',⟨o',e',_,n',d'⟩,_⟩:=I.tuple h'
 rw [e] at e'; cases e'
 rw [d] at d'
 injection d' with d1 _
 have:its=its':=by simpa using congrArg Array.toList d1
 subst this
 exact r.inj r'
end
noncomputable abbrev Cx.wish (X:Cx) (E:Value→Shared→Prop):Cx:={ X with xe:=E }
noncomputable abbrev Cx.nox (X:Cx):Cx:=X.wish fun _ _=>False
theorem Cx.Ok.wish {X:Cx} (ok:X.Ok) (E:Value→Shared→Prop):(X.wish E).Ok:=
 ⟨ok.mod,ok.kind,ok.glob,ok.blt,ok.above,ok.inj,ok.has,ok.cab,ok.hd,ok.frames,ok.stk,ok.exf,ok.bs,ok.bsz,ok.noex,ok.exfs,ok.funs,ok.frf⟩
theorem Cx.Ok.unwish {X:Cx} {E:Value→Shared→Prop} (ok:(X.wish E).Ok):X.Ok:=
 ⟨ok.mod,ok.kind,ok.glob,ok.blt,ok.above,ok.inj,ok.has,ok.cab,ok.hd,ok.frames,ok.stk,ok.exf,ok.bs,ok.bsz,ok.noex,ok.exfs,ok.funs,ok.frf⟩
section
variable {X:Cx} {pins:List (Addr × Obj)} {σ:St} {H:Hp} {s:Shared} {E:Value→Shared→Prop}
theorem Inv.wish (I:Inv X pins σ H s) (E:Value→Shared→Prop):Inv (X.wish E) pins σ H s:=⟨I.ok.wish E,I.os,I.bare,I.base,I.loc,I.cell,I.free,I.freeC,I.pin,I.hok,I.len⟩
theorem Inv.unwish (I:Inv (X.wish E) pins σ H s):Inv X pins σ H s:=⟨I.ok.unwish,I.os,I.bare,I.base,I.loc,I.cell,I.free,I.freeC,I.pin,I.hok,I.len⟩
theorem SP.unwish {D:Ends} {f:Flow} {s':Shared} (h:SP (X.wish E) pins D f s'):SP X pins D f s':=by
 cases f with
 | next=>obtain ⟨σ',H',I,q⟩:=h; exact ⟨σ',H',I.unwish,q⟩
 | brk=>obtain ⟨σ',H',I,q⟩:=h; exact ⟨σ',H',I.unwish,q⟩
 | cont=>obtain ⟨σ',H',I,q⟩:=h; exact ⟨σ',H',I.unwish,q⟩
 | ret u=>obtain ⟨v,σ',H',I,r,q⟩:=h; exact ⟨v,σ',H',I.unwish,r,q⟩
theorem PSs.nox {st:List Stmt} {t:TS} (h:PSs X.nox st t):PSs X st t:=fun pins s σ H D I hw=>
 wpAny_mono (h pins s σ H D (I.wish _) hw) (fun _ _ q=>q.unwish) fun _ _ z=>False.elim z
end
section
variable {X:Cx} {st:Stmt} {rest:List Stmt} {t u:TS} {e:Expr} {te:TE} {pos:Pos}
noncomputable def tNext:TS:=fun D σ H=>D.nx σ H
noncomputable def tSeq (t u:TS):TS:=fun D σ H=>t { D with nx:=u D } σ H
theorem Zau:PSs X [] tNext:=fun _ _ σ H _ I h=>wpAny_execs_nil ⟨σ,H,I,h⟩
theorem Zae (h1:PS X st t) (h2:PSs X rest u):PSs X (st :: rest) (tSeq t u):=by
 intro pins s σ H D I h
 refine wpAny_execs_cons (thn (h1 pins s σ H { D with nx:=u D } I h) fun f s1 q=>?_)
 cases f with
 | next=>
  obtain ⟨σ',H',I',q⟩:=q
  exact h2 pins s1 σ' H' D I' q
 | ret v=>exact q
 | brk=>exact q
 | cont=>exact q
theorem Zag (h1:PS X st t):PSs X [st] t:=by
 intro pins s σ H D I h
 refine wpAny_execs_cons (thn (h1 pins s σ H D I h) fun f s1 q=>?_)
 cases f with
 | next=>exact wpAny_execs_nil q
 | ret v=>exact q
 | brk=>exact q
 | cont=>exact q
theorem Inv.quiet {pins:List (Addr × Obj)} {σ:St} {H:Hp} {s:Shared} (I:Inv X pins σ H s):interactive X.env=false:=by simp [interactive,I.ok.kind]
noncomputable def tDrop (te:TE):TS:=fun D σ H=>te σ H fun _ H1=>D.nx σ H1
theorem Zbg (he:PE X e te) (hs:swapsWith e none pos.line X.env=pure false:=by rfl):PS X (.Expr e pos) (tDrop te):=by
 intro pins s σ H D I h
 exact wpAny_Expr_any (thn (he pins s σ H _ I h) fun v s1 hp0=>by obtain ⟨x,H1,I1,r1,q1⟩:=hp0; exact ⟨σ,H1,I1,q1⟩) I.quiet hs
noncomputable def tRet (te:TE):TS:=fun D σ H=>te σ H D.rt
theorem Zan (he:PE X e te):PS X (.Return (some e) pos) (tRet te):=by
 intro pins s σ H D I h
 exact wpAny_Return_some (thn (he pins s σ H _ I h) fun v s1 hp0=>by obtain ⟨x,H1,I1,r1,q1⟩:=hp0; exact ⟨x,σ,H1,I1,r1,q1⟩)
noncomputable def tIfS (c:TT) (t u:TS):TS:=fun D σ H=>c σ H fun b H1=>if b=true then t D σ H1 else u D σ H1
theorem Zbc {c:Expr} {a b:List Stmt} {tc:TT} (hc:PT X c tc) (ha:PSs X a t) (hb:PSs X b u):PS X (.If c a b pos) (tIfS tc t u):=by
 intro pins s σ H D I h
 refine wpAny_If (thn (hc pins s σ H _ I h) fun d s1 hp0=>?_)
 obtain ⟨H1,I1,q1⟩:=hp0
 cases d with
 | true=>exact ha pins s1 σ H1 D I1 q1
 | false=>exact hb pins s1 σ H1 D I1 q1
noncomputable def tNever:TS:=fun _ _ _=>False
theorem Zb2 {sts:List Stmt}:PSs X sts tNever:=fun _ _ _ _ _ _ h=>h.elim
end
noncomputable abbrev TG:=V→St→Hp→(St→Hp→Prop)→Prop
noncomputable abbrev TGs:=List V→St→Hp→(St→Hp→Prop)→Prop
noncomputable def PG (X:Cx) (target:Expr) (t:TG):Prop:=
 ∀ (pins:List (Addr × Obj)) (s:Shared) (σ:St) (H:Hp) (v:V) (u:Value) (Q:St→Hp→Prop),Inv X pins σ H s→RelV v u→t v σ H Q →
  wpAny (model X.prog X.w) X.A (assign target X.env u) (fun _ s'=>∃ σ' H',Inv X pins σ' H' s'∧Q σ' H') X.xe s
noncomputable def PGs (X:Cx) (ts:List Expr) (t:TGs):Prop:=
 ∀ (pins:List (Addr × Obj)) (s:Shared) (σ:St) (H:Hp) (vs:List V) (us:List Value) (Q:St→Hp→Prop),Inv X pins σ H s→Vals vs us→t vs σ H Q →
  wpAny (model X.prog X.w) X.A (assignInOrder ((assignEach ts X.env).map (·.2)) us) (fun _ s'=>∃ σ' H',Inv X pins σ' H' s'∧Q σ' H') X.xe s
section
variable {X:Cx} {pos:Pos}
noncomputable def Zh3 (i:Nat):TG:=fun v σ H Q=>Q (σ.set i (some v)) H
theorem Zaq {i:Nat} {x:Str} (hN:X.N.Nodup) (hi:X.N[i]? = some x) (hx:Loc X.env.scope x) (hf:X.fn x=true ∨ X.env.scope.names.lookup x=some .local:=by first | exact .inl rfl | exact .inr rfl | assumption):PG X (.Name x pos) (Zh3 i):=by
 intro pins s σ H v u Q I r h
 exact wpAny_assign_Name (Zjs I hN hi hx r (fun s' I'=>⟨_,H,I',h⟩) hf)
noncomputable def gNil:TGs:=fun vs σ H Q=>vs=[]∧Q σ H
inductive gCons (t:TG) (u:TGs) (vs:List V) (σ:St) (H:Hp) (Q:St→Hp→Prop):Prop
 | mk (v:_) (r:_) (c0:vs=v :: r) (c1:t v σ H fun σ' H'=>u r σ' H' Q):gCons t u vs σ H Q
theorem Zdj:PGs X [] gNil:=by
 intro pins s σ H vs us Q I r h
 obtain ⟨e,h⟩:=h
 subst e
 cases r
 exact assignInOrder_nil ⟨σ,H,I,h⟩
theorem Za8 {e:Expr} {es:List Expr} {t:TG} {u:TGs} (h1:PG X e t) (h2:PGs X es u)
  (hs:(assignEach (e :: es) X.env).map (·.2)=assign e X.env :: (assignEach es X.env).map (·.2):=by rfl):PGs X (e :: es) (gCons t u):=by
 intro pins s σ H vs us Q I r h
 obtain ⟨v,vr,e1,h⟩:=h
 subst e1
 cases r with
 | cons r rr=>
  rw [hs]
  refine assignInOrder_cons (thn (h1 pins s σ H _ _ _ I r h) fun _ s1 hp0=>?_)
  obtain ⟨σ1,H1,I1,q1⟩:=hp0
  exact h2 pins s1 σ1 H1 _ _ Q I1 rr q1
inductive gTup (K:PySem.W.Frag) (n:Nat) (t:TGs) (v:V) (σ:St) (H:Hp) (Q:St→Hp→Prop):Prop
 | mk (a:_) (xs:_) (c0:v=.ref a) (c1:SqT K H a xs) (c2:xs.length=n) (c3:t xs σ H Q):gTup K n t v σ H Q
theorem Ze9 {es:List Expr} {k:Nat} {t:TGs} {n:Nat} (hc:X.calm=true) (h:PGs X es t)
  (hn:(assignEach es X.env).length=n:=by rfl) (hst:(assignEach es X.env).findIdx? (·.1)=none:=by rfl):PG X (.Tuple es k pos) (gTup X.K n t):=by
 intro pins s σ H v u Q I r hw
 obtain ⟨a,xs,e1,hq,hl,hw⟩:=hw
 subst e1
 cases r
 obtain ⟨its,rv,ht,hz⟩:=I.tuple hq
 refine assign_Tuple_tuple (I.ok.hd hc) ht (by simp [hn,← hl,rv.length]) hst fun h' hx=>?_
 have I1:Inv X pins σ H { s with heap:=h' }:=I.kept (t':=s.toks) fun b o e=>hx b o (Nat.ne_of_lt (Heap.lt_size e)) e
 exact h pins _ σ H xs _ Q I1 (by simpa using rv) hw
noncomputable def tAsg (te:TE) (g:TG):TS:=fun D σ H=>te σ H fun x H1=>g x σ H1 D.nx
theorem Zax {i:Nat} {x:Str} {e:Expr} {te:TE} {pos':Pos} (hN:X.N.Nodup) (hi:X.N[i]? = some x) (hx:Loc X.env.scope x) (he:PE X e te) (hs:swapsWith e (some (.Name x pos')) pos.line X.env=pure false:=by rfl) (hf:X.fn x=true ∨ X.env.scope.names.lookup x=some .local:=by first | exact .inl rfl | exact .inr rfl | assumption) :
  PS X (.Assign [.Name x pos'] e pos) (tAsg te (Zh3 i)):=by
 intro pins s σ H D I h
 refine wpAny_Assign_Name (thn (he pins s σ H _ I h) fun v s1 hp0=>?_) hs
 obtain ⟨y,H1,I1,r1,q1⟩:=hp0
 exact Zjs I1 hN hi hx r1 (fun s2 I2=>⟨_,H1,I2,q1⟩) hf
end
section
variable {X:Cx} {pos:Pos}
noncomputable def tWhile (c:TT) (tb:TS):TS:=fun D σ H=>∃ W:Nat→St→Hp→Prop,(∃ m,W m σ H)∧∀ m σ H,W m σ H →
 c σ H fun b H1=>if b=true then ∃ N:St→Hp→Prop,(∀ σ' H',N σ' H'→∃ m',m' < m∧W m' σ' H')∧tb { D with nx:=N,ct:=N,bk:=D.nx } σ H1 else D.nx σ H1
theorem ps_while {c:Expr} {body:List Stmt} {tc:TT} {tb:TS} (hp:PassesOwn (model X.prog X.w) X.A X.env X.xe) (hc:PT X c tc) (hb:PSs X body tb):PS X (.While c body [] pos) (tWhile tc tb):=by
 intro pins s σ H D I h
 obtain ⟨W,⟨m0,w0⟩,turn⟩:=h
 refine wpAny_While (codeAny_whileLoop (fun n s'=>∃ σ' H',Inv X pins σ' H' s'∧W n σ' H') ?_ m0 ⟨σ,H,I,w0⟩)
 rintro n s1 ⟨σ1,H1,I1,w1⟩
 refine wpAny_passesOwn hp (thn (hc pins s1 σ1 H1 _ I1 (turn n σ1 H1 w1)) fun b s2 hp0=>?_)
 obtain ⟨H2,I2,q2⟩:=hp0
 cases b with
 | true=>
  obtain ⟨N,hN,q2⟩:=q2
  rw [if_pos rfl]
  refine wpAny_passesOwn hp (thn (hb pins s2 σ1 H2 _ I2 q2) fun f s3 q3=>?_)
  cases f with
  | next=>
   obtain ⟨σ3,H3,I3,n3⟩:=q3
   obtain ⟨m',hm,w3⟩:=hN σ3 H3 n3
   exact ⟨m',hm,σ3,H3,I3,w3⟩
  | cont=>
   obtain ⟨σ3,H3,I3,n3⟩:=q3
   obtain ⟨m',hm,w3⟩:=hN σ3 H3 n3
   exact ⟨m',hm,σ3,H3,I3,w3⟩
  | brk=>exact q3
  | ret v=>exact q3
 | false=>
  rw [if_neg Bool.false_ne_true]
  exact wpAny_execs_nil ⟨σ1,H2,I2,q2⟩
end
structure It where
 go:Nat→Hp→Prop
 yld:Nat→Hp→V→Hp→Prop
 stop:Nat→Hp→Prop
noncomputable def FpOk (X:Cx) (pins:List (Addr × Obj)) (H:Hp) (b:Addr):Prop:=
 H b=none∧b ≠ X.env.locals∧b ∉ X.fs∧(b ∈ X.ex ∨ X.s₀.heap.objs.size ≤ b)∧(∀ x c,X.env.cells.lookup x=some c→c ≠ b)∧∀ p ∈ X.pn ++ pins,p.1 ≠ b
theorem Inv.fpOk {X:Cx} {pins:List (Addr × Obj)} {σ:St} {H H':Hp} {s:Shared} {b:Addr} (I:Inv X pins σ H s) (hb:s.heap.objs.size ≤ b) (hn:H' b=none):FpOk X pins H' b:=by
 refine ⟨hn,Nat.ne_of_gt (Nat.lt_of_lt_of_le I.lt hb),I.nofs hb,.inr (Nat.le_trans I.sz hb),fun x c e z=>?_,fun p hp z=>?_⟩
 ·obtain ⟨v,q⟩:=I.cell x c e
  exact absurd (Nat.lt_of_lt_of_le q.lt (by rw [z]; exact hb)) (Nat.lt_irrefl _)
 ·exact absurd (Nat.lt_of_lt_of_le (Heap.lt_size (I.pin p hp).1) (by rw [z]; exact hb)) (Nat.lt_irrefl _)
structure Turn (P:Program) (w:World) (K:PySem.W.Frag) (tg:Expr) (J:It) (fp:List Addr) (it:Addr) (tn:Nat→Heap→Prop):Prop where
 mem:it ∈ fp
 obj:∀ i h,tn i h→∀ b ∈ fp,∃ o,h.get? b=some o∧∀ v,o.data ≠ .cell v
 keep:∀ i h h',tn i h→(∀ b ∈ fp,∀ o,h.get? b=some o→h'.get? b=some o)→tn i h'
 item:∀ (X:Cx),X.prog=P→X.w=w→X.K=K→X.calm=true→∀ (i:Nat) (pins:List (Addr × Obj)) (s:Shared) (σ:St) (H:Hp) (E:Value→Shared→Prop),Inv X pins σ H s→(∀ b ∈ fp,FpOk X pins H b)→tn i s.heap→J.go i H →
  wpAny (model P w) X.A (pyNext (.ref it)) (fun r s1=>∃ u,r=some u ∧
   wpAny (model P w) X.A (letOwnedTupleGo tg (.ref it) u) (fun _ s2=>∃ x H',Inv X pins σ H' s2∧RelV x u∧J.yld i H x H'∧tn (i + 1) s2.heap∧∀ b ∈ fp,H' b=none) E s1) E s
 done:∀ (X:Cx),X.prog=P→X.w=w→X.K=K→X.calm=true→∀ (i:Nat) (pins:List (Addr × Obj)) (s:Shared) (σ:St) (H:Hp) (E:Value→Shared→Prop),Inv X pins σ H s→(∀ b ∈ fp,FpOk X pins H b)→tn i s.heap→J.stop i H →
  wpAny (model P w) X.A (pyNext (.ref it)) (fun r s1=>r=none∧Inv X pins σ H s1) E s
 self:∀ (A:Around) (i:Nat) (s:Shared) (Q:Value→Shared→Prop) (E:Value→Shared→Prop),tn i s.heap→Q (.ref it) s→wpAny (model P w) A (pyIter (.ref it)) Q E s
noncomputable abbrev TI:=St→Hp→(It→Hp→Prop)→Prop
noncomputable def PIE (X:Cx) (pins:List (Addr × Obj)) (σ:St) (tg:Expr) (R:It→Hp→Prop) (itv:Value) (s2:Shared):Prop:=
 ∃ (it:Addr) (fp:List Addr) (tn:Nat→Heap→Prop) (J:It) (H':Hp),itv=.ref it∧Inv X pins σ H' s2∧Turn X.prog X.w X.K tg J fp it tn∧tn 0 s2.heap∧(∀ b ∈ fp,FpOk X pins H' b)∧R J H'
noncomputable def PI (X:Cx) (tg iter:Expr) (wi:TI):Prop:=
 ∀ (pins:List (Addr × Obj)) (s:Shared) (σ:St) (H:Hp) (R:It→Hp→Prop),Inv X pins σ H s→wi σ H R →
  wpAny (model X.prog X.w) X.A (eval iter X.env) (fun v s1=>wpAny (model X.prog X.w) X.A (pyIter v) (PIE X pins σ tg R) X.xe s1) X.xe s
theorem Zkq {M:Model} {A:Around} {E:Value→Shared→Prop} {s:Shared} {tg:Expr} {it:Addr} {u:Value} {o:Obj} {n:String} {vs:Array Value} {Q:Unit→Shared→Prop} (ho:s.heap.get? it=some o) (hc:o.cls=.type n) (hd:o.data=.fields vs)
  (hn:["enumerate", "zip", "dict_itemiterator", "dict_reverseitemiterator", "odict_iterator", "itertools.zip_longest", "itertools.pairwise"].contains n=false) (hQ:Q () s):wpAny M A (letOwnedTupleGo tg (.ref it) u) Q E s:=by
 unfold letOwnedTupleGo
 cases tg <;> first
  | exact wpAny_pure hQ
  | (cases u <;> first
    | exact wpAny_pure hQ
    | (refine wpAny_bind (wpAny_load ho ?_)
       rw [hc,hd]
       show wpAny M A (if (["enumerate", "zip", "dict_itemiterator", "dict_reverseitemiterator", "odict_iterator", "itertools.zip_longest", "itertools.pairwise"].contains n && vs[0]? == some (rawInt _))=true then _ else _) Q E s
       rw [if_neg (by intro h; rw [hn,Bool.false_and] at h; cases h)]
       exact wpAny_pure hQ))
noncomputable def Itl (K:PySem.W.Frag) (a:Addr):It:=
 ⟨fun i H=>∃ xs x,SqL K H a xs∧xs[i]? = some x,fun i H x H'=>H'=H∧∀ xs,SqL K H a xs→xs[i]? = some x,fun i H=>∃ xs,SqL K H a xs∧xs.length ≤ i⟩
noncomputable def Itt (K:PySem.W.Frag) (a:Addr):It:=
 ⟨fun i H=>∃ xs x,SqT K H a xs∧xs[i]? = some x,fun i H x H'=>H'=H∧∀ xs,SqT K H a xs→xs[i]? = some x,fun i H=>∃ xs,SqT K H a xs∧xs.length ≤ i⟩
noncomputable def Itr (lo:Int) (n:Nat):It:=⟨fun i _=>i < n,fun i H x H'=>H'=H∧x=.int (lo + i),fun i _=>n ≤ i⟩
theorem turn_list {P:Program} {w:World} {K:PySem.W.Frag} {tg:Expr} (a it:Addr):Turn P w K tg (Itl K a) [it] it (fun i h=>h.IsListIter it a i) where
 mem:=by simp
 obj:=fun i h st b hb=>by
  have e:b=it:=by simpa using hb
  subst e
  obtain ⟨o,e,c,d⟩:=st
  exact ⟨o,e,fun v z=>by rw [d] at z; cases z⟩
 keep:=fun i h h' st k=>st.at fun o e=>k it (by simp) o e
 item:=by
  intro X hP hw hK hc i pins s σ H E I hf st hg
  subst hP hw hK
  obtain ⟨xs,x,hq,hx⟩:=hg
  obtain ⟨its,rv,p,hz⟩:=I.list hq
  obtain ⟨u,hu,ru⟩:=rv.get hx
  obtain ⟨f0,f1,f2,f3,f4,f5⟩:=hf it (by simp)
  refine wpAny_pyNext_list_item st p.isList (x:=u) (by simpa using hu) fun h' st' sb=>?_
  have I1:Inv X pins σ H { s with heap:=h' }:=I.turned (t':=s.toks) (fun b o hb e=>(sb.2 b hb).trans e) f0 f1 f3 f4 f5
  obtain ⟨o,e,c,d⟩:=id st'
  exact ⟨u,rfl,Zkq (s:={ s with heap:=h' }) e c d (by decide) ⟨x,H,I1,ru,⟨rfl,fun ys hy=>by rw [I.list_inj hy hq]; exact hx⟩,st',fun b hb=>(hf b hb).1⟩⟩
 done:=by
  intro X hP hw hK hc i pins s σ H E I hf st hg
  subst hP hw hK
  obtain ⟨xs,hq,hx⟩:=hg
  obtain ⟨its,rv,p,hz⟩:=I.list hq
  obtain ⟨f0,f1,f2,f3,f4,f5⟩:=hf it (by simp)
  have hl:=rv.length
  exact wpAny_pyNext_list_end (I.ok.hd hc) st p.isList (by simp; lia) fun h' eb=>⟨rfl,I.turned (t':=s.toks) (fun b o hb e=>eb b o hb e) f0 f1 f3 f4 f5⟩
 self:=fun _ _ _ _ _ st h=>wpAny_pyIter_listiter st h
theorem turn_tuple {P:Program} {w:World} {K:PySem.W.Frag} {tg:Expr} (a it:Addr):Turn P w K tg (Itt K a) [it] it (fun i h=>h.IsTupleIter it a i) where
 mem:=by simp
 obj:=fun i h st b hb=>by
  have e:b=it:=by simpa using hb
  subst e
  obtain ⟨o,e,c,d⟩:=st
  exact ⟨o,e,fun v z=>by rw [d] at z; cases z⟩
 keep:=fun i h h' st k=>st.at fun o e=>k it (by simp) o e
 item:=by
  intro X hP hw hK hc i pins s σ H E I hf st hg
  subst hP hw hK
  obtain ⟨xs,x,hq,hx⟩:=hg
  obtain ⟨its,rv,p,hz⟩:=I.tuple hq
  obtain ⟨u,hu,ru⟩:=rv.get hx
  obtain ⟨f0,f1,f2,f3,f4,f5⟩:=hf it (by simp)
  refine wpAny_pyNext_tuple_item st (show s.heap.IsTuple a its.toArray from p) (x:=u) (by simpa using hu) fun h' st' sb=>?_
  have I1:Inv X pins σ H { s with heap:=h' }:=I.turned (t':=s.toks) (fun b o hb e=>(sb.2 b hb).trans e) f0 f1 f3 f4 f5
  obtain ⟨o,e,c,d⟩:=id st'
  exact ⟨u,rfl,Zkq (s:={ s with heap:=h' }) e c d (by decide) ⟨x,H,I1,ru,⟨rfl,fun ys hy=>by rw [I.tuple_inj hy hq]; exact hx⟩,st',fun b hb=>(hf b hb).1⟩⟩
 done:=by
  intro X hP hw hK hc i pins s σ H E I hf st hg
  subst hP hw hK
  obtain ⟨xs,hq,hx⟩:=hg
  obtain ⟨its,rv,p,hz⟩:=I.tuple hq
  obtain ⟨f0,f1,f2,f3,f4,f5⟩:=hf it (by simp)
  have hl:=rv.length
  exact wpAny_pyNext_tuple_end (I.ok.hd hc) st (show s.heap.IsTuple a its.toArray from p) (by simp; lia) fun h' eb=>⟨rfl,I.turned (t':=s.toks) (fun b o hb e=>eb b o hb e) f0 f1 f3 f4 f5⟩
 self:=fun _ _ _ _ _ st h=>wpAny_pyIter_tupleiter st h
theorem turn_range {P:Program} {w:World} {K:PySem.W.Frag} {tg:Expr} (it:Addr) (lo:Int) (n:Nat):Turn P w K tg (Itr lo n) [it] it (fun i h=>IsRangeIter h it (lo + (i:Nat) * 1) ((n:Int) - (i:Nat)) 1) where
 mem:=by simp
 obj:=fun i h st b hb=>by
  have e:b=it:=by simpa using hb
  subst e
  exact ⟨_,st,fun v z=>by
   have z':Data.fields _=Data.cell v:=z
   cases z'⟩
 keep:=fun i h h' st k=>k it (by simp) _ st
 item:=by
  intro X hP hw hK hc i pins s σ H E I hf st hg
  subst hP hw hK
  obtain ⟨f0,f1,f2,f3,f4,f5⟩:=hf it (by simp)
  have W:=Walks.range (prog:=X.prog) (w:=X.w) (I.ok.hd hc) it lo 1 n
  refine W.item i s _ _ hg st fun v h' tk hv st' kk=>?_
  obtain ⟨t,rfl⟩:=hv
  have I1:Inv X pins σ H { s with heap:=h',toks:=tk }:=I.turned (fun b o hb e=>kk b o (by simpa using hb) e) f0 f1 f3 f4 f5
  refine ⟨_,rfl,Zkq (s:={ s with heap:=h',toks:=tk }) (n := "range_iterator") st' rfl rfl (by decide) ⟨.int (lo + i),H,I1,⟨t,?_⟩,⟨rfl,rfl⟩,st',fun b hb=>(hf b hb).1⟩⟩
  rw [Int.mul_one]
 done:=by
  intro X hP hw hK hc i pins s σ H E I hf st hg
  subst hP hw hK
  obtain ⟨f0,f1,f2,f3,f4,f5⟩:=hf it (by simp)
  exact wpAny_pyNext_range_end (I.ok.hd hc) st (by have:n ≤ i:=hg; lia) fun h' eb=>⟨rfl,I.turned (t':=s.toks) (fun b o hb e=>eb b o hb e) f0 f1 f3 f4 f5⟩
 self:=fun _ _ _ _ _ st h=>wpAny_pyIter_rangeiter st h
end L2
namespace L2
open PySem PySem.Spec PyProof.Rows
section
variable {X:Cx} {tg:Expr}
noncomputable def iList (K:PySem.W.Frag) (tl:TE):TI:=fun σ H R=>tl σ H fun x H1=>∃ a,x=.ref a∧(∃ xs,SqL K H1 a xs)∧R (Itl K a) H1
noncomputable def iTup (K:PySem.W.Frag) (tl:TE):TI:=fun σ H R=>tl σ H fun x H1=>∃ a,x=.ref a∧(∃ xs,SqT K H1 a xs)∧R (Itt K a) H1
theorem Zbd {l:Expr} {tl:TE} (hl:PE X l tl):PI X tg l (iList X.K tl):=by
 intro pins s σ H R I h
 refine thn (hl pins s σ H _ I h) fun v s1 hp0=>?_
 obtain ⟨x,H1,I1,r1,q1⟩:=hp0
 obtain ⟨a,e,⟨xs,hq⟩,q⟩:=q1
 subst e
 cases r1
 obtain ⟨its,rv,p,hz⟩:=I1.list hq
 refine wpAny_pyIter_list p.isList ?_
 refine ⟨s1.heap.objs.size,[s1.heap.objs.size],_,_,H1,rfl,I1.kept (t':=s1.toks) fun b o e=>Heap.get?_push_of_some _ e,turn_list a _,⟨_,Heap.get?_push_size _ rfl,rfl,rfl⟩,fun b hb=>?_,q⟩
 have e:b=s1.heap.objs.size:=by simpa using hb
 subst e
 exact I1.fpOk (Nat.le_refl _) (I1.hok.fresh (Nat.le_refl _))
theorem pi_tup {l:Expr} {tl:TE} (hl:PE X l tl):PI X tg l (iTup X.K tl):=by
 intro pins s σ H R I h
 refine thn (hl pins s σ H _ I h) fun v s1 hp0=>?_
 obtain ⟨x,H1,I1,r1,q1⟩:=hp0
 obtain ⟨a,e,⟨xs,hq⟩,q⟩:=q1
 subst e
 cases r1
 obtain ⟨its,rv,p,hz⟩:=I1.tuple hq
 refine wpAny_pyIter_tuple (show s1.heap.IsTuple a its.toArray from p) ?_
 refine ⟨s1.heap.objs.size,[s1.heap.objs.size],_,_,H1,rfl,I1.kept (t':=s1.toks) fun b o e=>Heap.get?_push_of_some _ e,turn_tuple a _,⟨_,Heap.get?_push_size _ rfl,rfl,rfl⟩,fun b hb=>?_,q⟩
 have e:b=s1.heap.objs.size:=by simpa using hb
 subst e
 exact I1.fpOk (Nat.le_refl _) (I1.hok.fresh (Nat.le_refl _))
theorem range_it {pins:List (Addr × Obj)} {σ:St} {H:Hp} {s:Shared} {R:It→Hp→Prop} {E:Value→Shared→Prop} {lo hi:Int} {t u v:Tok} {tk:Nat} (I:Inv X pins σ H s) (h1:-(2 ^ 62) ≤ lo) (h2:lo < 2 ^ 62) (h3:-(2 ^ 62) ≤ hi) (h4:hi < 2 ^ 62)
  (q:R (Itr lo (hi - lo).toNat) H):wpAny (model X.prog X.w) X.A (pyIter (.ref s.heap.objs.size)) (PIE X pins σ tg R) E { s with heap:=s.heap.push { cls:=.type "range",data:=.fields #[.int lo t,.int hi u,.int 1 v] },toks:=tk }:=by
 refine wpAny_pyIter_range (IsRange.new ..) (small_one h1 h2 h3 h4) ?_
 have I1:Inv X pins σ H { s with heap:=s.heap.push { cls:=.type "range",data:=.fields #[.int lo t,.int hi u,.int 1 v] },toks:=tk }:=I.kept fun b o e=>Heap.get?_push_of_some _ e
 refine ⟨(s.heap.push { cls:=.type "range",data:=.fields #[.int lo t,.int hi u,.int 1 v] }).objs.size,[(s.heap.push { cls:=.type "range",data:=.fields #[.int lo t,.int hi u,.int 1 v] }).objs.size],_,_,H,rfl,
  I1.kept (t':=tk) fun b o e=>Heap.get?_push_of_some _ e,turn_range _ lo (hi - lo).toNat,?_,fun b hb=>?_,q⟩
 ·have e1:lo + ((0:Nat):Int) * 1=lo:=by simp
  have e2:(((hi - lo).toNat:Nat):Int) - ((0:Nat):Int)=Builtin.Range.rangeSize lo hi 1:=by rw [rangeSize_one]; split <;> lia
  show IsRangeIter _ _ (lo + ((0:Nat):Int) * 1) ((((hi - lo).toNat:Nat):Int) - ((0:Nat):Int)) 1
  rw [e1,e2]
  exact Heap.get?_push_size _ rfl
 ·have e:b=(s.heap.push { cls:=.type "range",data:=.fields #[.int lo t,.int hi u,.int 1 v] }).objs.size:=by simpa using hb
  subst e
  exact I1.fpOk (Nat.le_refl _) (I1.hok.fresh (Nat.le_refl _))
noncomputable def iRng1 (ta:TA):TI:=fun σ H R=>ta σ H fun vs H1=>∃ j:Int,vs=[.int j]∧-(2 ^ 62) ≤ j∧j < 2 ^ 62∧R (Itr 0 j.toNat) H1
theorem Zcg {a:Expr} {ta:TA} {p pos:Pos} (hg:Gl X "range") (hm:X.mg "range" = none) (ha:PA X [a] ta) (hs:starEach [a] X.env=[(false,eval a X.env)]:=by rfl):PI X tg (.Call (.Name "range" p) [a] [] pos) (iRng1 ta):=by
 intro pins s σ H R I h
 refine Call_ (Zgu I hg hm boot_range (PyProof.Rows.callWith_type1 (thn (ha pos pins s σ H _ I h) fun us s1 hp0=>?_) hs rfl))
 obtain ⟨vs,H1,I1,r1,q1⟩:=hp0
 obtain ⟨j,e,q1,q2,q⟩:=q1
 subst e
 cases r1 with
 | cons r rr=>
  cases rr
  obtain ⟨t,rfl⟩:=r
  exact call_range_1 (range_it I1 (by lia) (by lia) q1 q2 (by simpa using q))
noncomputable def tFor (wi:TI) (g:TG) (tb:TS):TS:=fun D σ H=>wi σ H fun J H1=>∃ W:Nat→Nat→St→Hp→Prop,(∃ m,W 0 m σ H1)∧∀ i m σ H,W i m σ H →
 (J.stop i H∧D.nx σ H) ∨ (J.go i H∧∃ N:St→Hp→Prop,(∀ σ' H',N σ' H'→∃ m',m' < m∧W (i + 1) m' σ' H')∧∀ x H',J.yld i H x H'→g x σ H' fun σ2 H2=>tb { D with nx:=N,ct:=N,bk:=D.nx } σ2 H2)
noncomputable def Zg9 (fp:List Addr) (h:Heap):List (Addr × Obj):=fp.filterMap fun b=>(h.get? b).map fun o=>(b,o)
theorem Zcw {fp:List Addr} {h:Heap} {b:Addr} {o:Obj} (hb:b ∈ fp) (e:h.get? b=some o):(b,o) ∈ Zg9 fp h:=List.mem_filterMap.mpr ⟨b,hb,by rw [e]; rfl⟩
theorem of_pinsAt {fp:List Addr} {h:Heap} {p:Addr × Obj} (hp:p ∈ Zg9 fp h):p.1 ∈ fp∧h.get? p.1=some p.2:=by
 obtain ⟨b,hb,e⟩:=List.mem_filterMap.mp hp
 cases q:h.get? b with
 | none=>rw [q] at e; cases e
 | some o=>
  rw [q] at e
  have e':(b,o)=p:=Option.some.inj e
  subst e'
  exact ⟨hb,q⟩
theorem Inv.pinned {pins:List (Addr × Obj)} {σ:St} {H:Hp} {s:Shared} {fp:List Addr} (I:Inv X pins σ H s) (hf:∀ b ∈ fp,FpOk X pins H b) (ho:∀ b ∈ fp,∃ o,s.heap.get? b=some o∧∀ v,o.data ≠ .cell v):Inv X (pins ++ Zg9 fp s.heap) σ H s:=
 I.pins_of fun p hp=>(List.mem_append.mp hp).elim (fun z=>I.pin p (List.mem_append_right _ z)) fun z=>by
  obtain ⟨hb,e⟩:=of_pinsAt z
  obtain ⟨f0,f1,f2,_⟩:=hf p.1 hb
  obtain ⟨o,e',d⟩:=ho p.1 hb
  rw [e] at e'; cases e'
  exact ⟨e,f0,f1,f2,d⟩
theorem Inv.unpinned {pins pl:List (Addr × Obj)} {σ:St} {H:Hp} {s:Shared} (I:Inv X (pins ++ pl) σ H s):Inv X pins σ H s:=I.pins_of fun p hp=>I.pin p (List.mem_append_right _ (List.mem_append_left _ hp))
theorem Zcc {iter:Expr} {body:List Stmt} {wi:TI} {g:TG} {tb:TS} {pos:Pos} (hp:PassesOwn (model X.prog X.w) X.A X.env X.xe) (hc:X.calm=true) (hi:PI X tg iter wi) (hg:PG X tg g) (hb:PSs X body tb)
  (hs:∀ x,foldedSetIterable iter X.env x=pure x:=by intro _; rfl):PS X (.For tg iter body [] pos) (tFor wi g tb):=by
 intro pins s σ H D I h
 refine wpAny_For (thn (hi pins s σ H _ I h) fun v s1 h1=>thn h1 fun itv s2 h2=>?_) hs
 obtain ⟨it,fp,tn,J,H2,e,I2,T,st2,f2,W,⟨m0,w0⟩,turn⟩:=h2
 subst e
 -- what stays true of the iterator's objects through the loop
 have stat:∀ {H':Hp},(∀ b ∈ fp,H' b=none)→∀ b ∈ fp,FpOk X pins H' b:=fun hn b hb=>⟨hn b hb,(f2 b hb).2⟩
 refine codeAny_forLoop_any (fun n s'=>∃ i σ' H',Inv X pins σ' H' s'∧tn i s'.heap∧(∀ b ∈ fp,H' b=none)∧W i n σ' H') ?_ m0 ⟨0,σ,H2,I2,st2,fun b hb=>(f2 b hb).1,w0⟩
 rintro n s3 ⟨i,σ3,H3,I3,st3,fr3,w3⟩
 rcases turn i n σ3 H3 w3 with ⟨stop,qn⟩ | ⟨go,N,hN,step⟩
 ·refine wpAny_passesOwn hp (thn (T.done X rfl rfl rfl hc i pins s3 σ3 H3 X.xe I3 (stat fr3) st3 stop) fun r s4 hp0=>?_)
  obtain ⟨hr,I4⟩:=hp0
  subst hr
  exact wpAny_execs_nil ⟨σ3,H3,I4,qn⟩
 ·refine wpAny_passesOwn hp (thn (T.item X rfl rfl rfl hc i pins s3 σ3 H3 X.xe I3 (stat fr3) st3 go) fun r s4 hp0=>?_)
  obtain ⟨u,hr,h4⟩:=hp0
  subst hr
  refine wpAny_passesOwn hp (thn h4 fun _ s5 hp0=>?_)
  obtain ⟨x,H5,I5,r5,y5,st5,fr5⟩:=hp0
  have I5':=I5.pinned (stat fr5) (T.obj _ _ st5)
  refine wpAny_passesOwn hp (thn (hg _ s5 σ3 H5 x u _ I5' r5 (step x H5 y5)) fun _ s6 hp0=>?_)
  obtain ⟨σ6,H6,I6,q6⟩:=hp0
  refine wpAny_passesOwn hp (thn (hb _ s6 σ6 H6 _ I6 q6) fun f s7 q7=>?_)
  have again:∀ {σ7:St} {H7:Hp},Inv X (pins ++ Zg9 fp s5.heap) σ7 H7 s7→N σ7 H7→∃ m,m < n∧∃ i σ' H',Inv X pins σ' H' s7∧tn i s7.heap∧(∀ b ∈ fp,H' b=none)∧W i m σ' H':=fun {σ7 H7} I7 n7=>by
   obtain ⟨m',hm,w7⟩:=hN σ7 H7 n7
   refine ⟨m',hm,i + 1,σ7,H7,I7.unpinned,T.keep _ _ _ st5 fun b hb o e=>(I7.pin (b,o) (List.mem_append_right _ (List.mem_append_right _ (Zcw hb e)))).1,fun b hb=>?_,w7⟩
   obtain ⟨o,e,d⟩:=T.obj _ _ st5 b hb
   exact (I7.pin (b,o) (List.mem_append_right _ (List.mem_append_right _ (Zcw hb e)))).2.1
  cases f with
  | next=>obtain ⟨σ7,H7,I7,n7⟩:=q7; exact again I7 n7
  | cont=>obtain ⟨σ7,H7,I7,n7⟩:=q7; exact again I7 n7
  | brk=>obtain ⟨σ7,H7,I7,q7⟩:=q7; exact ⟨σ7,H7,I7.unpinned,q7⟩
  | ret v=>obtain ⟨x7,σ7,H7,I7,r7,q7⟩:=q7; exact ⟨x7,σ7,H7,I7.unpinned,r7,q7⟩
end
theorem Zc6 {K:PySem.W.Frag} {a:Addr} {xs:List V} {g:TG} {tb:TS} {D:Ends} {σ:St} {H:Hp} (Pv:Nat→St→Hp→Prop) (h0:Pv 0 σ H) (hl:∀ i σ H,i ≤ xs.length→Pv i σ H→SqL K H a xs)
  (hs:∀ i x σ H,xs[i]? = some x→Pv i σ H→g x σ H fun σ2 H2=>tb { D with nx:=Pv (i + 1),ct:=Pv (i + 1),bk:=D.nx } σ2 H2) (hd:∀ σ H,Pv xs.length σ H→D.nx σ H) :
  ∃ W:Nat→Nat→St→Hp→Prop,(∃ m,W 0 m σ H)∧∀ i m σ H,W i m σ H →
   ((Itl K a).stop i H∧D.nx σ H) ∨ ((Itl K a).go i H∧∃ N:St→Hp→Prop,(∀ σ' H',N σ' H'→∃ m',m' < m∧W (i + 1) m' σ' H')∧∀ x H',(Itl K a).yld i H x H'→g x σ H' fun σ2 H2=>tb { D with nx:=N,ct:=N,bk:=D.nx } σ2 H2):=by
 refine ⟨fun i m σ H=>m=xs.length - i∧i ≤ xs.length∧Pv i σ H,⟨xs.length,by simp,Nat.zero_le _,h0⟩,?_⟩
 rintro i m σ H ⟨rfl,hi,p⟩
 have q:=hl i σ H hi p
 by_cases hlt:i < xs.length
 ·refine .inr ⟨⟨xs,xs[i],q,by simp [hlt]⟩,Pv (i + 1),fun σ' H' p'=>⟨xs.length - (i + 1),by lia,rfl,hlt,p'⟩,fun x H' y=>?_⟩
  obtain ⟨e,y⟩:=y
  subst e
  exact hs i x σ _ (y xs q) p
 ·have e:i=xs.length:=by lia
  subst e
  exact .inl ⟨⟨xs,q,Nat.le_refl _⟩,hd σ H p⟩
theorem Zc2 {lo:Int} {n:Nat} {g:TG} {tb:TS} {D:Ends} {σ:St} {H:Hp} (Pv:Nat→St→Hp→Prop) (h0:Pv 0 σ H)
  (hs:∀ i σ H,i < n→Pv i σ H→g (.int (lo + i)) σ H fun σ2 H2=>tb { D with nx:=Pv (i + 1),ct:=Pv (i + 1),bk:=D.nx } σ2 H2) (hd:∀ σ H,Pv n σ H→D.nx σ H) :
  ∃ W:Nat→Nat→St→Hp→Prop,(∃ m,W 0 m σ H)∧∀ i m σ H,W i m σ H →
   ((Itr lo n).stop i H∧D.nx σ H) ∨ ((Itr lo n).go i H∧∃ N:St→Hp→Prop,(∀ σ' H',N σ' H'→∃ m',m' < m∧W (i + 1) m' σ' H')∧∀ x H',(Itr lo n).yld i H x H'→g x σ H' fun σ2 H2=>tb { D with nx:=N,ct:=N,bk:=D.nx } σ2 H2):=by
 refine ⟨fun i m σ H=>m=n - i∧i ≤ n∧Pv i σ H,⟨n,by simp,Nat.zero_le _,h0⟩,?_⟩
 rintro i m σ H ⟨rfl,hi,p⟩
 by_cases hlt:i < n
 ·refine .inr ⟨hlt,Pv (i + 1),fun σ' H' p'=>⟨n - (i + 1),by lia,rfl,hlt,p'⟩,fun x H' y=>?_⟩
  obtain ⟨e,y⟩:=y
  subst e y
  exact hs i σ _ hlt p
 ·have e:i=n:=by lia
  subst e
  exact .inl ⟨Nat.le_refl _,hd σ H p⟩
end L2
namespace L2
open PySem PySem.Spec PyProof.Rows
noncomputable abbrev R2:=V→V→Hp→VK→Prop
noncomputable def OpR (X:Cx) (f:Value→Value→Sem Value) (r:R2):Prop:=
 ∀ (pins:List (Addr × Obj)) (s:Shared) (σ:St) (H:Hp) (x y:V) (v u:Value) (Q:VK),Inv X pins σ H s→RelV x v→RelV y u→r x y H Q →
  wpAny (model X.prog X.w) X.A (f v u) (EP X pins σ Q) X.xe s
noncomputable def UnR (X:Cx) (f:Value→Sem Value) (r:V→Hp→VK→Prop):Prop:=
 ∀ (pins:List (Addr × Obj)) (s:Shared) (σ:St) (H:Hp) (x:V) (v:Value) (Q:VK),Inv X pins σ H s→RelV x v→r x H Q →
  wpAny (model X.prog X.w) X.A (f v) (EP X pins σ Q) X.xe s
noncomputable def Zdc (X:Cx) (f:Value) (r:List V→Hp→VK→Prop):Prop:=
 ∀ (pins:List (Addr × Obj)) (s:Shared) (σ:St) (H:Hp) (xs:List V) (us:List Value) (Q:VK),Inv X pins σ H s→Vals xs us→r xs H Q →
  wpAny (model X.prog X.w) X.A (call f us) (EP X pins σ Q) X.xe s
noncomputable def tOp (r:R2) (ta tb:TE):TE:=fun σ H Q=>ta σ H fun x H1=>tb σ H1 fun y H2=>r x y H2 Q
noncomputable def tUn (r:V→Hp→VK→Prop) (ta:TE):TE:=fun σ H Q=>ta σ H fun x H1=>r x H1 Q
inductive rI (C:Int→Int→Prop) (g:Int→Int→V) (x:V) (y:V) (H:Hp) (Q:VK):Prop
 | mk (i:_) (j:_) (c0:x=.int i) (c1:y=.int j) (c2:C i j) (c3:Q (g i j) H):rI C g x y H Q
inductive rI0 (g:Int→Int→V) (x:V) (y:V) (H:Hp) (Q:VK):Prop
 | mk (i:_) (j:_) (c0:x=.int i) (c1:y=.int j) (c2:Q (g i j) H):rI0 g x y H Q
noncomputable def rU (g:Int→V):V→Hp→VK→Prop:=fun x H Q=>∃ i,x=.int i∧Q (g i) H
section
variable {X:Cx} {a b c:Expr} {ta tb tc:TE} {pos:Pos}
theorem binT (ha:PE X a ta) (hb:PE X b tb) {pins:List (Addr × Obj)} {s:Shared} {σ:St} {H:Hp} {R:V→V→Hp→Prop} (I:Inv X pins σ H s)
  (h:ta σ H fun x H1=>tb σ H1 fun y H2=>R x y H2) {Q:Value→Shared→Prop} {f:Value→Value→Sem Value}
  (hf:∀ v u s2 x y H2,Inv X pins σ H2 s2→RelV x v→RelV y u→R x y H2→wpAny (model X.prog X.w) X.A (f v u) Q X.xe s2) :
  wpAny (model X.prog X.w) X.A (eval a X.env) (fun v s₁=>wpAny (model X.prog X.w) X.A (eval b X.env) (fun u s₂=>wpAny (model X.prog X.w) X.A (f v u) Q X.xe s₂) X.xe s₁) X.xe s:=by
 refine thn (ha pins s σ H _ I h) fun v s1 hp0=>?_
 obtain ⟨x,H1,I1,r1,q1⟩:=hp0
 refine thn (hb pins s1 σ H1 _ I1 q1) fun u s2 hp0=>?_
 obtain ⟨y,H2,I2,r2,q2⟩:=hp0
 exact hf v u s2 x y H2 I2 r1 r2 q2
theorem Zaz {op:Operator} {r:R2} (ho:OpR X (binaryOp op) r) (ha:PE X a ta) (hb:PE X b tb):PE X (.BinOp a op b pos) (tOp r ta tb):=by
 intro pins s σ H Q I h
 exact wpAny_BinOp (binT ha hb I h fun v u s2 x y H2 I2 rx ry q=>ho pins s2 σ H2 x y v u Q I2 rx ry q)
theorem Zm5 {op:UnaryOp} {r:V→Hp→VK→Prop} (ho:UnR X (unaryOp op) r) (ha:PE X a ta):PE X (.UnaryOp op a pos) (tUn r ta):=by
 intro pins s σ H Q I h
 exact UnaryOp_ (thn (ha pins s σ H _ I h) fun v s1 hp0=>by obtain ⟨x,H1,I1,r1,q1⟩:=hp0; exact ho pins s1 σ H1 x v Q I1 r1 q1)
theorem opI {f:Value→Value→Sem Value} {C:Int→Int→Prop} {g:Int→Int→Int}
  (rule:∀ (i j:Int) (t u:Tok) (s:Shared) (Q:Value→Shared→Prop) (E:Value→Shared→Prop),C i j→Q (.int (g i j) s.toks) { s with toks:=s.toks + 1 }→wpAny (model X.prog X.w) X.A (f (.int i t) (.int j u)) Q E s) :
  OpR X f (rI C fun i j=>.int (g i j)):=by
 intro pins s σ H x y v u Q I rx ry h
 obtain ⟨i,j,rfl,rfl,hc,q⟩:=h
 obtain ⟨t,rfl⟩:=rx
 obtain ⟨t',rfl⟩:=ry
 exact rule i j t t' s _ _ hc ⟨.int (g i j),H,I.tok _,⟨_,rfl⟩,q⟩
theorem opI0 {f:Value→Value→Sem Value} {g:Int→Int→Int}
  (rule:∀ (i j:Int) (t u:Tok) (s:Shared) (Q:Value→Shared→Prop) (E:Value→Shared→Prop),Q (.int (g i j) s.toks) { s with toks:=s.toks + 1 }→wpAny (model X.prog X.w) X.A (f (.int i t) (.int j u)) Q E s) :
  OpR X f (rI0 fun i j=>.int (g i j)):=by
 intro pins s σ H x y v u Q I rx ry h
 obtain ⟨i,j,rfl,rfl,q⟩:=h
 obtain ⟨t,rfl⟩:=rx
 obtain ⟨t',rfl⟩:=ry
 exact rule i j t t' s _ _ ⟨.int (g i j),H,I.tok _,⟨_,rfl⟩,q⟩
theorem opB0 {f:Value→Value→Sem Value} {g:Int→Int→Bool}
  (rule:∀ (i j:Int) (t u:Tok) (s:Shared) (Q:Value→Shared→Prop) (E:Value→Shared→Prop),Q (.bool (g i j)) s→wpAny (model X.prog X.w) X.A (f (.int i t) (.int j u)) Q E s) :
  OpR X f (rI0 fun i j=>.bl (g i j)):=by
 intro pins s σ H x y v u Q I rx ry h
 obtain ⟨i,j,rfl,rfl,q⟩:=h
 obtain ⟨t,rfl⟩:=rx
 obtain ⟨t',rfl⟩:=ry
 exact rule i j t t' s _ _ ⟨.bl (g i j),H,I,rfl,q⟩
noncomputable def CPow (i j:Int):Prop:=0 ≤ j∧j ≤ 1000000∧i.natAbs < 2 ^ 64
noncomputable def CMul (i j:Int):Prop:=(-(2 ^ 64) < i∧i < 2 ^ 64) ∨ (-(2 ^ 64) < j∧j < 2 ^ 64)
theorem CMul.ok {i j:Int} (h:CMul i j):IntMulOk i j:=by
 rcases h with ⟨h1,h2⟩ | ⟨h1,h2⟩
 ·exact .of_left (intBits_le_64 h1 h2)
 ·exact .of_right (intBits_le_64 h1 h2)
theorem two_pow_nn (k:Nat):(0:Int) ≤ 2 ^ k:=by
 rw [two_pow_cast]
 exact Int.natCast_nonneg _
theorem Zbv:OpR X (binaryOp .Add) (rI0 fun i j=>.int (i + j)):=opI0 fun _ _ _ _ _ _ _ q=>add_int q
theorem Zj1:OpR X (binaryOp .Sub) (rI0 fun i j=>.int (i - j)):=opI0 fun _ _ _ _ _ _ _ q=>sub_int q
theorem Zdv:OpR X (binaryOp .Mult) (rI CMul fun i j=>.int (i * j)):=opI fun _ _ _ _ _ _ _ hc q=>mul_int q hc.ok
theorem Zez:OpR X (binaryOp .Mod) (rI (fun _ j=>0 < j) fun i j=>.int (i % j)):=opI fun i j _ _ _ _ _ hc q=>by
 have h1:(0:Int) < j:=hc
 exact mod_int' (by lia) (by rw [Int.fmod_eq_emod_of_nonneg i (by lia)]; exact q)
theorem op_pow:OpR X (binaryOp .Pow) (rI CPow fun i j=>.int (i ^ j.toNat)):=opI fun _ _ _ _ _ _ _ hc q=>pow_int_small hc.1 hc.2.1 hc.2.2 q
theorem op_shl:OpR X (binaryOp .LShift) (rI CPow fun i j=>.int (i * 2 ^ j.toNat)):=opI fun _ _ _ _ _ _ _ hc q=>lshift_int_small hc.1 hc.2.1 hc.2.2 q
theorem op_shr:OpR X (binaryOp .RShift) (rI (fun _ j=>0 ≤ j) fun i j=>.int (i / 2 ^ j.toNat)):=opI fun i j _ _ _ _ _ hc q=>
 rshift_int hc (by rw [Int.fdiv_eq_ediv_of_nonneg i (two_pow_nn _)]; exact q)
theorem op_and:OpR X (binaryOp .BitAnd) (rI0 fun i j=>.int (Builtin.bitAnd i j)):=opI0 fun _ _ _ _ _ _ _ q=>and_int q
theorem op_or:OpR X (binaryOp .BitOr) (rI0 fun i j=>.int (Builtin.bitOr i j)):=opI0 fun _ _ _ _ _ _ _ q=>or_int q
theorem unI {f:Value→Sem Value} {g:Int→Int}
  (rule:∀ (i:Int) (t:Tok) (s:Shared) (Q:Value→Shared→Prop) (E:Value→Shared→Prop),Q (.int (g i) s.toks) { s with toks:=s.toks + 1 }→wpAny (model X.prog X.w) X.A (f (.int i t)) Q E s) :
  UnR X f (rU fun i=>.int (g i)):=by
 intro pins s σ H x v Q I rx h
 obtain ⟨i,rfl,q⟩:=h
 obtain ⟨t,rfl⟩:=rx
 exact rule i t s _ _ ⟨.int (g i),H,I.tok _,⟨_,rfl⟩,q⟩
theorem Zkw:UnR X (unaryOp .USub) (rU fun i=>.int (-i)):=unI fun _ _ _ _ _ q=>neg_int q
end
noncomputable def scal:V→V→Bool
 | .non,.non=>true | .non,.int _=>true | .int _,.non=>true | .non,.bl _=>true | .bl _,.non=>true | .non,.str _=>true | .str _,.non=>true
 | .int _,.int _=>true | .bl _,.bl _=>true | .str _,.str _=>true | .byt _,.byt _=>true
 | .int _,.str _=>true | .str _,.int _=>true | .bl _,.str _=>true | .str _,.bl _=>true
 | _,_=>false
noncomputable def rEq:R2:=fun x y H Q=>scal x y=true∧Q (.bl (decide (x=y))) H
noncomputable def rNe:R2:=fun x y H Q=>scal x y=true∧Q (.bl (!decide (x=y))) H
theorem Zlw {i j:Int}:decide (V.int i=V.int j)=(i == j):=by
 rw [Bool.eq_iff_iff]
 simp
theorem Zm1 {i j:Bool}:decide (V.bl i=V.bl j)=(i == j):=by
 rw [Bool.eq_iff_iff]
 simp
theorem Zlv {i j:Str}:decide (V.str i=V.str j)=(i == j):=by
 rw [Bool.eq_iff_iff]
 simp
theorem Zlx {i j:Array UInt8}:decide (V.byt i=V.byt j)=(i.toList == j.toList):=by
 rw [Bool.eq_iff_iff]
 cases i
 cases j
 simp
section
variable {X:Cx} {a b c:Expr} {ta tb tc:TE} {pos:Pos}
theorem Zba {pins:List (Addr × Obj)} {σ:St} {H:Hp} {s:Shared} {Q:VK} {k k':Bool} (I:Inv X pins σ H s) (q:Q (.bl k) H) (e:k=k'):EP X pins σ Q (.bool k') s:=by
 subst e
 exact ⟨.bl k,H,I,rfl,q⟩
theorem Zdr:OpR X (compareOp .Eq) rEq:=by
 intro pins s σ H x y v u Q I rx ry h
 obtain ⟨hs,q⟩:=h
 cases x with
 | non=>
  cases rx
  cases y with
  | non=>cases ry; exact PySem.EqNone.eq_none_none (Zba I q (by simp))
  | bl j=>cases ry; exact PySem.EqNone.eq_none_bool (Zba I q (by simp))
  | int j=>obtain ⟨t',rfl⟩:=ry; exact PySem.EqNone.eq_none_int (Zba I q (by simp))
  | str j=>obtain ⟨t',rfl⟩:=ry; exact PySem.EqNone.eq_none_str (Zba I q (by simp))
  | _=>exact absurd (show false=true from hs) Bool.false_ne_true
 | bl i=>
  cases rx
  cases y with
  | non=>cases ry; exact PySem.EqNone.eq_bool_none (Zba I q (by simp))
  | bl j=>cases ry; exact eq_bool (Zba I q Zm1)
  | str j=>obtain ⟨t',rfl⟩:=ry; exact PySem.EqMixed.eq_bool_str (Zba I q (by simp))
  | _=>exact absurd (show false=true from hs) Bool.false_ne_true
 | int i=>
  obtain ⟨t,rfl⟩:=rx
  cases y with
  | non=>cases ry; exact PySem.EqNone.eq_int_none (Zba I q (by simp))
  | int j=>obtain ⟨t',rfl⟩:=ry; exact eq_int (Zba I q Zlw)
  | str j=>obtain ⟨t',rfl⟩:=ry; exact PySem.EqMixed.eq_int_str (Zba I q (by simp))
  | _=>exact absurd (show false=true from hs) Bool.false_ne_true
 | str i=>
  obtain ⟨t,rfl⟩:=rx
  cases y with
  | non=>cases ry; exact PySem.EqNone.eq_str_none (Zba I q (by simp))
  | bl j=>cases ry; exact PySem.EqMixed.eq_str_bool (Zba I q (by simp))
  | int j=>obtain ⟨t',rfl⟩:=ry; exact PySem.EqMixed.eq_str_int (Zba I q (by simp))
  | str j=>obtain ⟨t',rfl⟩:=ry; exact eq_str (Zba I q Zlv)
  | _=>exact absurd (show false=true from hs) Bool.false_ne_true
 | byt i=>
  obtain ⟨t,rfl⟩:=rx
  cases y with
  | byt j=>obtain ⟨t',rfl⟩:=ry; exact PySem.W.eq_bytes (Zba I q Zlx)
  | _=>exact absurd (show false=true from hs) Bool.false_ne_true
 | _=>cases y <;> exact absurd (show false=true from hs) Bool.false_ne_true
theorem Zf5:OpR X (compareOp .NotEq) rNe:=by
 intro pins s σ H x y v u Q I rx ry h
 obtain ⟨hs,q⟩:=h
 cases x with
 | non=>
  cases rx
  cases y with
  | non=>cases ry; exact PySem.EqNone.ne_none_none (Zba I q (by simp))
  | bl j=>cases ry; exact PySem.EqNone.ne_none_bool (Zba I q (by simp))
  | int j=>obtain ⟨t',rfl⟩:=ry; exact PySem.EqNone.ne_none_int (Zba I q (by simp))
  | str j=>obtain ⟨t',rfl⟩:=ry; exact PySem.EqNone.ne_none_str (Zba I q (by simp))
  | _=>exact absurd (show false=true from hs) Bool.false_ne_true
 | bl i=>
  cases rx
  cases y with
  | non=>cases ry; exact PySem.EqNone.ne_bool_none (Zba I q (by simp))
  | bl j=>cases ry; exact ne_bool (Zba I q (congrArg not Zm1))
  | str j=>obtain ⟨t',rfl⟩:=ry; exact PySem.EqMixed.ne_bool_str (Zba I q (by simp))
  | _=>exact absurd (show false=true from hs) Bool.false_ne_true
 | int i=>
  obtain ⟨t,rfl⟩:=rx
  cases y with
  | non=>cases ry; exact PySem.EqNone.ne_int_none (Zba I q (by simp))
  | int j=>obtain ⟨t',rfl⟩:=ry; exact ne_int (Zba I q (congrArg not Zlw))
  | str j=>obtain ⟨t',rfl⟩:=ry; exact PySem.EqMixed.ne_int_str (Zba I q (by simp))
  | _=>exact absurd (show false=true from hs) Bool.false_ne_true
 | str i=>
  obtain ⟨t,rfl⟩:=rx
  cases y with
  | non=>cases ry; exact PySem.EqNone.ne_str_none (Zba I q (by simp))
  | bl j=>cases ry; exact PySem.EqMixed.ne_str_bool (Zba I q (by simp))
  | int j=>obtain ⟨t',rfl⟩:=ry; exact PySem.EqMixed.ne_str_int (Zba I q (by simp))
  | str j=>obtain ⟨t',rfl⟩:=ry; exact ne_str (Zba I q (congrArg not Zlv))
  | _=>exact absurd (show false=true from hs) Bool.false_ne_true
 | byt i=>
  obtain ⟨t,rfl⟩:=rx
  cases y with
  | byt j=>obtain ⟨t',rfl⟩:=ry; exact PySem.W.ne_bytes (Zba I q (congrArg not Zlx))
  | _=>exact absurd (show false=true from hs) Bool.false_ne_true
 | _=>cases y <;> exact absurd (show false=true from hs) Bool.false_ne_true
theorem Zjl:OpR X (compareOp .Lt) (rI0 fun i j=>.bl (decide (i < j))):=opB0 fun _ _ _ _ _ _ _ q=>lt_int q
theorem Zjm:OpR X (compareOp .LtE) (rI0 fun i j=>.bl (decide (i ≤ j))):=opB0 fun _ _ _ _ _ _ _ q=>le_int q
theorem Zm7:OpR X (compareOp .Gt) (rI0 fun i j=>.bl (decide (j < i))):=opB0 fun _ _ _ _ _ _ _ q=>gt_int q
theorem op_isN:OpR X (compareOp .Is) (fun x y H Q=>y=.non∧Q (.bl (decide (x=.non))) H):=by
 intro pins s σ H x y v u Q I rx ry h
 obtain ⟨rfl,q⟩:=h
 cases ry
 refine is_none_gen (Zba I q ?_)
 cases x <;> first
  | (cases rx; rfl)
  | (obtain ⟨t,rfl⟩:=rx; rfl)
theorem Zjk:OpR X (compareOp .IsNot) (fun x y H Q=>y=.non∧Q (.bl (!decide (x=.non))) H):=by
 intro pins s σ H x y v u Q I rx ry h
 obtain ⟨rfl,q⟩:=h
 cases ry
 refine isnot_none_gen (Zba I q ?_)
 cases x <;> first
  | (cases rx; rfl)
  | (obtain ⟨t,rfl⟩:=rx; rfl)
theorem Za0 (b:Expr) {op:CmpOp} (h:op ≠ .In:=by decide) (h2:op ≠ .NotIn:=by decide):behindInMarks op b=false:=by
 have e1:(op == CmpOp.In)=false:=by cases op <;> first | rfl | exact absurd rfl h
 have e2:(op == CmpOp.NotIn)=false:=by cases op <;> first | rfl | exact absurd rfl h2
 cases b <;> simp [behindInMarks,e1,e2]
inductive isB (Q:Bool→Hp→Prop) (x:V) (H':Hp):Prop
 | mk (k:_) (c0:x=.bl k) (c1:Q k H'):isB Q x H'
noncomputable def tTest (t:TE):TT:=fun σ H Q=>t σ H fun x H'=>isB Q x H'
theorem Zav {op:CmpOp} {r:R2} (ho:OpR X (compareOp op) r) (ha:PE X a ta) (hb:PE X b tb) (hm:behindInMarks op b=false):PT X (.Compare a [op] [b] pos) (tTest (tOp r ta tb)):=by
 intro pins s σ H Q I h
 refine wpAny_isTrue_Compare1 (thn (ha pins s σ H _ I h) fun v s1 ⟨x,H1,I1,r1,q1⟩=>thn (hb pins s1 σ H1 _ I1 q1) fun u s2 ⟨y,H2,I2,r2,q2⟩=>
  thn (ho pins s2 σ H2 x y v u _ I2 r1 r2 q2) fun c s3 ⟨z,H3,I3,r3,k,e,q3⟩=>?_) hm
 subst e
 cases r3
 exact wpAny_truthy_bool ⟨H3,I3,q3⟩
noncomputable def Zma (r r':R2) (ta tb tc:TE):TE:=fun σ H Q=>ta σ H fun x H1=>tb σ H1 fun y H2=>r x y H2 fun z H3=>∃ k,z=.bl k ∧
 (if k=true then tc σ H3 fun w' H4=>r' y w' H4 Q else Q (.bl false) H3)
theorem pe_chain {op op':CmpOp} {r r':R2} (ho:OpR X (compareOp op) r) (ho':OpR X (compareOp op') r') (ha:PE X a ta) (hb:PE X b tb) (hc:PE X c tc)
  (hm:lastMarks [op,op'] [b,c]=false:=by with_unfolding_all rfl):PE X (.Compare a [op,op'] [b,c] pos) (Zma r r' ta tb tc):=by
 intro pins s σ H Q I h
 refine Compare_chain (thn (ha pins s σ H _ I h) fun v s1 ⟨x,H1,I1,r1,q1⟩=>chain_link (thn (hb pins s1 σ H1 _ I1 q1) fun u s2 ⟨y,H2,I2,r2,q2⟩=>
  thn (ho pins s2 σ H2 x y v u _ I2 r1 r2 q2) fun d s3 ⟨z,H3,I3,r3,k,e,q3⟩=>?_)) hm
 subst e
 cases r3
 refine wpAny_truthy_bool ?_
 cases k with
 | false=>exact ite_ff ⟨.bl false,H3,I3,rfl,q3⟩
 | true=>exact ite_tt (chain_last (thn (hc pins s3 σ H3 _ I3 q3) fun w' s4 hp0=>by obtain ⟨z',H4,I4,r4,q4⟩:=hp0; exact ho' pins s4 σ H4 y z' u w' Q I4 r2 r4 q4))
theorem Zhn {op op':CmpOp} {r r':R2} (ho:OpR X (compareOp op) r) (ho':OpR X (compareOp op') r') (ha:PE X a ta) (hb:PE X b tb) (hc:PE X c tc)
  (hm:lastMarks [op,op'] [b,c]=false:=by with_unfolding_all rfl):PT X (.Compare a [op,op'] [b,c] pos) (tTest (Zma r r' ta tb tc)):=by
 intro pins s σ H Q I h
 refine isTrue_chain (thn (ha pins s σ H _ I h) fun v s1 ⟨x,H1,I1,r1,q1⟩=>test_link (thn (hb pins s1 σ H1 _ I1 q1) fun u s2 ⟨y,H2,I2,r2,q2⟩=>
  thn (ho pins s2 σ H2 x y v u _ I2 r1 r2 q2) fun d s3 ⟨z,H3,I3,r3,k,e,q3⟩=>?_)) hm
 subst e
 cases r3
 refine wpAny_truthy_bool ?_
 cases k with
 | false=>
  obtain ⟨k',e',q'⟩:=q3
  cases e'
  exact ite_ff ⟨H3,I3,q'⟩
 | true=>
  refine ite_tt (test_last (thn (hc pins s3 σ H3 _ I3 q3) fun w' s4 hp0=>?_))
  obtain ⟨z',H4,I4,r4,q4⟩:=hp0
  refine thn (ho' pins s4 σ H4 y z' u w' _ I4 r2 r4 q4) fun d' s5 hp1=>?_
  obtain ⟨z2,H5,I5,r5,k2,e2,q5⟩:=hp1
  subst e2
  cases r5
  exact wpAny_truthy_bool ⟨H5,I5,q5⟩
theorem Zka:(sizeLine:Nat) < 2 ^ 63:=by rw [sizeLine_eq]; decide
inductive rAddS (x y:V) (H:Hp) (Q:VK):Prop
 | mk (i:_) (j:_) (c0:x=.str i) (c1:y=.str j) (c2:i.length + j.length ≤ sizeLine) (c3:Q (.str (i ++ j)) H):rAddS x y H Q
theorem Zbi:OpR X (binaryOp .Add) rAddS:=by
 intro pins s σ H x y v u Q I rx ry h
 obtain ⟨i,j,rfl,rfl,hz,q⟩:=h
 obtain ⟨t,rfl⟩:=rx
 obtain ⟨t',rfl⟩:=ry
 exact add_str (fun t' tk=>⟨.str (i ++ j),H,I.tok _,⟨_,rfl⟩,q⟩) hz
theorem Ze1 {x:V} {us:List Value} (r:Vals [x] us):∃ u,us=[u]∧RelV x u:=by
 cases r with
 | cons r1 r2=>cases r2; exact ⟨_,rfl,r1⟩
theorem Zjc {x y:V} {us:List Value} (r:Vals [x,y] us):∃ u w',us=[u,w']∧RelV x u∧RelV y w':=by
 cases r with
 | cons r1 r2=>
  cases r2 with
  | cons r3 r4=>cases r4; exact ⟨_,_,rfl,r1,r3⟩
theorem call_max2 (hc:X.calm=true):Zdc X (.builtin "max") (fun xs H Q=>∃ i j,xs=[.int i,.int j]∧Q (.int (if j > i then j else i)) H):=by
 intro pins s σ H xs us Q I r h
 obtain ⟨i,j,rfl,q⟩:=h
 obtain ⟨u,w',rfl,⟨t,rfl⟩,⟨t',rfl⟩⟩:=Zjc r
 refine max_two_ints (I.ok.hd hc) fun h' tk k=>⟨_,H,I.kept k,?_,q⟩
 by_cases hj:j > i
 ·rw [if_pos hj,if_pos hj]; exact ⟨_,rfl⟩
 ·rw [if_neg hj,if_neg hj]; exact ⟨_,rfl⟩
noncomputable def LenV (K:PySem.W.Frag) (x:V) (H:Hp) (n:Nat):Prop:=
 match x with
 | .str y=>y.length ≤ sizeLine∧n=y.length
 | .byt y=>y.size ≤ sizeLine∧n=y.size
 | .ref p=>(∃ xs,SqL K H p xs∧n=xs.length) ∨ ∃ xs,SqT K H p xs∧n=xs.length
 | _=>False
inductive rLen (K:PySem.W.Frag) (xs:List V) (H:Hp) (Q:VK):Prop
 | mk (x:_) (n:_) (c0:xs=[x]) (c1:LenV K x H n) (c2:Q (.int n) H):rLen K xs H Q
theorem Zbf:Zdc X (.builtin "len") (rLen X.K):=by
 intro pins s σ H xs us Q I r h
 obtain ⟨x,n,rfl,e,q⟩:=h
 obtain ⟨u,rfl,rx⟩:=Ze1 r
 have hl:=Zka
 have hs:sizeLine=16777216:=sizeLine_eq
 cases x with
 | str y=>
  obtain ⟨t,rfl⟩:=rx
  obtain ⟨hy,e'⟩:y.length ≤ sizeLine∧n=y.length:=e
  subst e'
  exact len_str (by lia) ⟨.int _,H,I.tok _,⟨_,rfl⟩,q⟩
 | byt y=>
  obtain ⟨t,rfl⟩:=rx
  obtain ⟨hy,e'⟩:y.size ≤ sizeLine∧n=y.size:=e
  subst e'
  exact PySem.W.len_bytes (by lia) ⟨.int _,H,I.tok _,⟨_,rfl⟩,q⟩
 | ref p=>
  cases rx
  have e':(∃ xs,SqL X.K H p xs∧n=xs.length) ∨ ∃ xs,SqT X.K H p xs∧n=xs.length:=e
  rcases e' with ⟨xs,hx,e'⟩ | ⟨xs,hx,e'⟩
  ·subst e'
   obtain ⟨its,r',pl,hz⟩:=I.list hx
   have hlen:=r'.length
   exact Calls.call_len_list pl.isList (by simp only [List.size_toArray]; lia) ⟨.int xs.length,H,I.tok _,⟨_,by simp only [List.size_toArray]; rw [hlen]⟩,q⟩
  ·subst e'
   obtain ⟨its,r',pl,hz⟩:=I.tuple hx
   have hlen:=r'.length
   exact len_tuple pl (by simp only [List.size_toArray]; lia) ⟨.int xs.length,H,I.tok _,⟨_,by simp only [List.size_toArray]; rw [hlen]⟩,q⟩
 | _=>exact (show False from e).elim
end
end L2
namespace L2
open PySem PySem.Spec PyProof.Rows
structure ObjM (h:Heap) (x dx C:Addr) (mA:Str→Option Value):Prop where
 obj:h.get? x=some (PySem.W.instObj C dx)
 ns:h.Ns1 dx mA
 ne:dx ≠ x
theorem lookIn_ns {h:Heap} {dx:Addr} {mA:Str→Option Value} (n:h.Ns1 dx mA):∃ od,h.get? dx=some od∧∀ name,PySem.W.lookIn name od=some (mA name):=by
 obtain ⟨o,es,ep,ho,hd,hk,_,hm⟩:=n
 refine ⟨o,ho,fun name=>?_⟩
 have e:=hm name
 unfold nsFind findBy at e
 rw [← Array.find?_toList] at e
 unfold PySem.W.lookIn
 rw [hd]
 dsimp only
 split
 ·rename_i y q
  rw [q] at e
  exact congrArg some e
 ·rename_i q
  rw [q] at e
  have a:es.toList.any (·.refKey)=false:=by
   rw [List.any_eq_false]
   intro y hy
   obtain ⟨z,t,hkey⟩:=hk y (Array.mem_toList_iff.mp hy)
   simp [DictEntry.refKey,hkey]
  have a':¬ es.toList.any (·.refKey)=true:=by rw [a]; exact Bool.false_ne_true
  rw [if_neg a']
  exact congrArg some e
theorem ObjM.look {h:Heap} {x dx C:Addr} {mA:Str→Option Value} (I:ObjM h x dx C mA):∃ od,PySem.W.InstAt h x (PySem.W.instObj C dx) C (some od)∧∀ name,PySem.W.lookIn name od=some (mA name):=
 let ⟨od,ho,hl⟩:=lookIn_ns I.ns
 ⟨od,⟨I.obj,rfl,rfl,ho⟩,hl⟩
section
variable {prog:Program} {w:World} {A:Around} {E:Value→Shared→Prop} {s:Shared} {K:PySem.W.Frag} {x dx C f:Addr} {mA:Str→Option Value} {name:Str} {v:Value}
theorem get_map {expr:Bool} {Q:Value→Shared→Prop} (X:K.In s.heap) (I:ObjM s.heap x dx C mA) (hg:PySem.W.plainGet K C name=true) (hh:PySem.W.hasDictIn K C=true)
  (ha:PySem.W.findIn K (.ref C) name=some none) (hv:mA name=some v) (hv':PySem.W.handedIn v=true) (h:Q v { s with toks:=s.toks + 1 }) :
  wpAny (model prog w) A (getAttr (.ref x) name expr) Q E s:=by
 obtain ⟨od,J,hl⟩:=I.look
 exact PySem.W.get_value X J (PySem.W.plainGet_of hg).1 (PySem.W.findObj_own hh ha rfl (by rw [hl,hv])) hv' h
theorem get_meth {pl:Sem Bool} {Q:Value × List Value→Shared→Prop} (X:K.In s.heap) (I:ObjM s.heap x dx C mA) (hg:PySem.W.plainGet K C name=true)
  (hf:PySem.W.findIn K (.ref C) name=some (some (.ref f))) (ht:PySem.W.isFn K (.ref f)=true) (hv:mA name=none) (h:Q (.ref f,[.ref x]) s) :
  wpAny (model prog w) A (getMethod (.ref x) name pl) Q E s:=by
 obtain ⟨od,J,hl⟩:=I.look
 exact PySem.W.method_fn X J (PySem.W.plainGet_of hg).1 (PySem.W.plainGet_of hg).2 hf (beq_iff_eq.mp ht) (by show (PySem.W.lookIn name od).map (·.isSome)=some false; rw [hl,hv]; rfl) h
theorem set_map {ns:List Str} {Q:Unit→Shared→Prop} (X:K.In s.heap) (I:ObjM s.heap x dx C mA)
  (hs:PySem.W.findIn K (.ref C) "__setattr__" = some (some (.builtin "object.__setattr__"))) (hp:PySem.W.plainOver K C=true) (ht:PySem.W.takerIn K C name=some none) (hh:PySem.W.hasDictIn K C=true)
  (hw:PySem.Within mA ns) (hsz:ns.length ≤ sizeLine)
  (h:∀ h',ObjM h' x dx C (fun y=>if y=name then some v else mA y)→Heap.SameBut dx s.heap h'→Q () { s with heap:=h',toks:=s.toks + 2 }) :
  wpAny (model prog w) A (setAttr (.ref x) name v) Q E s:=by
 obtain ⟨od,J,hl⟩:=I.look
 refine PySem.W.set_plain X J hs (PySem.W.osa_open (s:={ s with toks:=s.toks + 1 }) (r:=none) X J hp ht fun b=>?_)
 obtain ⟨cd,hc,hd'⟩:=PySem.W.any_some hh
 have hx:s.heap.get? x=some ⟨.ref C,some dx,.plain,#[]⟩:=I.obj
 refine wpAny_bind (wpAny_pure (wpAny_bind (wpAny_bind (wpAny_loadPart hx (wpAny_bind (PySem.W.Looks.here (s:={ s with toks:=s.toks + 1 }) (PySem.W.looks_clsIn X hc) ?_))))))
 rw [hd']
 refine wpAny_pure (a:=some dx) (wpAny_bind (wpAny_pure (wpAny_bind ?_)))
 refine wpAny_nsSet1 (s:={ s with toks:=s.toks + 1 }) I.ns fun h' hn2 hs2=>?_
 obtain ⟨oD,esD,epD,hoD,hdD,hcD⟩:=hn2.count (PySem.Within.cons name v hw)
 refine wpAny_bind (wpAny_lookBehind hoD (by rw [hdD]; exact pastItsLine_dict (Nat.le_trans hcD (by rw [List.length_cons]; lia))) ?_)
 exact wpAny_pure (h _ ⟨(hs2.2 _ (Ne.symm I.ne)).trans I.obj,hn2,I.ne⟩ hs2)
theorem make_map {R:Result→Shared→Prop} {vs:List Value} {kw:List (Str × Value)} (X:K.In s.heap) (hm:PySem.W.makesIn K C=true)
  (hi:PySem.W.findIn K (.ref C) "__init__" = some (some (.ref f))) (hf:PySem.W.typeIn K (.ref f)=some (.type "function"))
  (h:codeAny (model prog w) (A.under (.builtin "type.__call__" ⟨.ref C :: vs,kw⟩)) (.call (.ref f) ⟨.ref (s.heap.objs.size + 1) :: vs,kw⟩) (PySem.W.InitBack (s.heap.objs.size + 1) R)
   { s with heap:=(s.heap.push PySem.W.emptyDict).push (PySem.W.instObj C s.heap.objs.size) }) :
  codeAny (model prog w) A (.call (.ref C) ⟨vs,kw⟩) R s:=by
 obtain ⟨hh,g,d,t,os⟩:=s
 exact PySem.W.make_core (PySem.W.makes_of X hm) (PySem.W.looks_findIn X hi) (fun self=>PySem.W.bind_fn X self hf) (.inl rfl) h
theorem make_map0 {R:Result→Shared→Prop} (X:K.In s.heap) (hm:PySem.W.makesIn K C=true)
  (hi:PySem.W.findIn K (.ref C) "__init__" = some (some (.builtin "object.__init__")))
  (hb:∀ self,PySem.W.Looks (model prog w) s.heap (bindSpecial (.builtin "object.__init__") self) (.builtin "object.__init__",[self]))
  (h:codeAny (model prog w) (A.under (.builtin "type.__call__" ⟨[.ref C],[]⟩)) (.call (.builtin "object.__init__") ⟨[.ref (s.heap.objs.size + 1)],[]⟩) (PySem.W.InitBack (s.heap.objs.size + 1) R)
   { s with heap:=(s.heap.push PySem.W.emptyDict).push (PySem.W.instObj C s.heap.objs.size) }) :
  codeAny (model prog w) A (.call (.ref C) ⟨[],[]⟩) R s:=by
 obtain ⟨hh,g,d,t,os⟩:=s
 exact PySem.W.make_core (PySem.W.makes_of X hm) (PySem.W.looks_findIn X hi) hb (.inr ⟨rfl,rfl⟩) h
end
noncomputable def putF (f:Str) (v:V):List (Str × V)→List (Str × V)
 | []=>[(f,v)]
 | (g,x) :: r=>if g=f then (g,v) :: r else (g,x) :: putF f v r
theorem Zao (f g:Str) (v:V):∀ fs:List (Str × V),(putF f v fs).lookup g=if g=f then some v else fs.lookup g
 | []=>by
  show List.lookup g [(f,v)]=_
  by_cases h:g=f
  ·have hb:(g == f)=true:=beq_iff_eq.mpr h
   simp only [List.lookup,hb,if_pos h]
  ·have hb:(g == f)=false:=beq_eq_false_iff_ne.mpr h
   simp only [List.lookup,hb,if_neg h]
 | (k,x) :: r=>by
  have ih:=Zao f g v r
  rw [show putF f v ((k,x) :: r)=(if k=f then (k,v) :: r else (k,x) :: putF f v r) from rfl]
  by_cases hk:k=f
  ·rw [if_pos hk]
   by_cases h:g=k
   ·have hb:(g == k)=true:=beq_iff_eq.mpr h
    simp only [List.lookup,hb,if_pos (h.trans hk)]
   ·have hb:(g == k)=false:=beq_eq_false_iff_ne.mpr h
    simp only [List.lookup,hb,if_neg (fun e:g=f=>h (e.trans hk.symm))]
  ·rw [if_neg hk]
   by_cases h:g=k
   ·have hb:(g == k)=true:=beq_iff_eq.mpr h
    simp only [List.lookup,hb,if_neg (fun e:g=f=>hk (h.symm.trans e))]
   ·have hb:(g == k)=false:=beq_eq_false_iff_ne.mpr h
    simp only [List.lookup,hb]
    exact ih
theorem Zgv (f:Str) (v:V):∀ fs:List (Str × V),f ∈ (putF f v fs).map (·.1)∧∀ g,g ∈ fs.map (·.1)→g ∈ (putF f v fs).map (·.1)
 | []=>⟨by simp [putF],fun g h=>by simp at h⟩
 | (k,x) :: r=>by
  obtain ⟨i1,i2⟩:=Zgv f v r
  rw [show putF f v ((k,x) :: r)=(if k=f then (k,v) :: r else (k,x) :: putF f v r) from rfl]
  by_cases hk:k=f
  ·rw [if_pos hk]
   subst hk
   exact ⟨by simp,fun g h=>by simpa using h⟩
  ·rw [if_neg hk]
   refine ⟨?_,fun g h=>?_⟩
   ·rw [List.map_cons]
    exact List.mem_cons_of_mem _ i1
   ·rw [List.map_cons] at h ⊢
    rcases (List.mem_cons.mp h) with e | e
    ·exact List.mem_cons.mpr (.inl e)
    ·exact List.mem_cons_of_mem _ (i2 g e)
theorem Zgt (f:Str) (v:V):∀ fs:List (Str × V),(putF f v fs).length ≤ fs.length + 1
 | []=>by simp [putF]
 | (k,x) :: r=>by
  have ih:=Zgt f v r
  rw [show putF f v ((k,x) :: r)=(if k=f then (k,v) :: r else (k,x) :: putF f v r) from rfl]
  by_cases hk:k=f
  ·rw [if_pos hk,List.length_cons,List.length_cons]; lia
  ·rw [if_neg hk,List.length_cons,List.length_cons]; lia
theorem RelO.some_of {v:V} {o:Option Value} (r:RelO (some v) o):∃ u,o=some u∧RelV v u:=by
 cases o with
 | none=>exact (show False from r).elim
 | some u=>exact ⟨u,rfl,r⟩
theorem RelO.none_of {o:Option Value} (r:RelO none o):o=none:=by
 cases o with
 | none=>rfl
 | some u=>exact (show False from r).elim
theorem handed_of {v:V} {u:Value} (r:RelV v u):PySem.W.handedIn u=true:=by
 cases v with
 | non=>cases (show u=Value.none from r); rfl
 | bl b=>cases (show u=Value.bool b from r); rfl
 | int i=>obtain ⟨t,e⟩:=(show ∃ t,u=Value.int i t from r); cases e; rfl
 | str x=>obtain ⟨t,e⟩:=(show ∃ t,u=Value.str x t from r); cases e; rfl
 | byt b=>obtain ⟨t,e⟩:=(show ∃ t,u=Value.bytes b t from r); cases e; rfl
 | flt b=>obtain ⟨t,e⟩:=(show ∃ t,u=Value.float b t from r); cases e; rfl
 | ref a=>cases (show u=Value.ref a from r); rfl
 | ty n=>cases (show u=Value.type n from r); rfl
section
variable {P:Program} {w:World} {H H':Hp} {h h':Heap} {a C dx:Addr} {fs fs':List (Str × V)}
theorem Zgx (hok:HOk P w H h) (e:H a=some (.ins C dx fs)):∃ mA,ObjM h a dx C mA∧(∀ f,RelO (fs.lookup f) (mA f))∧PySem.Within mA (fs.map (·.1))∧fs.length ≤ 1000∧H dx=some (.own a):=by
 obtain ⟨d,z,ne,ob,mA,n,r,q⟩:=(show ObjOk P w H h a (.ins C dx fs) from hok a _ e)
 exact ⟨mA,⟨ob,n,ne⟩,r,q,z,d⟩
end
structure Cls (K:PySem.W.Frag) (C:Addr):Prop where
 pg:PySem.W.plainGet K C Str.empty=true
 hd:PySem.W.hasDictIn K C=true
 po:PySem.W.plainOver K C=true
 sa:PySem.W.findIn K (.ref C) "__setattr__" = some (some (.builtin "object.__setattr__"))
theorem Cls.get {K:PySem.W.Frag} {C:Addr} (c:Cls K C) (f:Str):PySem.W.plainGet K C f=true:=c.pg
noncomputable def NoAttr (K:PySem.W.Frag) (C:Addr) (f:Str):Prop:=PySem.W.findIn K (.ref C) f=some none
theorem NoAttr.taker {K:PySem.W.Frag} {C:Addr} {f:Str} (n:NoAttr K C f):PySem.W.takerIn K C f=some none:=by
 unfold PySem.W.takerIn
 rw [show PySem.W.findIn K (.ref C) f=some none from n]
 rfl
structure Meth (K:PySem.W.Frag) (C:Addr) (m:Str) (f:Addr):Prop where
 at_:PySem.W.findIn K (.ref C) m=some (some (.ref f))
 fn:PySem.W.isFn K (.ref f)=true
 kp:PySem.W.keepIn K (.ref f)=true
section
variable {X:Cx} {pins:List (Addr × Obj)} {σ:St} {H:Hp} {s:Shared} {a C dx:Addr} {fs:List (Str × V)} {f:Str} {v:V} {A:Around} {E:Value→Shared→Prop}
theorem getattr_ok {b:Bool} {Q:Value→Shared→Prop} (I:Inv X pins σ H s) (e:H a=some (.ins C dx fs)) (c:Cls X.K C) (n:NoAttr X.K C f) (l:fs.lookup f=some v)
  (h:∀ u s',Inv X pins σ H s'→RelV v u→Q u s'):wpAny (model X.prog X.w) A (getAttr (.ref a) f b) Q E s:=by
 obtain ⟨mA,O,r,_,_,_⟩:=Zgx I.hok e
 obtain ⟨u,hu,ru⟩:=RelO.some_of (v:=v) (o:=mA f) (by rw [← l]; exact r f)
 exact get_map I.kIn O (c.get f) c.hd n hu (handed_of ru) (h u _ (I.tok _) ru)
theorem Zej {m:Str} {g:Addr} {pl:Sem Bool} {Q:Value × List Value→Shared→Prop} (I:Inv X pins σ H s) (e:H a=some (.ins C dx fs)) (c:Cls X.K C) (k:Meth X.K C m g) (l:fs.lookup m=none)
  (h:Q (.ref g,[.ref a]) s):wpAny (model X.prog X.w) A (getMethod (.ref a) m pl) Q E s:=by
 obtain ⟨mA,O,r,_,_,_⟩:=Zgx I.hok e
 have hn:mA m=none:=RelO.none_of (by rw [← l]; exact r m)
 exact get_meth I.kIn O (c.get m) k.at_ k.fn hn h
theorem setattr_ok {y:V} {u:Value} {Q:Unit→Shared→Prop} (I:Inv X pins σ H s) (e:H a=some (.ins C dx fs)) (c:Cls X.K C) (n:NoAttr X.K C f) (hl:fs.length < 1000) (ry:RelV y u)
  (h:∀ s',Inv X pins σ (upd H a (.ins C dx (putF f y fs))) s'→Q () s'):wpAny (model X.prog X.w) A (setAttr (.ref a) f u) Q E s:=by
 obtain ⟨mA,O,r,wi,_,ho⟩:=Zgx I.hok e
 have hz:(fs.map (·.1)).length ≤ sizeLine:=by rw [List.length_map,sizeLine_eq]; lia
 refine set_map I.kIn O c.sa c.po n.taker c.hd wi hz fun h' O' sb=>h _ ?_
 have hd:∃ o,h'.get? dx=some o:=let ⟨o,_,_,e',_⟩:=O'.ns; ⟨o,e'⟩
 refine I.write (x:=a) (e:=dx) (by rw [e]; exact True.intro) (.inr ho) (fun b q hb z=>(sb.2 b hb).trans z) hd ?_
 refine ⟨by rw [Zak O.ne]; exact ho,?_,O.ne,O'.obj,_,O'.ns,fun g=>?_,fun g hg=>?_⟩
 ·have:=Zgt f y fs; lia
 ·show RelO ((putF f y fs).lookup g) (if g=f then some u else mA g)
  rw [Zao]
  by_cases q:g=f
  ·rw [if_pos q,if_pos q]; exact ry
  ·rw [if_neg q,if_neg q]; exact r g
 ·by_cases q:g=f
  ·rw [q]; exact (Zgv f y fs).1
  ·refine (Zgv f y fs).2 g (wi g fun z=>hg ?_)
   show (if g=f then some u else mA g)=none
   rw [if_neg q]; exact z
theorem Inv.made (I:Inv X pins σ H s):Inv X pins σ (upd (upd H s.heap.objs.size (.own (s.heap.objs.size + 1))) (s.heap.objs.size + 1) (.ins C s.heap.objs.size []))
  { s with heap:=(s.heap.push PySem.W.emptyDict).push (PySem.W.instObj C s.heap.objs.size) }:=by
 have e1:(s.heap.push PySem.W.emptyDict).get? s.heap.objs.size=some PySem.W.emptyDict:=Heap.get?_push_size s.heap rfl
 have e2:((s.heap.push PySem.W.emptyDict).push (PySem.W.instObj C s.heap.objs.size)).get? (s.heap.objs.size + 1)=some (PySem.W.instObj C s.heap.objs.size):=by
  have:=Heap.get?_push_size (s.heap.push PySem.W.emptyDict) (o:=PySem.W.instObj C s.heap.objs.size) rfl
  rwa [Heap.size_push] at this
 have e3:(s.heap.push PySem.W.emptyDict).Ns s.heap.objs.size (fun _=>none):=⟨PySem.W.emptyDict,#[],_,e1,rfl,(fun e he=>absurd he (by simp)),fun _=>rfl⟩
 have I1:=I.laid (a:=s.heap.objs.size) (o:=.own (s.heap.objs.size + 1)) (h':=s.heap.push PySem.W.emptyDict) (t':=s.toks) (fun b u q=>Heap.get?_push_of_some _ q) (Nat.le_refl _) ⟨_,e1⟩
 refine I1.laid (a:=s.heap.objs.size + 1) (o:=.ins C s.heap.objs.size []) (t':=s.toks) (fun b u q=>Heap.get?_push_of_some _ q) (Nat.le_of_eq (Heap.size_push _ _)) ?_
 have ne:s.heap.objs.size ≠ s.heap.objs.size + 1:=Nat.ne_of_lt (Nat.lt_succ_self _)
 refine ⟨by rw [Zak ne,Zac],Nat.zero_le _,ne,e2,fun _=>none,(Heap.Ns1.of_empty e3).at fun o q=>Heap.get?_push_of_some _ q,fun _=>True.intro,fun y hy=>absurd rfl hy⟩
theorem attr_of {prog:Program} {w:World} {env:Env} {e:Expr} {f:Str} {pos:Pos} {s:Shared} {Q:Value→Shared→Prop} (hb:attributeBase e f env (eval e env)=eval e env)
  (h:wpAny (model prog w) A (eval e env) (fun o s₁=>wpAny (model prog w) A (getAttr o f true) Q E s₁) E s):wpAny (model prog w) A (eval (.Attribute e f pos) env) Q E s:=
 Attribute_any_ h (by rw [arm_eval_Attribute,hb])
end
inductive hasF (K:PySem.W.Frag) (f:Str) (Q:VK) (x:V) (H1:Hp):Prop
 | mk (a:_) (C:_) (dx:_) (fs:_) (v:_) (c0:x=.ref a) (c1:H1 a=some (.ins C dx fs)) (c2:Cls K C) (c3:NoAttr K C f) (c4:fs.lookup f=some v) (c5:Q v H1):hasF K f Q x H1
noncomputable def tFld (K:PySem.W.Frag) (ta:TE) (f:Str):TE:=fun σ H Q=>ta σ H fun x H1=>hasF K f Q x H1
noncomputable def sFld (K:PySem.W.Frag) (ta tv:TE) (f:Str):TS:=fun D σ H=>tv σ H fun y H1=>ta σ H1 fun x H2=>∃ a C dx fs,x=.ref a∧H2 a=some (.ins C dx fs)∧Cls K C∧NoAttr K C f∧fs.length < 1000 ∧
 D.nx σ (upd H2 a (.ins C dx (putF f y fs)))
section
variable {X:Cx} {o e value:Expr} {f:Str} {pos pos' tpos:Pos} {ta tv:TE}
theorem Zcd (he:PE X e ta) (hb:attributeBase e f X.env (eval e X.env)=eval e X.env):PE X (.Attribute e f pos) (tFld X.K ta f):=by
 intro pins s σ H Q I h
 refine attr_of hb (thn (he pins s σ H _ I h) fun u s1 hp0=>?_)
 obtain ⟨x,H1,I1,rx,a,C,dx,fs,v,ex,ea,c,n,l,q⟩:=hp0
 subst ex
 obtain rfl:u=Value.ref a:=rx
 exact getattr_ok I1 ea c n l fun u' s2 I2 ru=>⟨v,H1,I2,ru,q⟩
theorem Zet (ha:PE X o ta) (hv:PE X value tv) (hs:swapsWith value (some (.Attribute o f pos')) pos.line X.env=pure false):PS X (.Assign [.Attribute o f pos'] value pos) (sFld X.K ta tv f):=by
 intro pins s σ H D I h
 refine plainObj_wpAny_Assign_Attribute (thn (hv pins s σ H _ I h) fun u s1 hp0=>?_) hs
 obtain ⟨y,H1,I1,ry,q⟩:=hp0
 refine thn (ha pins s1 σ H1 _ I1 q) fun ov s2 hp1=>?_
 obtain ⟨x,H2,I2,rx,a,C,dx,fs,ex,ea,c,n,l,q2⟩:=hp1
 subst ex
 obtain rfl:ov=Value.ref a:=rx
 exact setattr_ok I2 ea c n l ry fun s3 I3=>⟨σ,_,I3,q2⟩
end
end L2
namespace L2
open PySem PySem.Spec PyProof.Rows
structure Room (k:Nat) (A:Around):Prop where
 hd:A.handled=none
 dp:A.depth + 3 * k + 5 < recursionLimit
 un:A.units + 16 * k + 200 < cLine
theorem Room.mono {j k:Nat} {A:Around} (r:Room k A) (h:j ≤ k):Room j A:=⟨r.hd,by have:=r.dp; lia,by have:=r.un; lia⟩
theorem Room.deeper {k:Nat} {A:Around} (r:Room (k + 1) A) (env:Env):Room k (A.deeper env):=
 ⟨r.hd,by have:=r.dp; show A.depth + 1 + 3 * k + 5 < _; lia,by have:=r.un; show A.units + 3 + 16 * k + 200 < _; lia⟩
theorem make_depth {A:Around} {C:Addr} {us:List Value} {kw:List (Str × Value)}:(A.under (.builtin "type.__call__" ⟨.ref C :: us,kw⟩)).depth=A.depth + 1:=by
 first | rfl | simp [Around.under,Code.weight,Code.isCreation,Code.isGuard,Code.isCaller,Code.frames,Code.isFrame,guardIds]
theorem make_units {A:Around} {C:Addr} {us:List Value} {kw:List (Str × Value)}:(A.under (.builtin "type.__call__" ⟨.ref C :: us,kw⟩)).units=A.units + 1:=by
 first | rfl | simp [Around.under,Code.cUnits,Code.frames,Code.isFrame]
theorem Room.make {k:Nat} {A:Around} (r:Room (k + 1) A) (C:Addr) (us:List Value) (kw:List (Str × Value)):Room k (A.under (.builtin "type.__call__" ⟨.ref C :: us,kw⟩)):=
 ⟨r.hd,by have:=r.dp; rw [make_depth]; lia,by have:=r.un; rw [make_units]; lia⟩
theorem Room.depth {k:Nat} {A:Around} (r:Room k A):A.depth < recursionLimit:=by have:=r.dp; lia
theorem Room.units {k:Nat} {A:Around} (r:Room k A):A.units + 64 < cLine:=by have:=r.un; lia
noncomputable def tNil:TA:=fun _ H Q=>Q [] H
noncomputable def tCons (ta:TE) (tr:TA):TA:=fun σ H Q=>ta σ H fun x H1=>tr σ H1 fun xs H2=>Q (x :: xs) H2
section
variable {X:Cx} {e:Expr} {es:List Expr} {te:TE} {t:TA} {pos:Pos}
theorem Zad:PA X [] tNil:=fun _ _ _ _ H Q I h=>Calls.spliced_nil ⟨[],H,I,.nil,h⟩
theorem Zaa (ha:PE X e te) (hr:PA X es t) (hs:starEach (e :: es) X.env=(false,eval e X.env) :: starEach es X.env:=by rfl):PA X (e :: es) (tCons te t):=by
 intro pos pins s σ H Q I h
 rw [hs]
 show wpAny _ _ (spliced ((false,eval e X.env) :: backTo pos (starEach es X.env))) _ _ s
 refine Calls.spliced_cons (thn (ha pins s σ H _ I h) fun u s1 hp0=>?_)
 obtain ⟨x,H1,I1,r1,q1⟩:=hp0
 exact thn (hr pos pins s1 σ H1 _ I1 q1) fun us s2 hp0=>by obtain ⟨xs,H2,I2,r2,q2⟩:=hp0; exact ⟨x :: xs,H2,I2,.cons r1 r2,q2⟩
noncomputable def tTup (t:TA):TE:=fun σ H Q=>t σ H fun xs H1=>xs.length ≤ sizeLine∧∀ p,H1 p=none→Q (.ref p) (upd H1 p (.tup xs))
noncomputable def tLst (t:TA):TE:=fun σ H Q=>t σ H fun xs H1=>xs.length ≤ sizeLine∧∀ p,H1 p=none→Q (.ref p) (upd H1 p (.lst xs))
theorem Zbu {x1} (h:PA X es t):PE X (.Tuple es x1 pos) (tTup t):=by
 intro pins s σ H Q I hq
 refine wpAny_Tuple_spliced (thn (h pos pins s σ H _ I hq) fun us s1 hp0=>?_)
 obtain ⟨xs,H1,I1,r,z,q⟩:=hp0
 refine ⟨by rw [← r.length]; exact z,?_⟩
 have hf:H1 s1.heap.objs.size=none:=I1.hok.fresh (Nat.le_refl _)
 refine ⟨.ref s1.heap.objs.size,upd H1 s1.heap.objs.size (.tup xs),I1.laid (t':=s1.toks) (fun b u e=>Heap.get?_push_of_some _ e) (Nat.le_refl _) ?_,rfl,q _ hf⟩
 exact ⟨z,us,r,⟨_,Heap.get?_push_size _ rfl,rfl,_,rfl⟩⟩
theorem Zc0 (h:PA X es t):PE X (.List es pos) (tLst t):=by
 intro pins s σ H Q I hq
 refine wpAny_List_spliced (thn (h pos pins s σ H _ I hq) fun us s1 hp0=>?_)
 obtain ⟨xs,H1,I1,r,z,q⟩:=hp0
 refine ⟨by rw [← r.length]; exact z,?_⟩
 have hf:H1 s1.heap.objs.size=none:=I1.hok.fresh (Nat.le_refl _)
 refine ⟨.ref s1.heap.objs.size,upd H1 s1.heap.objs.size (.lst xs),I1.laid (t':=s1.toks) (fun b u e=>Heap.get?_push_of_some _ e) (Nat.le_refl _) ?_,rfl,q _ hf⟩
 exact ⟨z,us,0,r,Heap.get?_push_size _ rfl⟩
end
noncomputable abbrev Sp:=List V→Hp→VK→XK→Prop
noncomputable abbrev CXT:=List Env→Hp→Shared→XK→Value→Shared→Prop
structure Env0 (P:Program) (w:World) (K:PySem.W.Frag) (mg:Str→Option Value) (base:Heap) (A:Around) (outer:List Env) (s:Shared) (H:Hp):Prop where
 frames:A.frames=some outer
 mod:Mod K mg base
 bs:∀ b o,base.get? b=some o→s.heap.get? b=some o∧H b=none
 bsz:base.objs.size ≤ s.heap.objs.size
 funs:s.heap.FunFrames base outer
 frf:∀ b ∈ frs outer,H b=none
 hok:HOk P w H s.heap
 bare:AllBare s.gens
noncomputable def CE (outer:List Env) (P:Program) (w:World) (H:Hp) (s:Shared) (Q:VK) (u:Value) (s':Shared):Prop:=
 ∃ v H',s'.os=s.os∧AllBare s'.gens∧Un (frs outer) [] H H' s.heap s'.heap∧HOk P w H' s'.heap∧RelV v u∧Q v H'
noncomputable def CR (CX:CXT) (outer:List Env) (P:Program) (w:World) (H:Hp) (s:Shared) (Q:VK) (E:XK) (r:Result) (s':Shared):Prop:=
 match r with
 | .ok (.ret u)=>CE outer P w H s Q u s'
 | .ok _=>False
 | .error e=>CX outer H s E e s'
structure FnOk (P:Program) (w:World) (K:PySem.W.Frag) (mg:Str→Option Value) (base:Heap) (CX:CXT) (k:Nat) (f:Addr) (fd:FuncData) (ps:List Str) (sp:Sp):Prop where
 len:∀ vs H Q E,sp vs H Q E→vs.length=ps.length
 run:∀ (A:Around) (outer:List Env) (s:Shared) (H:Hp) (args:Args) (us:List Value) (vs:List V) (Q:VK) (E:XK),Room k A→Env0 P w K mg base A outer s H→BindsTo s fd args (ps.zip us)→Vals vs us→sp vs H Q E →
  codeAny (model P w) A (.call (.ref f) args) (CR CX outer P w H s Q E) s
theorem FnOk.imp {P:Program} {w:World} {K:PySem.W.Frag} {mg:Str→Option Value} {base:Heap} {CX:CXT} {k:Nat} {f:Addr} {fd:FuncData} {ps:List Str} {sp sp':Sp} (F:FnOk P w K mg base CX k f fd ps sp)
  (h:∀ vs H Q E,sp' vs H Q E→sp vs H Q E):FnOk P w K mg base CX k f fd ps sp':=
 ⟨fun vs H Q E q=>F.len vs H Q E (h _ _ _ _ q),fun A outer s H args us vs Q E hr he hb hv hs=>F.run A outer s H args us vs Q E hr he hb hv (h _ _ _ _ hs)⟩
theorem Env0.make {P:Program} {w:World} {K:PySem.W.Frag} {mg:Str→Option Value} {base:Heap} {A:Around} {outer:List Env} {s:Shared} {H:Hp} (e:Env0 P w K mg base A outer s H) (C:Addr) (us:List Value) (kw:List (Str × Value)) :
  Env0 P w K mg base (A.under (.builtin "type.__call__" ⟨.ref C :: us,kw⟩)) outer s H:=⟨by first | exact e.frames | (simpa [Around.under,Code.envs,Code.isFrame,pushEnvs] using e.frames),e.mod,e.bs,e.bsz,e.funs,e.frf,e.hok,e.bare⟩
section
variable {X:Cx} {pins:List (Addr × Obj)} {σ:St} {H:Hp} {s s':Shared}
theorem Inv.env0 (I:Inv X pins σ H s):Env0 X.prog X.w X.K X.mg X.base X.A X.stack s H:=
 ⟨I.ok.frames,I.ok.mod,I.bs,Nat.le_trans I.ok.bsz I.sz,I.stack,I.stkFree,I.hok,I.bare⟩
theorem Inv.after {Q:VK} {u:Value} (I:Inv X pins σ H s) (h:CE X.stack X.prog X.w H s Q u s'):EP X pins σ Q u s':=by
 obtain ⟨v,H',os,bare,un,hok,r,q⟩:=h
 obtain ⟨hh,g,d,t,os'⟩:=s'
 obtain rfl:os'=s.os:=os
 exact ⟨v,H',I.call (h':=hh) (g':=g) (d':=d) (t':=t) (ch:=[]) un hok bare (fun b z=>absurd z (by simp)),r,q⟩
end
noncomputable def tCall (sp:Sp) (dvs:List V) (E:XK) (t:TA):TE:=fun σ H Q=>t σ H fun vs H1=>sp (vs ++ dvs) H1 Q E
inductive isI (C:Addr) (m:Str) (x:V) (H1:Hp) (R:Prop):Prop
 | mk (a:_) (dx:_) (fs:_) (c0:x=.ref a) (c1:H1 a=some (.ins C dx fs)) (c2:fs.lookup m=none) (c3:R):isI C m x H1 R
noncomputable def tMeth (C:Addr) (m:Str) (sp:Sp) (dvs:List V) (E:XK) (ta:TE) (t:TA):TE:=fun σ H Q=>ta σ H fun x H1=>isI C m x H1 (t σ H1 fun vs H2=>sp (x :: (vs ++ dvs)) H2 Q E)
noncomputable def tMake (C:Addr) (sp:Sp) (dvs:List V) (E:XK) (t:TA):TE:=fun σ H Q=>t σ H fun vs H1=>∀ x dx,H1 x=none→H1 dx=none→dx ≠ x →
 sp (.ref x :: (vs ++ dvs)) (upd (upd H1 dx (.own x)) x (.ins C dx [])) (fun v H2=>v=.non∧Q (.ref x) H2) E
noncomputable def Binds (K:PySem.W.Frag) (fd:FuncData) (ps:List Str) (ds:List Value):Prop:=
 ∀ (s:Shared) (us:List Value),K.In s.heap→(us ++ ds).length=ps.length→BindsTo s fd ⟨us,[]⟩ (ps.zip (us ++ ds))
theorem Binds.all {K:PySem.W.Frag} {fd:FuncData} {ps:List Str} (h:∀ us:List Value,us.length=ps.length→bindArgs fd ⟨us,[]⟩=pure (ps.zip us)):Binds K fd ps []:=fun s us _ hl=>by
 rw [List.append_nil] at hl ⊢
 exact .of_eq (h us hl)
noncomputable def Zc7 (CX:CXT) (X:Cx) (E:XK):Prop:=∀ (pins:List (Addr × Obj)) (σ:St) (H:Hp) (s:Shared) (e:Value) (s':Shared),Inv X pins σ H s→CX X.stack H s E e s'→X.xe e s'
section
variable {X:Cx} {CX:CXT} {k:Nat} {f C:Addr} {fd:FuncData} {ps:List Str} {sp:Sp} {dvs:List V} {ds:List Value} {E:XK} {x m:Str} {p pos apos:Pos} {e o:Expr} {es:List Expr} {ta:TE} {t:TA}
theorem Zih {pins:List (Addr × Obj)} {σ:St} {H:Hp} {s:Shared} {Q:VK} {us:List Value} {vs:List V} (F:FnOk X.prog X.w X.K X.mg X.base CX k f fd ps sp) (hr:Room k X.A) (hb:Binds X.K fd ps ds) (hd:Vals dvs ds) (hx:Zc7 CX X E)
  (I:Inv X pins σ H s) (r:Vals vs us) (h:sp (vs ++ dvs) H Q E):wpAny (model X.prog X.w) X.A (call (.ref f) us) (EP X pins σ Q) X.xe s:=by
 have r2:Vals (vs ++ dvs) (us ++ ds):=r.append hd
 have hl:(us ++ ds).length=ps.length:=by rw [← r2.length]; exact F.len _ _ _ _ h
 refine wpAny_call (codeAny_mono (F.run X.A X.stack s H ⟨us,[]⟩ (us ++ ds) (vs ++ dvs) Q E hr I.env0 (hb s us I.kIn hl) r2 h) fun r s' hq=>?_)
 cases r with
 | error e=>exact hx pins σ H s e s' I hq
 | ok fl=>
  cases fl with
  | ret u=>exact I.after hq
  | next=>exact False.elim hq
  | brk=>exact False.elim hq
  | cont=>exact False.elim hq
theorem Zaj (F:FnOk X.prog X.w X.K X.mg X.base CX k f fd ps sp) (hr:Room k X.A) (hg:Gl X x) (hm:X.mg x=some (.ref f)) (hk:PySem.W.keepIn X.K (.ref f)=true) (hb:Binds X.K fd ps ds) (hd:Vals dvs ds) (hx:Zc7 CX X E)
  (ha:PA X (e :: es) t) (hdb:(x == ("__debug__" : Str))=false:=by decide) (he:starEach (e :: es) X.env=(false,eval e X.env) :: starEach es X.env:=by rfl) (hpl:(backTo pos (starEach es X.env)).any (·.1)=false:=by rfl) :
  PE X (.Call (.Name x p) (e :: es) [] pos) (tCall sp dvs E t):=by
 intro pins s σ H Q I h
 refine wpAny_Call_Name_kw (Zfv I hg hm ?_ hdb)
 refine PySem.W.callWith_K (h₀:=X.base) I.ok.mod.kin hk (thn (ha pos pins s σ H _ I h) fun us s1 hp0=>?_) he hpl
 obtain ⟨vs,H1,I1,r,q⟩:=hp0
 refine ⟨I1.kIn,?_⟩
 exact Zih F hr hb hd hx I1 r q
theorem Zgg {pl:Sem Bool} (he:PE X o ta) (c:Cls X.K C) (hm:Meth X.K C m f) (F:FnOk X.prog X.w X.K X.mg X.base CX k f fd ps sp) (hr:Room k X.A) (hb:Binds X.K fd ps ds) (hd:Vals dvs ds) (hx:Zc7 CX X E) (ha:PA X (e :: es) t)
  (hst:starEach (e :: es) X.env=(false,eval e X.env) :: starEach es X.env:=by rfl) (hpl:(backTo pos (starEach es X.env)).any (·.1)=false:=by rfl)
  (ht:eval (.Call (.Attribute o m apos) (e :: es) [] pos) X.env=(do
   let ov ← eval o X.env
   standAt apos.atName
   let (f,first) ← holding [ov] (getMethod ov m pl)
   callWith pos f first (backTo pos (starEach (e :: es) X.env)) (backToKw pos (keywordEach [] X.env))):=by rfl) :
  PE X (.Call (.Attribute o m apos) (e :: es) [] pos) (tMeth C m sp dvs E ta t):=by
 intro pins s σ H Q I h
 refine PySem.W.methodCall_KW (pl:=pl) (thn (he pins s σ H _ I h) fun u s1 hp0=>?_) ht
 obtain ⟨x,H1,I1,rx,a,dx,fs,ex,ea,l,q⟩:=hp0
 subst ex
 obtain rfl:u=Value.ref a:=rx
 refine Zej I1 ea c hm l ?_
 refine PySem.W.callWith_K (first:=[.ref a]) (h₀:=X.base) I.ok.mod.kin hm.kp (thn (ha pos pins s1 σ H1 _ I1 q) fun us s2 hp0=>?_) hst hpl
 obtain ⟨vs,H2,I2,r,q2⟩:=hp0
 refine ⟨I2.kIn,?_⟩
 exact Zih (us:=.ref a :: us) (vs:=.ref a :: vs) F hr hb hd hx I2 (.cons rfl r) q2
theorem pe_meth0 {pl:Sem Bool} (he:PE X o ta) (c:Cls X.K C) (hm:Meth X.K C m f) (F:FnOk X.prog X.w X.K X.mg X.base CX k f fd ps sp) (hr:Room k X.A) (hb:Binds X.K fd ps ds) (hd:Vals dvs ds) (hx:Zc7 CX X E)
  (ht:eval (.Call (.Attribute o m apos) [] [] pos) X.env=(do
   let ov ← eval o X.env
   standAt apos.atName
   let (f,first) ← holding [ov] (getMethod ov m pl)
   callWith pos f first (backTo pos (starEach [] X.env)) (backToKw pos (keywordEach [] X.env))):=by rfl) :
  PE X (.Call (.Attribute o m apos) [] [] pos) (tMeth C m sp dvs E ta tNil):=by
 intro pins s σ H Q I h
 refine PySem.W.methodCall_KW (pl:=pl) (thn (he pins s σ H _ I h) fun u s1 hp0=>?_) ht
 obtain ⟨x,H1,I1,rx,a,dx,fs,ex,ea,l,q⟩:=hp0
 subst ex
 obtain rfl:u=Value.ref a:=rx
 refine Zej I1 ea c hm l ?_
 exact PySem.W.callWith_K0 (first:=[.ref a]) I1.kIn hm.kp (Zih (us:=[.ref a]) (vs:=[.ref a]) F hr hb hd hx I1 (.cons rfl .nil) q)
structure Mk (K:PySem.W.Frag) (C f:Addr):Prop where
 makes:PySem.W.makesIn K C=true
 init:PySem.W.findIn K (.ref C) "__init__" = some (some (.ref f))
 fn:PySem.W.isFn K (.ref f)=true
 kp:PySem.W.keepIn K (.ref C)=true
theorem run_make {pins:List (Addr × Obj)} {σ:St} {H:Hp} {s:Shared} {Q:VK} {us:List Value} {vs:List V} (M:Mk X.K C f) (F:FnOk X.prog X.w X.K X.mg X.base CX k f fd ps sp) (hr:Room (k + 1) X.A) (hb:Binds X.K fd ps ds) (hd:Vals dvs ds)
  (hx:Zc7 CX X E) (I:Inv X pins σ H s) (r:Vals vs us)
  (h:∀ x dx,H x=none→H dx=none→dx ≠ x→sp (.ref x :: (vs ++ dvs)) (upd (upd H dx (.own x)) x (.ins C dx [])) (fun v H2=>v=.non∧Q (.ref x) H2) E) :
  wpAny (model X.prog X.w) X.A (call (.ref C) us) (EP X pins σ Q) X.xe s:=by
 have hq:=h (s.heap.objs.size + 1) s.heap.objs.size (I.hok.fresh (Nat.le_succ _)) (I.hok.fresh (Nat.le_refl _)) (Nat.ne_of_lt (Nat.lt_succ_self _))
 have I2:=Inv.made (C:=C) I
 have r2:Vals (V.ref (s.heap.objs.size + 1) :: (vs ++ dvs)) (Value.ref (s.heap.objs.size + 1) :: (us ++ ds)):=.cons rfl (r.append hd)
 have hl:(Value.ref (s.heap.objs.size + 1) :: us ++ ds).length=ps.length:=by
  have e:=r2.length
  rw [F.len _ _ _ _ hq] at e
  exact e.symm
 refine wpAny_call (make_map (f:=f) I.kIn M.makes M.init (beq_iff_eq.mp M.fn) (codeAny_mono (F.run _ X.stack _ _ ⟨Value.ref (s.heap.objs.size + 1) :: us,[]⟩ (Value.ref (s.heap.objs.size + 1) :: (us ++ ds)) _ _ E (hr.make C us [])
  (I2.env0.make C us []) (hb _ (Value.ref (s.heap.objs.size + 1) :: us) I2.kIn hl) r2 hq) fun r s' hq'=>?_))
 cases r with
 | error e=>exact hx pins σ _ _ e s' I2 hq'
 | ok fl=>
  cases fl with
  | ret u=>
   obtain ⟨v,H',I3,rv,ev,q3⟩:=I2.after hq'
   subst ev
   exact ⟨rv,⟨V.ref (s.heap.objs.size + 1),H',I3,rfl,q3⟩⟩
  | next=>exact False.elim hq'
  | brk=>exact False.elim hq'
  | cont=>exact False.elim hq'
theorem Zhr (M:Mk X.K C f) (F:FnOk X.prog X.w X.K X.mg X.base CX k f fd ps sp) (hr:Room (k + 1) X.A) (hg:Gl X x) (hm:X.mg x=some (.ref C)) (hb:Binds X.K fd ps ds) (hd:Vals dvs ds) (hx:Zc7 CX X E)
  (ha:PA X (e :: es) t) (hdb:(x == ("__debug__" : Str))=false:=by decide) (he:starEach (e :: es) X.env=(false,eval e X.env) :: starEach es X.env:=by rfl) (hpl:(backTo pos (starEach es X.env)).any (·.1)=false:=by rfl) :
  PE X (.Call (.Name x p) (e :: es) [] pos) (tMake C sp dvs E t):=by
 intro pins s σ H Q I h
 refine wpAny_Call_Name_kw (Zfv I hg hm ?_ hdb)
 refine PySem.W.callWith_K (h₀:=X.base) I.ok.mod.kin M.kp (thn (ha pos pins s σ H _ I h) fun us s1 hp0=>?_) he hpl
 obtain ⟨vs,H1,I1,r,q⟩:=hp0
 refine ⟨I1.kIn,?_⟩
 exact run_make M F hr hb hd hx I1 r q
end
structure FnScope (N P:List Str) (sc:Scope):Prop where
 kind:sc.kind=.function
 co:sc.isCoroutine=false
 gen:sc.isGenerator=false
 nd:N.Nodup
 pre:N.take P.length=P
 par:∀ x ∈ P,sc.names.lookup x=some .local ∨ sc.names.lookup x=some .cell
 nofree:∀ y ∈ sc.names,y.2 ≠ .free
theorem Zi8 {kindOf:Str→Option NameKind} {x:Str}:∀ {binds:List (Str × Value)} {m:Str→Option Value},(∀ v,(x,v) ∉ binds)→bindL kindOf binds m x=m x
 | [],_,_=>rfl
 | (n,v) :: r,m,h=>by
  unfold bindL
  rw [Zi8 fun w hw=>h w (List.mem_cons_of_mem _ hw)]
  split
  ·have:x ≠ n:=by rintro rfl; exact h v List.mem_cons_self
   simp [this]
  ·rfl
theorem Zja {kindOf:Str→Option NameKind} {x:Str}:∀ {binds:List (Str × Value)} {m:Str→Option Value},(∀ v,(x,v) ∉ binds)→bindC kindOf binds m x=m x
 | [],_,_=>rfl
 | (n,v) :: r,m,h=>by
  unfold bindC
  rw [Zja fun w hw=>h w (List.mem_cons_of_mem _ hw)]
  split
  ·rfl
  ·have:x ≠ n:=by rintro rfl; exact h v List.mem_cons_self
   simp [this]
theorem Zi9 {kindOf:Str→Option NameKind} {x:Str} {v:Value}:∀ {P:List Str} {vs:List Value} {i:Nat} {m:Str→Option Value},P.Nodup→P[i]? = some x→vs[i]? = some v→kindOf x=some .local →
  bindL kindOf (P.zip vs) m x=some v
 | [],_,_,_,_,h,_,_=>by simp at h
 | _ :: _,[],_,_,_,_,h,_=>by simp at h
 | p :: P,w :: vs,0,m,nd,h1,h2,hk=>by
  simp at h1 h2; subst h1; subst h2
  show bindL kindOf ((p,w) :: P.zip vs) m p=_
  unfold bindL
  rw [Zi8 fun v hv=>(List.nodup_cons.mp nd).1 (List.of_mem_zip hv).1,if_pos hk]
  simp
 | p :: P,w :: vs,i + 1,m,nd,h1,h2,hk=>by
  show bindL kindOf ((p,w) :: P.zip vs) m x=_
  unfold bindL
  exact Zi9 (i:=i) (List.nodup_cons.mp nd).2 (by simpa using h1) (by simpa using h2) hk
theorem Zjb {kindOf:Str→Option NameKind} {x:Str} {v:Value}:∀ {P:List Str} {vs:List Value} {i:Nat} {m:Str→Option Value},P.Nodup→P[i]? = some x→vs[i]? = some v→kindOf x ≠ some .local →
  bindC kindOf (P.zip vs) m x=some v
 | [],_,_,_,_,h,_,_=>by simp at h
 | _ :: _,[],_,_,_,_,h,_=>by simp at h
 | p :: P,w :: vs,0,m,nd,h1,h2,hk=>by
  simp at h1 h2; subst h1; subst h2
  show bindC kindOf ((p,w) :: P.zip vs) m p=_
  unfold bindC
  rw [Zja fun v hv=>(List.nodup_cons.mp nd).1 (List.of_mem_zip hv).1,if_neg hk]
  simp
 | p :: P,w :: vs,i + 1,m,nd,h1,h2,hk=>by
  show bindC kindOf ((p,w) :: P.zip vs) m x=_
  unfold bindC
  exact Zjb (i:=i) (List.nodup_cons.mp nd).2 (by simpa using h1) (by simpa using h2) hk
noncomputable def Zhh (N:List Str) (vs:List V):St:=vs.map some ++ List.replicate (N.length - vs.length) none
noncomputable def cxOf (CX:CXT) (P:Program) (w:World) (K:PySem.W.Frag) (mg:Str→Option Value) (base:Heap) (N:List Str) (qual:Str) (scope:Scope) (f:Addr) (cd:Value) (A:Around) (outer:List Env) (s:Shared) (H:Hp) (E:XK):Cx where
 prog:=P
 w:=w
 K:=K
 mg:=mg
 base:=base
 A:=A.deeper (envOfC qual scope s.heap.objs.size f cd)
 N:=N
 s₀:=s
 H₀:=H
 env:=envOfC qual scope s.heap.objs.size f cd
 outer:=outer
 stack:=envOfC qual scope s.heap.objs.size f cd :: outer
 ex:=[]
 calm:=true
 fn:=fun _=>true
 pn:=[]
 xe:=fun e s'=>wpAny (model P w) (A.deeper (envOfC qual scope s.heap.objs.size f cd)) (leaving (envOfC qual scope s.heap.objs.size f cd) e) (fun _ s''=>CX outer H s E e s'') (fun e' s''=>CX outer H s E e' s'') s'
theorem Zkk {sc:Scope} {n:Nat} {x:Str} (h:sc.names.lookup x=some .cell):∃ c,(cellsFrom n sc.names []).lookup x=some c:=by
 have q:=PySem.W.cellsFrom_some sc.names n [] (.inl h)
 exact Option.isSome_iff_exists.mp q
theorem inv_start {CX:CXT} {P:Program} {w:World} {K:PySem.W.Frag} {mg:Str→Option Value} {base:Heap} {N ps:List Str} {qual:Str} {scope:Scope} {f:Addr} {cd:Value} {A:Around} {outer:List Env} {s s1:Shared} {H:Hp} {E:XK} {us:List Value} {vs:List V}
  (S:FnScope N ps scope) (hd:A.handled=none) (e0:Env0 P w K mg base A outer s H) (hl:vs.length=ps.length) (r:Vals vs us)
  (x:InCallC s s.heap.objs.size (bindL (envOfC qual scope s.heap.objs.size f cd).kindOf (ps.zip us) fun _=>none) (cellsFrom (s.heap.objs.size + 1) scope.names []) (bindC (envOfC qual scope s.heap.objs.size f cd).kindOf (ps.zip us) fun _=>none) s1) :
  Inv (cxOf CX P w K mg base N qual scope f cd A outer s H E) [] (Zhh N vs) H s1:=by
 have hpl:ps.length ≤ N.length:=by have:=congrArg List.length S.pre; rw [List.length_take] at this; lia
 obtain ⟨h1,tk,rfl,hk⟩:=x.done
 have noA:∀ b:Addr,b ∉ (cxOf CX P w K mg base N qual scope f cd A outer s H E).ex:=fun b z=>absurd (show b ∈ ([]:List Addr) from z) (by simp)
 refine ⟨⟨e0.mod,S.kind,rfl,rfl,Nat.le_refl _,fun y z c h1 h2=>?_,fun y hy=>?_,fun y c _ h=>?_,fun _=>hd,Around.frames_deeper e0.frames,.inr ⟨rfl,rfl⟩,fun b z=>absurd z (noA b),e0.bs,e0.bsz,fun b _ _=>noA b,fun b z=>absurd z (noA b),e0.funs,e0.frf⟩,
  rfl,e0.bare,Un.kept hk,⟨_,x.toInCall.ns,fun i y v h1 h2 h3=>?_⟩,fun y c h=>⟨_,x.cell y c h⟩,e0.hok.fresh (Nat.le_refl _),fun y c h=>?_,fun p hp=>absurd (show p ∈ ([]:List (Addr × Obj)) from hp) (by simp),e0.hok.kept hk,?_⟩
 ·exact name_of_addr x.apart (PySem.mem_of_lookup h1) (PySem.mem_of_lookup h2)
 ·have hy:scope.names.lookup y=some .cell ∨ scope.names.lookup y=some .free:=hy
  rcases hy with hy | hy
  ·exact Zkk hy
  ·exact absurd rfl (S.nofree _ (PySem.mem_of_lookup hy))
 ·exact Nat.le_of_lt (x.above y c (PySem.mem_of_lookup h))
 ·have hi:i < vs.length:=by
   unfold Zhh at h2
   by_cases hi:i < vs.length
   ·exact hi
   ·rw [List.getElem?_append_right (by simpa using hi)] at h2
    rw [List.getElem?_replicate] at h2
    split at h2 <;> cases h2
  have ha:vs[i]? = some v:=by
   unfold Zhh at h2
   rw [List.getElem?_append_left (by simpa using hi),List.getElem?_map] at h2
   cases e:vs[i]? with
   | none=>rw [e] at h2; cases h2
   | some a=>rw [e] at h2; cases h2; rfl
  obtain ⟨u,hu,rv⟩:=r.get ha
  have hp:ps[i]? = some y:=by
   rw [← S.pre,List.getElem?_take_of_lt (by lia)]; exact h1
  have ndP:ps.Nodup:=by rw [← S.pre]; exact S.nd.sublist (List.take_sublist _ _)
  refine ⟨u,rv,?_⟩
  rcases S.par y (List.mem_of_getElem? hp) with k | k
  ·exact .inl ⟨k,Zi9 ndP hp hu k⟩
  ·obtain ⟨c,e⟩:=Zkk (n:=s.heap.objs.size + 1) k
   refine .inr ⟨.inl k,c,e,?_⟩
   have q:=x.cell y c e
   rw [Zjb ndP hp hu (by show scope.names.lookup y ≠ _; rw [k]; decide)] at q
   exact q
 ·exact e0.hok.fresh (Nat.le_of_lt (x.above y c (PySem.mem_of_lookup h)))
 ·unfold Zhh
  show _=N.length
  rw [List.length_append,List.length_map,List.length_replicate]
  lia
theorem fn_of {CX:CXT} {P:Program} {w:World} {K:PySem.W.Frag} {mg:Str→Option Value} {base:Heap} {k:Nat} {f:Addr} {name qual:Str} {params:Arguments} {body:List Stmt} {scope:Scope} {dV kV doc pm cdv ct oc:Value} {an od:Option Addr}
  {osl:Array (Option Value)} {N ps:List Str} {sp:Sp} (lk:K.lookup f=some ⟨oc,od,.func (PySem.W.fnOf name qual params body scope dV kV doc pm an cdv ct),osl⟩) (hcd:PySem.W.codeIn K cdv qual=true) (S:FnScope N ps scope)
  (len:∀ vs H Q E,sp vs H Q E→vs.length=ps.length)
  (hbody:∀ (A:Around) (outer:List Env) (s:Shared) (H:Hp) (vs:List V) (Q:VK) (E:XK),Room k (A.deeper (envOfC qual scope s.heap.objs.size f cdv))→sp vs H Q E →
   ∃ t,PSs (cxOf CX P w K mg base N qual scope f cdv A outer s H E) body t∧t { nx:=fun _ H'=>Q .non H',rt:=Q } (Zhh N vs) H) :
  FnOk P w K mg base CX (k + 1) f (PySem.W.fnOf name qual params body scope dV kV doc pm an cdv ct) ps sp:=by
 refine ⟨len,fun A outer s H args us vs Q E hr e0 hb r hsp=>?_⟩
 have hl:=len _ _ _ _ hsp
 have KX:K.In s.heap:=e0.mod.kin.keeps fun b o e=>(e0.bs b o e).1
 have lim:s.heap.NoLimit:=e0.mod.nolimit.keeps fun b o e=>(e0.bs b o e).1
 have hkind:∀ y ∈ ps.zip us,scope.names.lookup y.1=some .local ∨ (scope.names.lookup y.1=some .cell∧((cellsFrom (s.heap.objs.size + 1) scope.names []).lookup y.1).isSome=true):=fun ⟨n,v⟩ hy=>by
  rcases S.par n (List.of_mem_zip hy).1 with q | q
  ·exact .inl q
  ·exact .inr ⟨q,PySem.W.cellsFrom_some _ _ _ (.inl q)⟩
 refine codeAny_call_function hr.depth (KX _ _ lk) rfl S.co S.gen rfl (PySem.W.codeRec_of KX hcd) (hb _ _ _ _ ?_)
 refine wpAny_newFunctionEnv_cells S.kind hkind fun env he s1 x=>?_
 subst he
 refine ⟨lim.keeps x.toInCall.keep,codeAny_func ?_⟩
 obtain ⟨t,ht,hq⟩:=hbody A outer s H vs Q E (hr.deeper _) hsp
 have I:Inv (cxOf CX P w K mg base N qual scope f cdv A outer s H E) [] (Zhh N vs) H s1:=inv_start S hr.hd e0 hl r x
 refine wpAny_mono (ht [] s1 (Zhh N vs) H _ I hq) (fun fl s' hs=>?_) fun e s' hs=>hs
 have fin:∀ {σ':St} {H':Hp} {v:V} {u:Value},Inv (cxOf CX P w K mg base N qual scope f cdv A outer s H E) [] σ' H' s'→RelV v u→Q v H'→CE outer P w H s Q u s':=
  fun {σ' H' v u} J rv q=>⟨v,H',J.os,J.bare,J.base,J.hok,rv,q⟩
 cases fl with
 | ret u=>
  obtain ⟨v,σ',H',J,rv,q⟩:=hs
  exact fin J rv q
 | next=>
  obtain ⟨σ',H',J,q⟩:=hs
  exact fin (v:=V.non) (u:=Value.none) J rfl q
 | brk=>
  obtain ⟨_,_,_,q⟩:=hs
  exact False.elim q
 | cont=>
  obtain ⟨_,_,_,q⟩:=hs
  exact False.elim q
end L2
namespace L2
open PySem PySem.Spec PyProof.Rows
section
variable {X:Cx} {x:Str} {p pos:Pos} {e:Expr} {es:List Expr} {t:TA} {id T:String} {r:List V→Hp→VK→Prop}
noncomputable def tCB (r:List V→Hp→VK→Prop) (t:TA):TE:=fun σ H Q=>t σ H fun vs H1=>r vs H1 Q
theorem Zat (hc:Zdc X (.builtin id) r) (hg:Gl X x) (hm:X.mg x=none) (hv:bootBuiltins x=some (.builtin id)) (ha:PA X (e :: es) t) (hn:x ≠ "__name__" := by decide) (hdb:(x == ("__debug__" : Str))=false:=by decide)
  (he:starEach (e :: es) X.env=(false,eval e X.env) :: starEach es X.env:=by rfl) (hpl:(backTo pos (starEach es X.env)).any (·.1)=false:=by rfl):PE X (.Call (.Name x p) (e :: es) [] pos) (tCB r t):=by
 intro pins s σ H Q I h
 refine wpAny_Call_Name_kw (Zgu I hg hm hv ?_ hn hdb)
 exact PyProof.Rows.callWith_builtin1 (thn (ha pos pins s σ H _ I h) fun us s1 hp0=>by obtain ⟨vs,H1,I1,r1,q1⟩:=hp0; exact hc pins s1 σ H1 vs us Q I1 r1 q1) he hpl
theorem Za7 (hc:Zdc X (.type T) r) (hg:Gl X x) (hm:X.mg x=none) (hv:bootBuiltins x=some (.type T)) (ha:PA X (e :: es) t) (hn:x ≠ "__name__" := by decide) (hdb:(x == ("__debug__" : Str))=false:=by decide)
  (he:starEach (e :: es) X.env=(false,eval e X.env) :: starEach es X.env:=by rfl) (hpl:(backTo pos (starEach es X.env)).any (·.1)=false:=by rfl):PE X (.Call (.Name x p) (e :: es) [] pos) (tCB r t):=by
 intro pins s σ H Q I h
 refine wpAny_Call_Name_kw (Zgu I hg hm hv ?_ hn hdb)
 exact PyProof.Rows.callWith_type1 (thn (ha pos pins s σ H _ I h) fun us s1 hp0=>by obtain ⟨vs,H1,I1,r1,q1⟩:=hp0; exact hc pins s1 σ H1 vs us Q I1 r1 q1) he hpl
end
end L2
namespace HT
open PySem PyProof.Rows
section
open PySem.SeqAt
open PySem.AutoSeq1 (wpAny_loadPart')
open PySem.MeetsSeq PySem.MeetsSeq2 PySem.MeetsSeq3
end
section
variable {prog:Program} {w:World} {A:Around} {E:Value→Shared→Prop} {s:Shared}
noncomputable def sIx (n d:Nat):Option Int→Nat
 | none=>d
 | some v=>if v < 0 then (v + (n:Int)).toNat else min v.toNat n
theorem sIx_none (n d:Nat):sIx n d none=d:=rfl
end
end HT
namespace L2
open PySem PySem.Spec PyProof.Rows
noncomputable abbrev TO:=St→Hp→(Option Int→Hp→Prop)→Prop
noncomputable def PO (X:Cx) (e:Option Expr) (t:TO):Prop:=
 ∀ (pins:List (Addr × Obj)) (s:Shared) (σ:St) (H:Hp) (Q:Option Int→Hp→Prop),Inv X pins σ H s→t σ H Q →
  wpAny (model X.prog X.w) X.A (evalPart e X.env) (fun u s'=>∃ o H',Inv X pins σ H' s'∧IsPart u o∧Q o H') X.xe s
noncomputable def tNoPart:TO:=fun _ H Q=>Q none H
noncomputable def tPart (t:TE):TO:=fun σ H Q=>t σ H fun x H1=>∃ i,x=.int i∧Q (some i) H1
section
variable {X:Cx} {e:Expr} {te:TE} {lo hi:Option Expr} {tl th:TO} {pos p2:Pos}
theorem Zjg:PO X none tNoPart:=by
 intro pins s σ H Q I h
 rw [evalPart_none]
 exact wpAny_pure ⟨none,H,I,.none,h⟩
theorem Zjf (h:PE X e te):PO X (some e) (tPart te):=by
 intro pins s σ H Q I hw
 rw [evalPart_some]
 refine thn (h pins s σ H _ I hw) fun u s1 hp0=>?_
 obtain ⟨x,H1,I1,r1,q1⟩:=hp0
 obtain ⟨i,rfl,q⟩:=q1
 obtain ⟨t,rfl⟩:=r1
 exact ⟨some i,H1,I1,.int i t,q⟩
noncomputable def SlR (X:Cx) (r:V→Option Int→Option Int→Hp→VK→Prop):Prop:=
 ∀ (pins:List (Addr × Obj)) (s:Shared) (σ:St) (H:Hp) (x:V) (v vl vu:Value) (lo hi:Option Int) (sl:Addr) (Q:VK),Inv X pins σ H s→RelV x v→s.heap.IsSliceOf sl vl vu .none→IsPart vl lo→IsPart vu hi→r x lo hi H Q →
  ∃ T id,typeLookup (.type T) "__getitem__" = pure (some (.builtin id))∧s.TypeIs v T∧wpAny (model X.prog X.w) X.A (getItem v (.ref sl)) (EP X pins σ Q) X.xe s
noncomputable def tSl (r:V→Option Int→Option Int→Hp→VK→Prop) (te:TE) (tl th:TO):TE:=fun σ H Q=>te σ H fun x H1=>tl σ H1 fun l H2=>th σ H2 fun u H3=>r x l u H3 Q
theorem Zhq {r:V→Option Int→Option Int→Hp→VK→Prop} (hr:SlR X r) (he:PE X e te) (hl:PO X lo tl) (hu:PO X hi th):PE X (.Subscript e (.Slice lo hi none p2) pos) (tSl r te tl th):=by
 intro pins s σ H Q I h
 refine Subscript_ (thn (he pins s σ H _ I h) fun v s1 hp0=>?_)
 obtain ⟨x,H1,I1,r1,q1⟩:=hp0
 refine wpAny_Slice (thn (hl pins s1 σ H1 _ I1 q1) fun vl s2 hp0=>?_)
 obtain ⟨l,H2,I2,pl,q2⟩:=hp0
 refine thn (hu pins s2 σ H2 _ I2 q2) fun vu s3 hp1=>?_
 obtain ⟨u,H3,I3,pu,q3⟩:=hp1
 rw [evalPart_none]
 refine wpAny_pure ?_
 have I4:Inv X pins σ H3 { s3 with heap:=s3.heap.push { cls:=.type "slice",data:=.fields #[vl,vu,.none] } }:=I3.kept (t':=s3.toks) fun b ob q=>Heap.get?_push_of_some _ q
 obtain ⟨T,id,hT,ht,hg⟩:=hr pins { s3 with heap:=s3.heap.push { cls:=.type "slice",data:=.fields #[vl,vu,.none] } } σ H3 x v vl vu l u s3.heap.objs.size Q I4 r1 (Heap.IsSliceOf.new ..) pl pu q3
 show wpAny (model X.prog X.w) X.A (subscriptTail e (.Slice lo hi none p2) v (.ref s3.heap.objs.size)) (EP X pins σ Q) X.xe { s3 with heap:=s3.heap.push { cls:=.type "slice",data:=.fields #[vl,vu,.none] } }
 exact tail_any (ops:=[.ref s3.heap.objs.size,v]) ht hT hg (by with_unfolding_all rfl)
noncomputable def cutV (xs:List V) (lo hi:Option Int):List V:=(xs.drop (HT.sIx xs.length 0 lo)).take (HT.sIx xs.length xs.length hi - HT.sIx xs.length 0 lo)
theorem cutV_length (xs:List V) (lo hi:Option Int):(cutV xs lo hi).length ≤ xs.length:=by
 unfold cutV
 rw [List.length_take,List.length_drop]
 lia
end
end L2
namespace L2
open PySem PySem.Spec PyProof.Rows
noncomputable def ixN (n:Nat) (i:Int):Option Nat:=if 0 ≤ i then (if i < n then some i.toNat else none) else if -(n:Int) ≤ i then some (i + n).toNat else none
noncomputable def atI {α:Type} (xs:List α) (i:Int):Option α:=(ixN xs.length i).bind fun j=>xs[j]?
theorem ixN_seq {n:Nat} {i:Int} {j:Nat} (h:ixN n i=some j):seqIndex? i n=some j∧j < n∧-(n:Int) ≤ i∧i < n:=by
 unfold ixN at h
 by_cases h0:0 ≤ i
 ·rw [if_pos h0] at h
  by_cases h1:i < n
  ·rw [if_pos h1] at h
   have e:i.toNat=j:=Option.some.inj h
   exact ⟨by rw [seqIndex_of h0 h1,e],by lia,by lia,h1⟩
  ·rw [if_neg h1] at h; cases h
 ·rw [if_neg h0] at h
  by_cases h1:-(n:Int) ≤ i
  ·rw [if_pos h1] at h
   have e:(i + n).toNat=j:=Option.some.inj h
   exact ⟨by rw [seqIndex_neg (by lia) h1,e],by lia,h1,by lia⟩
  ·rw [if_neg h1] at h; cases h
theorem Zjq {α:Type} {xs:List α} {i:Int} {v:α} (h:atI xs i=some v):∃ j,seqIndex? i xs.length=some j∧xs[j]? = some v∧j < xs.length∧-(xs.length:Int) ≤ i∧i < xs.length:=by
 unfold atI at h
 cases e:ixN xs.length i with
 | none=>rw [e] at h; cases h
 | some j=>
  rw [e] at h
  obtain ⟨h1,h2,h3,h4⟩:=ixN_seq e
  exact ⟨j,h1,h,h2,h3,h4⟩
theorem Zai {α:Type} {xs:List α} {j:Nat} {v:α} (h:xs[j]? = some v):atI xs (j:Int)=some v:=by
 have hj:j < xs.length:=(List.getElem?_eq_some_iff.mp h).1
 have e:ixN xs.length (j:Int)=some j:=by
  unfold ixN
  rw [if_pos (by lia),if_pos (by lia)]; simp
 unfold atI; rw [e]; exact h
noncomputable def PlainIx (b:Expr):Prop:=∀ o i,subscripted b false o i=operate [o,i] (getItem o i)
noncomputable def IxR (X:Cx) (r:R2):Prop:=
 ∀ (value slice:Expr) (pins:List (Addr × Obj)) (s:Shared) (σ:St) (H:Hp) (x y:V) (v u:Value) (Q:VK),Inv X pins σ H s→RelV x v→RelV y u→r x y H Q →
  subscripted slice false v u=operate [v,u] (getItem v u)→wpAny (model X.prog X.w) X.A (subscriptTail value slice v u) (EP X pins σ Q) X.xe s
noncomputable def MtR (X:Cx) (id:String) (r:V→List V→Hp→VK→Prop):Prop:=
 ∀ (pins:List (Addr × Obj)) (s:Shared) (σ:St) (H:Hp) (x:V) (xs:List V) (v:Value) (us:List Value) (Q:VK),Inv X pins σ H s→RelV x v→Vals xs us→r x xs H Q →
  wpAny (model X.prog X.w) X.A (call (.builtin id) (v :: us)) (EP X pins σ Q) X.xe s
section
variable {X:Cx} {a b:Expr} {ta tb:TE} {pos:Pos}
theorem Zap {r:R2} (hr:IxR X r) (ha:PE X a ta) (hb:PE X b tb) (hs:PlainIx b):PE X (.Subscript a b pos) (tOp r ta tb):=by
 intro pins s σ H Q I h
 exact Subscript_ (binT ha hb I h fun v u s2 x y H2 I2 rx ry q=>hr a b pins s2 σ H2 x y v u Q I2 rx ry q (hs _ _))
inductive rIxL (K:PySem.W.Frag) (x:V) (y:V) (H:Hp) (Q:VK):Prop
 | mk (p:_) (xs:_) (i:_) (v:_) (c0:x=.ref p) (c1:y=.int i) (c2:SqL K H p xs) (c3:atI xs i=some v) (c4:Q v H):rIxL K x y H Q
inductive rIxT (K:PySem.W.Frag) (x:V) (y:V) (H:Hp) (Q:VK):Prop
 | mk (p:_) (xs:_) (i:_) (v:_) (c0:x=.ref p) (c1:y=.int i) (c2:SqT K H p xs) (c3:atI xs i=some v) (c4:Q v H):rIxT K x y H Q
noncomputable def rIxS:R2:=fun x y H Q=>∃ z i c,x=.str z∧y=.int i∧z.length ≤ sizeLine∧atI z.cps.toList i=some c∧Q (.str ⟨#[c]⟩) H
theorem Za4:IxR X (rIxL X.K):=by
 intro value slice pins s σ H x y v u Q I rx ry h hs
 obtain ⟨p,xs,i,z,rfl,rfl,hq,he,q⟩:=h
 cases rx
 obtain ⟨t,rfl⟩:=ry
 obtain ⟨its,r,pl,hz⟩:=I.list hq
 obtain ⟨j,h1,h2,h3,h4,h5⟩:=Zjq he
 obtain ⟨w,ew,rw'⟩:=r.get h2
 have hl:=r.length
 have hn:=Zka
 have fin:EP X pins σ Q w s:=⟨z,H,I,rw',q⟩
 by_cases h0:0 ≤ i
 ·have hj:i.toNat=j:=by
   rw [seqIndex_of h0 h5] at h1
   exact Option.some.inj h1
  exact item_listR pl.isList h0 (by lia) (by rw [hj]; simpa using ew) fin hs
 ·have hj:(i + (its.toArray.size:Int)).toNat=j:=by
   rw [seqIndex_neg (by lia) h4] at h1
   rw [List.size_toArray,← hl]
   exact Option.some.inj h1
  exact subscriptTail_builtinR (x:=w) pl.isList.typeIs slot_list_getitem.lookup
   (wpAny_getItem_list_neg (Q:=fun r s'=>r=w∧EP X pins σ Q r s') pl.isList (by lia) (by rw [List.size_toArray] <;> lia) (by lia) (by rw [hj]; simpa using ew) ⟨rfl,fin⟩) hs
theorem Zar:IxR X (rIxT X.K):=by
 intro value slice pins s σ H x y v u Q I rx ry h hs
 obtain ⟨p,xs,i,z,rfl,rfl,hq,he,q⟩:=h
 cases rx
 obtain ⟨t,rfl⟩:=ry
 obtain ⟨its,r,pl,hz⟩:=I.tuple hq
 obtain ⟨j,h1,h2,h3,h4,h5⟩:=Zjq he
 obtain ⟨w,ew,rw'⟩:=r.get h2
 have hl:=r.length
 have hn:=Zka
 have fin:EP X pins σ Q w s:=⟨z,H,I,rw',q⟩
 exact subscriptTail_builtinR (x:=w) pl.typeIs slot_tuple_getitem.lookup
  (getItem_tuple (j:=j) (Q:=fun r s'=>r=w∧EP X pins σ Q r s') pl (by lia) (by lia) (by rw [List.size_toArray,← hl]; exact h1) (by simpa using ew) ⟨rfl,fin⟩) hs
theorem ix_str:IxR X rIxS:=by
 intro value slice pins s σ H x y v u Q I rx ry h hs
 obtain ⟨z,i,c,rfl,rfl,hz,he,q⟩:=h
 obtain ⟨t,rfl⟩:=rx
 obtain ⟨t',rfl⟩:=ry
 obtain ⟨j,h1,h2,h3,h4,h5⟩:=Zjq he
 have hl:z.cps.toList.length=z.length:=by simp [Str.length]
 rw [hl] at h1 h4 h5
 have hn:=Zka
 exact tail_any (typeIs_str s z t) slot_str_getitem.lookup (getItem_str (c:=c) (by
  have e1:decide (i < -(2 ^ 63:Int))=false:=decide_eq_false (by lia)
  have e2:decide (i ≥ 2 ^ 63)=false:=decide_eq_false (by lia)
  rw [e1,e2,Bool.or_false]) (by rw [h1]; simpa using h2) ⟨.str ⟨#[c]⟩,H,I.tok _,⟨_,rfl⟩,q⟩) hs
theorem slice_bounds (lo hi:Option Int) (n:Nat):(sliceBounds lo hi none n).1=((HT.sIx n 0 lo:Nat):Int)∧(sliceBounds lo hi none n).2.1=((HT.sIx n n hi:Nat):Int)∧(sliceBounds lo hi none n).2.2=1:=by
 refine ⟨?_,?_,rfl⟩
 ·cases lo with
  | none=>simp [sliceBounds,HT.sIx]
  | some i=>
   simp only [sliceBounds,HT.sIx,Option.getD_none,show (1:Int) > 0 by decide,if_true]
   by_cases h:i < 0
   ·simp only [h,if_true] <;> lia
   ·simp only [h,if_false] <;> lia
 ·cases hi with
  | none=>simp [sliceBounds,HT.sIx]
  | some i=>
   simp only [sliceBounds,HT.sIx,Option.getD_none,show (1:Int) > 0 by decide,if_true]
   by_cases h:i < 0
   ·simp only [h,if_true] <;> lia
   ·simp only [h,if_false] <;> lia
theorem slicePick_cut (its:List Value) (lo hi:Option Int):slicePick its.toArray lo hi none=((its.drop (HT.sIx its.length 0 lo)).take (HT.sIx its.length its.length hi - HT.sIx its.length 0 lo)).toArray:=by
 obtain ⟨h1,h2,h3⟩:=slice_bounds lo hi its.toArray.size
 unfold slicePick
 rw [h1,h2,h3]
 simp only [sliceRange_one,pick_run,List.size_toArray] <;> rfl
noncomputable def rSlL (K:PySem.W.Frag):V→Option Int→Option Int→Hp→VK→Prop:=fun x lo hi H Q=>∃ a xs,x=.ref a∧SqL K H a xs∧∀ p,H p=none→Q (.ref p) (upd H p (.lst (cutV xs lo hi)))
theorem sl_list:SlR X (rSlL X.K):=by
 intro pins s σ H x v vl vu lo hi sl Q I rx hs pl pu h
 obtain ⟨a,xs,rfl,hx,q⟩:=h
 cases rx
 obtain ⟨its,r,ht,hz⟩:=I.list hx
 have hlen:=r.length
 refine ⟨"list",_,slot_list_getitem.lookup,ht.isList.typeIs,?_⟩
 refine wpAny_getItem_list_slice ht.isList hs pl pu .none (by simp) ?_ (by rw [List.size_toArray] <;> lia)
 rw [slicePick_cut,← hlen]
 refine ⟨.ref s.heap.objs.size,_,I.laid (t':=s.toks) (o:=.lst (cutV xs lo hi)) (fun b ob q=>Heap.get?_push_of_some _ q) (Nat.le_refl _) ?_,rfl,q _ (I.hok.fresh (Nat.le_refl _))⟩
 exact ⟨Nat.le_trans (cutV_length xs lo hi) hz,_,0,(r.drop (HT.sIx xs.length 0 lo)).take (HT.sIx xs.length xs.length hi - HT.sIx xs.length 0 lo),Heap.get?_push_size _ rfl⟩
theorem Zcf:Zdc X (.type "list") (fun xs H Q=>∃ p ys,xs=[.ref p]∧(SqL X.K H p ys ∨ SqT X.K H p ys)∧∀ l,H l=none→Q (.ref l) (upd H l (.lst ys))):=by
 intro pins s σ H xs us Q I r h
 obtain ⟨p,ys,rfl,hq,q⟩:=h
 obtain ⟨u,rfl,rx⟩:=Ze1 r
 cases rx
 have fin:∀ (its:List Value),Vals ys its→ys.length ≤ sizeLine→∀ (h':Heap) (c':Nat),(∀ b o',s.heap.get? b=some o'→h'.get? b=some o') →
   h'.get? s.heap.objs.size=some { cls:=.type "list",dict:=none,data:=.seq its.toArray c',slots:=#[] }→EP X pins σ Q (.ref s.heap.objs.size) { s with heap:=h' }:=fun its r' hz h' c' kp e=>
  ⟨.ref s.heap.objs.size,_,I.laid (t':=s.toks) kp (Nat.le_refl _) (show ObjOk X.prog X.w _ h' _ (.lst ys) from ⟨hz,its,c',r',e⟩),rfl,q _ (I.hok.fresh (Nat.le_refl _))⟩
 rcases hq with hq | hq
 ·obtain ⟨its,r',pl,hz⟩:=I.list hq
  have hlen:=r'.length
  obtain ⟨o,ho,hc,n,hd⟩:=pl.isList
  exact call_list_seq p (.inl rfl) ho hc hd (fun h' c' kp e=>fin its r' hz h' c' kp e) (by simp only [List.size_toArray] <;> lia)
 ·obtain ⟨its,r',pl,hz⟩:=I.tuple hq
  have hlen:=r'.length
  obtain ⟨o,ho,hc,n,hd⟩:=pl
  exact call_list_seq p (.inr rfl) ho hc hd (fun h' c' kp e=>fin its r' hz h' c' kp e) (by simp only [List.size_toArray] <;> lia)
theorem Zcs:Zdc X (.type "tuple") (fun xs H Q=>∃ p ys,xs=[.ref p]∧((SqL X.K H p ys∧∀ l,H l=none→Q (.ref l) (upd H l (.tup ys))) ∨ (SqT X.K H p ys∧Q (.ref p) H))):=by
 intro pins s σ H xs us Q I r h
 obtain ⟨p,ys,rfl,h⟩:=h
 obtain ⟨u,rfl,rx⟩:=Ze1 r
 cases rx
 rcases h with ⟨hq,q⟩ | ⟨hq,q⟩
 ·obtain ⟨its,r',pl,hz⟩:=I.list hq
  have hlen:=r'.length
  refine call_tuple_list pl.isList (fun h' kp=>?_) (by simp only [List.size_toArray] <;> lia)
  have I1:Inv X pins σ H { s with heap:=h' }:=I.kept (t':=s.toks) kp
  have I2:Inv X pins σ (upd H h'.objs.size (.tup ys)) { s with heap:=h'.push { cls:=.type "tuple",data:=.seq its.toArray } }:=
   I1.laid (t':=s.toks) (fun b o e=>Heap.get?_push_of_some _ e) (Nat.le_refl _) (show ObjOk X.prog X.w _ _ _ (.tup ys) from ⟨hz,its,r',IsTup.new _ _⟩)
  exact ⟨.ref h'.objs.size,_,I2,rfl,q _ (I1.hok.fresh (Nat.le_refl _))⟩
 ·obtain ⟨its,r',pl,hz⟩:=I.tuple hq
  exact call_tuple_same pl ⟨.ref p,H,I,rfl,q⟩
noncomputable def tyV (K:PySem.W.Frag) (T:String) (x:V) (H:Hp):Prop:=match x with
 | .str _=>T = "str"
 | .int _=>T = "int"
 | .ref p=>(T = "list" ∧ ∃ xs,SqL K H p xs) ∨ (T = "tuple" ∧ ∃ o,K.lookup p=some o∧o.cls=.type "tuple" ∧ o.dict=none) ∨
   (T = "dict" ∧ ((∃ kvs,H p=some (.dK kvs)) ∨ ∃ kvs,H p=some (.dT kvs))) ∨ (T = "set" ∧ ∃ S n,H p=some (.set S n))
 | _=>False
theorem Zl8 {pins:List (Addr × Obj)} {σ:St} {H:Hp} {s:Shared} {T:String} {x:V} {v:Value} (I:Inv X pins σ H s) (r:RelV x v) (ty:tyV X.K T x H) :
  s.TypeIs v T∧∀ a,v=.ref a→∃ ob,s.heap.get? a=some ob∧ob.dict=none:=by
 cases x with
 | str z=>
  obtain ⟨t,rfl⟩:=r
  cases (show T = "str" from ty)
  exact ⟨typeIs_str s z t,fun _ e=>nomatch e⟩
 | int i=>
  obtain ⟨t,rfl⟩:=r
  cases (show T = "int" from ty)
  exact ⟨typeIs_int s i t,fun _ e=>nomatch e⟩
 | ref p=>
  cases r
  rcases ty with ⟨rfl,xs,hq⟩ | ⟨rfl,o,hk,hc,hd⟩ | ⟨rfl,hk⟩ | ⟨rfl,S,n,hk⟩
  ·obtain ⟨its,_,pl,_⟩:=I.list hq
   refine ⟨pl.isList.typeIs,fun a e=>?_⟩
   cases e
   obtain ⟨o,n,e,c,hd,_⟩:=pl
   exact ⟨o,e,hd⟩
  ·refine ⟨⟨o,I.kIn p o hk,hc⟩,fun a e=>?_⟩
   cases e
   exact ⟨o,I.kIn _ o hk,hd⟩
  ·have z:∃ o,s.heap.get? p=some o∧o.ExactDict:=by
    rcases hk with ⟨kvs,hk⟩ | ⟨kvs,hk⟩
    ·obtain ⟨_,_,_,_,o,_,_,e,ex,_⟩:=I.hok p _ hk
     exact ⟨o,e,ex⟩
    ·obtain ⟨_,_,_,_,o,_,_,e,ex,_⟩:=I.hok p _ hk
     exact ⟨o,e,ex⟩
   obtain ⟨o,e,ex⟩:=z
   refine ⟨⟨o,e,ex.1⟩,fun a e2=>?_⟩
   cases e2
   exact ⟨o,e,ex.2.1⟩
  ·obtain ⟨o,_,_,_,e,ex,_⟩:=I.hok p _ hk
   refine ⟨⟨o,e,ex.1⟩,fun a e2=>?_⟩
   cases e2
   exact ⟨o,e,ex.2.1⟩
 | _=>exact False.elim ty
noncomputable def tBM0 (K:PySem.W.Frag) (T:String) (r:V→List V→Hp→VK→Prop) (to:TE):TE:=fun σ H Q=>to σ H fun x H1=>tyV K T x H1∧r x [] H1 Q
noncomputable def tBM (K:PySem.W.Frag) (T:String) (r:V→List V→Hp→VK→Prop) (to:TE) (t:TA):TE:=fun σ H Q=>to σ H fun x H1=>tyV K T x H1∧t σ H1 fun xs H2=>r x xs H2 Q
variable {o e:Expr} {es:List Expr} {to:TE} {t:TA} {name:Str} {apos cpos:Pos} {T id:String} {r:V→List V→Hp→VK→Prop}
theorem Zik (pa:PlainAttrs T) (slot:Slot T name id) (hty:typeOf (.builtin id)=pure (.type "method_descriptor")) (hm:MtR X id r) (ho:PE X o to)
  (hbase:attributeBase o name X.env (eval o X.env)=eval o X.env:=by rfl) (hline:(apos.endLine == cpos.line)=true:=by rfl):PE X (.Call (.Attribute o name apos) [] [] cpos) (tBM0 X.K T r to):=by
 intro pins s σ H Q I h
 refine wpAny_Call_method0_late hbase hline (thn (ho pins s σ H _ I h) fun v s1 hp0=>?_)
 obtain ⟨x,H1,I1,r1,ty,q1⟩:=hp0
 obtain ⟨h1,h2⟩:=Zl8 I1 r1 ty
 exact ⟨T,id,pa,slot,hty,h1,h2,Calls.callWith_builtin rfl (PySem.evalArgs_none (hm pins s1 σ H1 x [] v [] Q I1 r1 .nil q1))⟩
theorem Zhu (pa:PlainAttrs T) (slot:Slot T name id) (hty:typeOf (.builtin id)=pure (.type "method_descriptor")) (hm:MtR X id r) (ho:PE X o to) (ha:PA X (e :: es) t)
  (hbase:attributeBase o name X.env (eval o X.env)=eval o X.env:=by rfl)
  (hfew:((backTo cpos (starEach (e :: es) X.env)).all (fun x=>!x.1) && (backToKw cpos (keywordEach [] X.env)).all (fun x=>x.1.isSome)
   && decide ((e :: es).length + ([]:List Keyword).length + (if ([]:List Keyword).isEmpty then 0 else 1) < 30))=true:=by rfl)
  (hline:(apos.endLine == cpos.line)=true:=by rfl) (hs:starEach (e :: es) X.env=(false,eval e X.env) :: starEach es X.env:=by rfl) (hplain:(backTo cpos (starEach es X.env)).any (·.1)=false:=by rfl) :
  PE X (.Call (.Attribute o name apos) (e :: es) [] cpos) (tBM X.K T r to t):=by
 intro pins s σ H Q I h
 refine wpAny_Call_method_late hbase hfew hline rfl (thn (ho pins s σ H _ I h) fun v s1 hp0=>?_)
 obtain ⟨x,H1,I1,r1,ty,q1⟩:=hp0
 obtain ⟨h1,h2⟩:=Zl8 I1 r1 ty
 refine ⟨T,id,pa,slot,hty,h1,h2,?_⟩
 have hA:=ha cpos pins s1 σ H1 _ I1 q1
 rw [hs] at hA ⊢
 refine Calls.callWith_builtin (by show (false || (backTo cpos (starEach es X.env)).any (·.1))=false; rw [hplain] <;> rfl) (Calls.evalArgs_plain ?_)
 exact thn hA fun us s2 hp0=>by obtain ⟨vs,H2,I2,r2,q2⟩:=hp0; exact hm pins s2 σ H2 x vs v us Q I2 r1 r2 q2
end
end L2
namespace L2
open PySem PySem.Spec PyProof.Rows
noncomputable def MtM (X:Cx) (id:String) (r:V→List V→Hp→VK→Prop):Prop:=
 ∀ (pins:List (Addr × Obj)) (s:Shared) (σ:St) (H:Hp) (x:V) (xs:List V) (v:Value) (us:List Value) (Q:VK),Inv X pins σ H s→RelV x v→Vals xs us→r x xs H Q →
  wpAny (model X.prog X.w) X.A (call (.builtin id) (v :: us)) (EP X pins σ Q) X.xe s
theorem Vals.one:∀ {x:V} {us:List Value},Vals [x] us→∃ u,us=[u]∧RelV x u
 | _,_,.cons r .nil=>⟨_,rfl,r⟩
theorem Vals.zero:∀ {us:List Value},Vals [] us→us=[]
 | _,.nil=>rfl
theorem Vals.dropLast {xs:List V} {us:List Value} (h:Vals xs us):Vals xs.dropLast us.dropLast:=by
 induction h with
 | nil=>exact .nil
 | cons r t ih=>
  cases t with
  | nil=>exact .nil
  | cons q t'=>exact .cons r ih
theorem erase_last {α:Type} (l:List α):l.eraseIdx (l.length - 1)=l.dropLast:=by
 induction l with
 | nil=>rfl
 | cons a r ih=>
  cases r with
  | nil=>rfl
  | cons b r=>
   have e:(a :: b :: r).length - 1=((b :: r).length - 1) + 1:=by
    have h1:(a :: b :: r).length=r.length + 2:=rfl
    have h2:(b :: r).length=r.length + 1:=rfl
    lia
   rw [e,List.eraseIdx_cons_succ,ih]
   all_goals rfl
section
variable {X:Cx} {pins:List (Addr × Obj)} {σ:St} {H:Hp} {s:Shared} {l b:Addr} {xs ys zs:List V}
theorem Inv.lset {its its':List Value} {n:Nat} {f:Array Value→Array Value} {t':Nat} (I:Inv X pins σ H s) (hH:H l=some (.lst xs))
  (e:s.heap.get? l=some { cls:=.type "list",data:=.seq its.toArray n }) (hf:f its.toArray=its'.toArray) (hv:Vals ys its') (hz:ys.length ≤ sizeLine) :
  Inv X pins σ (upd H l (.lst ys)) { s with heap:=s.heap.update l (Obj.mapSeq f),toks:=t' }:=by
 have q:=PySem.IsL.update e f
 rw [hf] at q
 refine I.write (x:=l) (e:=l) (by rw [hH]; exact trivial) (.inl rfl) (fun b' u hb hu=>(Heap.get?_update_other s.heap (Obj.mapSeq f) (Ne.symm hb)).trans hu) ⟨_,q⟩ ?_
 exact ⟨hz,its',_,hv,q⟩
theorem Inv.lnew {its:List Value} {t':Nat} (I:Inv X pins σ H s) (hv:Vals ys its) (hz:ys.length ≤ sizeLine) :
  Inv X pins σ (upd H s.heap.objs.size (.lst ys)) { s with heap:=s.heap.push { cls:=.type "list",data:=.seq its.toArray },toks:=t' }:=
 I.laid (fun _ _ q=>Heap.get?_push_of_some _ q) (Nat.le_refl _) ⟨hz,its,0,hv,Heap.get?_push_size _ rfl⟩
theorem Inv.fresh (I:Inv X pins σ H s):H s.heap.objs.size=none:=I.hok.fresh (Nat.le_refl _)
theorem Inv.lstM (I:Inv X pins σ H s) (hH:H l=some (.lst xs)):xs.length ≤ sizeLine∧∃ (its:List Value) (n:Nat),Vals xs its∧xs.length=its.length∧s.heap.get? l=some { cls:=.type "list",data:=.seq its.toArray n }:=by
 obtain ⟨z,its,n,r,e⟩:=I.hok l _ hH
 exact ⟨z,its,n,r,r.length,e⟩
end
section
variable {X:Cx}
noncomputable def rAppend:V→List V→Hp→VK→Prop:=fun x vs H Q=>∃ l xs y,x=.ref l∧vs=[y]∧H l=some (.lst xs)∧xs.length < sizeLine∧Q .non (upd H l (.lst (xs ++ [y])))
theorem Zb3:MtM X "list.append" rAppend:=by
 intro pins s σ H x vs v us Q I rx rv h
 obtain ⟨l,xs,y,rfl,rfl,hH,hz,q⟩:=h
 cases rx
 obtain ⟨u,rfl,ru⟩:=rv.one
 obtain ⟨z,its,n,r,hl,e⟩:=I.lstM hH
 refine call_meets F.slot_list_append ⟨_,e,rfl⟩ F.entry_list_append (F.args_list_append_2 _ _) (PySem.list_append l its.toArray n u (by rw [List.size_toArray]; lia)) ⟨e,?_⟩
 refine ⟨.non,_,I.lset (its':=its ++ [u]) hH e (by simp) (r.append (.cons ru .nil)) ?_,rfl,q⟩
 rw [List.length_append,List.length_singleton]
 lia
noncomputable def rPop:V→List V→Hp→VK→Prop:=fun x vs H Q=>∃ l xs y,x=.ref l∧vs=[]∧H l=some (.lst xs)∧xs[xs.length - 1]? = some y∧Q y (upd H l (.lst xs.dropLast))
theorem Zlg:MtM X "list.pop" rPop:=by
 intro pins s σ H x vs v us Q I rx rv h
 obtain ⟨l,xs,y,rfl,rfl,hH,hy,q⟩:=h
 cases rx
 have hus:=rv.zero
 subst hus
 obtain ⟨z,its,n,r,hl,e⟩:=I.lstM hH
 obtain ⟨u,hu,ru⟩:=r.get hy
 have hy':its.toArray[its.toArray.size - 1]? = some u:=by
  show its.toArray[its.length - 1]? = some u
  rw [← Array.getElem?_toList,← hl]
  exact hu
 refine call_meets F.slot_list_pop ⟨_,e,rfl⟩ F.entry_list_pop (F.args_list_pop_1 _) (MeetsSeq.list_pop_last l its.toArray n u hy' (by rw [List.size_toArray]; lia)) ⟨e,?_⟩
 refine ⟨y,_,I.lset (its':=its.dropLast) hH e ?_ r.dropLast ?_,ru,q⟩
 ·show its.toArray.eraseIdxIfInBounds (its.toArray.size - 1)=its.dropLast.toArray
  rw [List.size_toArray,List.eraseIdxIfInBounds_toArray,erase_last]
 ·rw [List.length_dropLast]
  lia
noncomputable def rCat:R2:=fun x y H Q=>∃ l b xs zs,x=.ref l∧y=.ref b∧H l=some (.lst xs)∧H b=some (.lst zs)∧xs.length + zs.length ≤ sizeLine∧∀ p,H p=none→Q (.ref p) (upd H p (.lst (xs ++ zs)))
theorem Zj2:OpR X (binaryOp .Add) rCat:=by
 intro pins s σ H x y v u Q I rx ry h
 obtain ⟨l,b,xs,zs,rfl,rfl,hH,hB,hz,q⟩:=h
 cases rx
 cases ry
 obtain ⟨z,its,n,r,hl,e⟩:=I.lstM hH
 obtain ⟨z2,its2,n2,r2,hl2,e2⟩:=I.lstM hB
 refine PySem.P.add_list e e2 ?_ (by rw [List.size_toArray,List.size_toArray]; lia)
 have ea:its.toArray ++ its2.toArray=(its ++ its2).toArray:=by simp
 rw [ea]
 exact ⟨.ref _,_,I.lnew (t':=s.toks) (r.append r2) (by rw [List.length_append]; lia),rfl,q _ I.fresh⟩
end
end L2
namespace L2
open PySem PySem.Spec PyProof.Rows
section
variable {κ:Type} [DecidableEq κ]
noncomputable def valV (kvs:List (κ × V)) (k:κ):Option V:=(kvs.find? fun kv=>decide (kv.1=k)).map (·.2)
noncomputable def putK (kvs:List (κ × V)) (k:κ) (v:V):List (κ × V):=
 if (kvs.any fun kv=>decide (kv.1=k))=true then kvs.map (fun kv=>if kv.1=k then (kv.1,v) else kv) else kvs ++ [(k,v)]
theorem Zb4 {p:κ × V} {r:List (κ × V)} {k:κ} (e:p.1=k):valV (p :: r) k=some p.2:=by simp [valV,List.find?_cons,e]
theorem Zb5 {p:κ × V} {r:List (κ × V)} {k:κ} (e:¬ p.1=k):valV (p :: r) k=valV r k:=by simp [valV,List.find?_cons,e]
theorem Zd6 (k:κ):∀ kvs:List (κ × V),(kvs.any fun kv=>decide (kv.1=k))=(valV kvs k).isSome
 | []=>rfl
 | p :: r=>by
  rw [List.any_cons]
  by_cases e:p.1=k
  ·simp only [Zb4 e,decide_eq_true e,Bool.true_or,Option.isSome_some]
  ·rw [Zb5 e,decide_eq_false e,Bool.false_or]; exact Zd6 k r
theorem Zjr (k j:κ) (y:V):∀ kvs:List (κ × V),valV (kvs.map fun kv=>if kv.1=k then (kv.1,y) else kv) j=(valV kvs j).map fun x=>if j=k then y else x
 | []=>rfl
 | p :: r=>by
  have ih:=Zjr k j y r
  rw [List.map_cons]
  by_cases h:p.1=k
  ·rw [if_pos h]
   by_cases e:p.1=j
   ·rw [Zb4 (p:=(p.1,y)) e,Zb4 e,Option.map_some,if_pos (e.symm.trans h)]
   ·rw [Zb5 (p:=(p.1,y)) e,Zb5 e,ih]
  ·rw [if_neg h]
   by_cases e:p.1=j
   ·rw [Zb4 (p:=p) e,Zb4 e,Option.map_some,if_neg (fun z=>h (e.trans z))]
   ·rw [Zb5 (p:=p) e,Zb5 e,ih]
theorem Zib (k j:κ) (y:V):∀ kvs:List (κ × V),valV kvs k=none→valV (kvs ++ [(k,y)]) j=if j=k then some y else valV kvs j
 | [],_=>by
  by_cases e:k=j
  ·rw [if_pos e.symm]; exact Zb4 (p:=(k,y)) e
  ·rw [if_neg (fun z=>e z.symm)]; exact Zb5 (p:=(k,y)) e
 | p :: r,hn=>by
  rw [List.cons_append]
  have hk:¬ p.1=k:=fun z=>by rw [Zb4 z] at hn; cases hn
  rw [Zb5 hk] at hn
  have ih:=Zib k j y r hn
  by_cases e:p.1=j
  ·rw [Zb4 e,Zb4 e,if_neg (fun z=>hk (e.trans z))]
  ·rw [Zb5 e,Zb5 e,ih]
theorem valV_put (kvs:List (κ × V)) (k j:κ) (y:V):valV (putK kvs k y) j=if j=k then some y else valV kvs j:=by
 unfold putK
 by_cases a:(kvs.any fun kv=>decide (kv.1=k))=true
 ·rw [if_pos a,Zjr]
  rw [Zd6] at a
  by_cases e:j=k
  ·obtain ⟨x,hx⟩:=Option.isSome_iff_exists.mp a
   rw [if_pos e,e,hx,Option.map_some,if_pos rfl]
  ·rw [if_neg e]
   cases valV kvs j with
   | none=>rfl
   | some x=>rw [Option.map_some,if_neg e]
 ·rw [if_neg a]
  refine Zib k j y kvs ?_
  rw [Zd6] at a
  cases q:valV kvs k with
  | none=>rfl
  | some x=>rw [q] at a; exact (a rfl).elim
theorem Zc1 (kvs:List (κ × V)) (k:κ) (v:V):(putK kvs k v).length ≤ kvs.length + 1:=by
 unfold putK
 split
 ·rw [List.length_map]; lia
 ·rw [List.length_append,List.length_cons,List.length_nil]; lia
theorem Zea {kvs:List (κ × V)} {k:κ} (v:V) (h:valV kvs k=none):putK kvs k v=kvs ++ [(k,v)]:=by
 unfold putK
 rw [Zd6,h]
 exact if_neg (by decide)
theorem RelO.isSome_eq {o:Option V} {u:Option Value} (r:RelO o u):o.isSome=u.isSome:=by
 cases o with
 | none=>cases u with
  | none=>rfl
  | some _=>exact (show False from r).elim
 | some _=>cases u with
  | none=>exact (show False from r).elim
  | some _=>rfl
theorem RelO.getD {o:Option V} {u:Option Value} {d:V} {d':Value} (r:RelO o u) (rd:RelV d d'):RelV (o.getD d) (u.getD d'):=by
 cases o with
 | none=>cases u with
  | none=>exact rd
  | some _=>exact (show False from r).elim
 | some _=>cases u with
  | none=>exact (show False from r).elim
  | some _=>exact r
theorem KV.val {kvs:List (κ × V)} {vs:List (κ × Value)} (r:KV kvs vs) (k:κ):RelO (valV kvs k) (valueAt vs k):=by
 unfold KV at r
 induction r with
 | nil=>exact True.intro
 | @cons p q ps qs h t ih=>
  obtain ⟨h1,h2⟩:=h
  by_cases e:p.1=k
  ·have e':q.1=k:=h1.symm.trans e
   have b:valueAt (q :: qs) k=some q.2:=by simp [valueAt,List.find?_cons,e']
   rw [Zb4 e,b]; exact h2
  ·have e':¬ q.1=k:=fun z=>e (h1.trans z)
   have b:valueAt (q :: qs) k=valueAt qs k:=by simp [valueAt,List.find?_cons,e']
   rw [Zb5 e,b]; exact ih
theorem KV.any {kvs:List (κ × V)} {vs:List (κ × Value)} (r:KV kvs vs) (k:κ):(kvs.any fun kv=>decide (kv.1=k))=vs.any fun kv=>decide (kv.1=k):=by
 unfold KV at r
 induction r with
 | nil=>rfl
 | cons h t ih=>rw [List.any_cons,List.any_cons,ih,h.1]
theorem KV.repl {kvs:List (κ × V)} {vs:List (κ × Value)} (r:KV kvs vs) (k:κ) {y:V} {u:Value} (ry:RelV y u) :
  KV (kvs.map fun kv=>if kv.1=k then (kv.1,y) else kv) (vs.map fun kv=>if kv.1=k then (kv.1,u) else kv):=by
 unfold KV at r ⊢
 induction r with
 | nil=>exact .nil
 | @cons p q ps qs h t ih=>
  rw [List.map_cons,List.map_cons]
  refine .cons ?_ ih
  obtain ⟨h1,h2⟩:=h
  by_cases e:p.1=k
  ·rw [if_pos e,if_pos (h1.symm.trans e)]; exact ⟨h1,ry⟩
  ·rw [if_neg e,if_neg (fun z=>e (h1.trans z))]; exact ⟨h1,h2⟩
theorem KV.put {kvs:List (κ × V)} {vs:List (κ × Value)} (r:KV kvs vs) (k:κ) {y:V} {u:Value} (ry:RelV y u):KV (putK kvs k y) (stored vs k u):=by
 unfold putK stored
 rw [r.any k]
 by_cases e:(vs.any fun kv=>decide (kv.1=k))=true
 ·rw [if_pos e,if_pos e]; exact r.repl k ry
 ·rw [if_neg e,if_neg e]; exact Paired.snoc r ⟨rfl,ry⟩
theorem KV.keys {kvs:List (κ × V)} {vs:List (κ × Value)} (r:KV kvs vs):kvs.map (·.1)=vs.map (·.1):=by
 unfold KV at r
 induction r with
 | nil=>rfl
 | cons h t ih=>rw [List.map_cons,List.map_cons,ih,h.1]
theorem KV.length {kvs:List (κ × V)} {vs:List (κ × Value)} (r:KV kvs vs):kvs.length=vs.length:=Paired.length r
end
theorem Ziu {P:Program} {w:World} {k:Key} {u:Value} (r:RelV (kV k) u):(Za2 P w).is k u=true:=by
 cases k with
 | inl i=>obtain ⟨t,e⟩:=(show ∃ t,u=Value.int i t from r); subst e; exact mixKind_int P w i t
 | inr x=>obtain ⟨t,e⟩:=(show ∃ t,u=Value.str x t from r); subst e; exact mixKind_str P w x t
theorem Ziv {P:Program} {w:World}:∀ {ks:List Key} {us:List Value},Vals (ks.map kV) us→ItemsAre (Za2 P w) ks us
 | [],_,r=>by rw [List.map_nil] at r; cases r; exact .nil
 | k :: ks,_,r=>by
  rw [List.map_cons] at r
  cases r with
  | cons h t=>exact .cons (Ziu h) (Ziv t)
noncomputable abbrev KT (H:Hp):List (List Key × V)→List (List Key × Addr × Value)→Prop:=Paired fun p q=>p.1=q.1∧H q.2.1=some (.tup (p.1.map kV))∧RelV p.2 q.2.2
theorem KT.val {H:Hp} {kvs:List (List Key × V)} {xs:List (List Key × Addr × Value)} (r:KT H kvs xs) (k:List Key):RelO (valV kvs k) ((atKey xs k).map (·.2)):=by
 induction r with
 | nil=>exact True.intro
 | @cons p q ps qs h t ih=>
  obtain ⟨h1,_,h2⟩:=h
  by_cases e:p.1=k
  ·have e':q.1=k:=h1.symm.trans e
   have b:atKey (q :: qs) k=some q.2:=by simp [atKey,List.find?_cons,e']
   rw [Zb4 e,b]; exact h2
  ·have e':¬ q.1=k:=fun z=>e (h1.trans z)
   have b:atKey (q :: qs) k=atKey qs k:=by simp [atKey,List.find?_cons,e']
   rw [Zb5 e,b]; exact ih
theorem KT.repl {H:Hp} {kvs:List (List Key × V)} {xs:List (List Key × Addr × Value)} (r:KT H kvs xs) (k:List Key) {y:V} {u:Value} (ry:RelV y u) :
  KT H (kvs.map fun kv=>if kv.1=k then (kv.1,y) else kv) (xs.map (putAt k u)):=by
 induction r with
 | nil=>exact .nil
 | @cons p q ps qs h t ih=>
  rw [List.map_cons,List.map_cons]
  refine .cons ?_ ih
  obtain ⟨h1,h2,h3⟩:=h
  unfold putAt
  by_cases e:p.1=k
  ·rw [if_pos e,if_pos (h1.symm.trans e)]; exact ⟨h1,h2,ry⟩
  ·rw [if_neg e,if_neg (fun z=>e (h1.trans z))]; exact ⟨h1,h2,h3⟩
theorem KT.put {H:Hp} {kvs:List (List Key × V)} {xs:List (List Key × Addr × Value)} (r:KT H kvs xs) (k:List Key) {b:Addr} {y:V} {u:Value} (hb:H b=some (.tup (k.map kV))) (ry:RelV y u) :
  KT H (putK kvs k y) (storedH xs k b u):=by
 have e:(kvs.any fun kv=>decide (kv.1=k))=(atKey xs k).isSome:=by
  rw [Zd6,(r.val k).isSome_eq,Option.isSome_map]
 unfold putK storedH
 rw [e]
 by_cases q:(atKey xs k).isSome=true
 ·rw [if_pos q,if_pos q]; exact r.repl k ry
 ·rw [if_neg q,if_neg q]; exact Paired.snoc r ⟨rfl,hb,ry⟩
theorem KT.keeps {H H':Hp} {kvs:List (List Key × V)} {xs:List (List Key × Addr × Value)} (r:KT H kvs xs) (ht:∀ b ys,H b=some (.tup ys)→H' b=some (.tup ys)):KT H' kvs xs:=
 Paired.mapP r fun _ _ z=>⟨z.1,ht _ _ z.2.1,z.2.2⟩
section
variable {P:Program} {w:World} {H:Hp} {h:Heap} {a:Addr}
theorem rd_of {u:HO} (ok:HOk P w H h) (e:Rd H a u):ObjOk P w H h a u:=e.ok ok
theorem Zjo {kvs:List (Key × V)} (ok:HOk P w H h) (e:Rd H a (.dK kvs)):kvs.length ≤ sizeLine∧(a == sysModules)=false∧∃ vs,KV kvs vs∧h.DictOf (Za2 P w) a vs:=
 show ObjOk P w H h a (.dK kvs) from rd_of ok e
theorem Zl6 {kvs:List (Key × V)} (ok:HOk P w H h) (e:H a=some (.dK kvs)):kvs.length ≤ sizeLine∧(a == sysModules)=false∧∃ vs,KV kvs vs∧h.DictOf (Za2 P w) a vs:=Zjo ok (.inl e)
theorem Zit {ks:List Key} (ok:HOk P w H h) (e:H a=some (.tup (ks.map kV))):(tupleKind (Za2 P w)).is h ks a:=by
 obtain ⟨_,its,r,o,h1,h2,n,h3⟩:=(show ObjOk P w H h a (.tup (ks.map kV)) from ok a _ e)
 exact ⟨o,its.toArray,n,h1,h2,h3,by simpa using Ziv r⟩
theorem Zks {kvs:List (List Key × V)} (ok:HOk P w H h) (e:Rd H a (.dT kvs)):kvs.length ≤ sizeLine∧(a == sysModules)=false ∧
  ∃ xs,KT H kvs xs∧h.DictOfH (tupleKind (Za2 P w)) a xs:=by
 obtain ⟨z,y,xs,r,o,es,ep,h1,h2,h3,h4,h5⟩:=(show ObjOk P w H h a (.dT kvs) from rd_of ok e)
 refine ⟨z,y,xs,r,o,es,ep,h1,h2,h3,h4,fun x hx=>?_,h5⟩
 have all:∀ {l:List (List Key × V)} {m:List (List Key × Addr × Value)},KT H l m→∀ x ∈ m,(tupleKind (Za2 P w)).is h x.1 x.2.1:=by
  intro l m q
  induction q with
  | nil=>intro x hx; exact nomatch hx
  | @cons p q ps qs hq t ih=>
   intro x hx
   rcases (List.mem_cons.mp hx) with e | hx
   ·subst e
    exact Zit ok (by rw [← hq.1]; exact hq.2.1)
   ·exact ih x hx
 exact all r x hx
theorem dt_of {kvs:List (List Key × V)} (ok:HOk P w H h) (e:H a=some (.dT kvs)):kvs.length ≤ sizeLine∧(a == sysModules)=false ∧
  ∃ xs,KT H kvs xs∧h.DictOfH (tupleKind (Za2 P w)) a xs:=Zks ok (.inl e)
end
noncomputable def DGet (H:Hp) (a:Addr) (y:V) (r:Option V):Prop:=
 (∃ kvs k,Rd H a (.dK kvs)∧y=kV k∧r=valV kvs k) ∨ ∃ kvs k b,Rd H a (.dT kvs)∧y=.ref b∧H b=some (.tup (k.map kV))∧r=valV kvs k
noncomputable def DPut (H:Hp) (a:Addr) (y v:V) (H':Hp):Prop:=
 (∃ kvs k,H a=some (.dK kvs)∧y=kV k∧kvs.length < sizeLine∧H'=upd H a (.dK (putK kvs k v))) ∨
 ∃ kvs k b,H a=some (.dT kvs)∧y=.ref b∧H b=some (.tup (k.map kV))∧kvs.length < sizeLine∧H'=upd H a (.dT (putK kvs k v))
theorem DGet.k {H:Hp} {a:Addr} {kvs:List (Key × V)} {k:Key} (e:H a=some (.dK kvs)):DGet H a (kV k) (valV kvs k):=.inl ⟨kvs,k,.inl e,rfl,rfl⟩
theorem DPut.k {H:Hp} {a:Addr} {kvs:List (Key × V)} {k:Key} {v:V} (e:H a=some (.dK kvs)) (hl:kvs.length < sizeLine):DPut H a (kV k) v (upd H a (.dK (putK kvs k v))):=.inl ⟨kvs,k,e,rfl,hl,rfl⟩
section
variable {X:Cx} {pins:List (Addr × Obj)} {σ:St} {H:Hp} {s:Shared} {a:Addr} {y v:V} {u r:Value} {o:Option V} {A:Around} {E:Value→Shared→Prop}
theorem Inv.big (I:Inv X pins σ H s):sysModules < s.heap.objs.size:=by
 have h:mainGlobals < s.heap.objs.size:=(I.mod.glob.keeps I.bk).lt
 exact Nat.lt_trans (by decide) h
theorem d_getItem {Q:Value→Shared→Prop} (hu:A.units + 1 < cLine) (I:Inv X pins σ H s) (g:DGet H a y (some v)) (ry:RelV y u) (h:∀ w' s',Inv X pins σ H s'→RelV v w'→Q w' s') :
  wpAny (model X.prog X.w) A (getItem (.ref a) u) Q E s:=by
 rcases g with ⟨kvs,k,e,ey,l⟩ | ⟨kvs,k,b,e,ey,eb,l⟩
 ·subst ey
  obtain ⟨z,hd,vs,rel,dd⟩:=Zjo I.hok e
  obtain ⟨w',hw,rw'⟩:=RelO.some_of (v:=v) (o:=valueAt vs k) (by rw [l]; exact rel.val k)
  exact wpAny_getItem_of (Ziu ry) dd.mapOf hw (h w' _ (I.tok _) rw')
 ·subst ey
  cases (show u=Value.ref b from ry)
  obtain ⟨z,hd,xs,rel,dd⟩:=Zks I.hok e
  obtain ⟨w',hw,rw'⟩:=RelO.some_of (v:=v) (o:=(atKey xs k).map (·.2)) (by rw [l]; exact rel.val k)
  obtain ⟨p,hp,hp2⟩:=Option.map_eq_some_iff.mp hw
  refine wpAny_getItem_heap (tupleKind_room_in1 hu) (Zit I.hok eb) dd hp ?_
  rw [hp2]
  exact h w' _ (I.tok _) rw'
theorem d_notIn {Q:Value→Shared→Prop} (hu:A.units + 1 < cLine) (I:Inv X pins σ H s) (g:DGet H a y o) (ry:RelV y u) (h:∀ s',Inv X pins σ H s'→Q (.bool (!o.isSome)) s') :
  wpAny (model X.prog X.w) A (compareOp .NotIn u (.ref a)) Q E s:=by
 rcases g with ⟨kvs,k,e,ey,l⟩ | ⟨kvs,k,b,e,ey,eb,l⟩
 ·subst ey
  obtain ⟨z,hd,vs,rel,dd⟩:=Zjo I.hok e
  refine wpAny_notIn_of (Ziu ry) hd dd.mapOf ?_
  rw [← (rel.val k).isSome_eq,← l]
  exact h _ (I.tok _)
 ·subst ey
  cases (show u=Value.ref b from ry)
  obtain ⟨z,hd,xs,rel,dd⟩:=Zks I.hok e
  refine wpAny_notIn_heap (tupleKind_room_in1 hu) (Zit I.hok eb) hd dd ?_
  have q:=(rel.val k).isSome_eq
  rw [Option.isSome_map] at q
  rw [← q,← l]
  exact h _ (I.tok _)
theorem Zlz {h':Heap} {t':Nat} {ob:HO} (I:Inv X pins σ H s) (mu:Mut (H a)) (hs:Heap.SameBut a s.heap h') (he:∃ q,h'.get? a=some q) (new:ObjOk X.prog X.w (upd H a ob) h' a ob) :
  Inv X pins σ (upd H a ob) { s with heap:=h',toks:=t' }:=
 I.write (x:=a) (e:=a) mu (.inl rfl) (fun b q hb z=>(hs.2 b hb).trans z) he new
theorem dk_new {P:Program} {w:World} {H':Hp} {h':Heap} {kvs:List (Key × V)} {vs:List (Key × Value)} (z:kvs.length ≤ sizeLine) (hd:(a == sysModules)=false) (rel:KV kvs vs) (dd:h'.DictOf (Za2 P w) a vs) :
  ObjOk P w H' h' a (.dK kvs):=⟨z,hd,vs,rel,dd⟩
theorem d_setItem {H':Hp} {Q:Unit→Shared→Prop} (hu:A.units + 1 < cLine) (I:Inv X pins σ H s) (g:DPut H a y v H') (ry:RelV y u) (rv:RelV v r) (h:∀ s',Inv X pins σ H' s'→Q () s') :
  wpAny (model X.prog X.w) A (setItem (.ref a) u r) Q E s:=by
 rcases g with ⟨kvs,k,e,ey,l,eH⟩ | ⟨kvs,k,b,e,ey,eb,l,eH⟩
 ·subst ey eH
  obtain ⟨z,hd,vs,rel,dd⟩:=Zl6 I.hok e
  have hz:vs.length ≤ sizeLine:=by rw [← rel.length]; exact z
  have hl:(putK kvs k v).length ≤ sizeLine:=by have:=Zc1 kvs k v; lia
  refine wpAny_setItem_pairs (hsz:=hz) (Ziu ry) dd fun h' dd' hs=>h _ ?_
  have he:∃ q,h'.get? a=some q:=let ⟨q,_,_,hq,_⟩:=dd'; ⟨q,hq⟩
  exact Zlz I (by rw [e]; exact True.intro) hs he (dk_new hl hd (rel.put k rv) dd')
 ·subst ey eH
  cases (show u=Value.ref b from ry)
  obtain ⟨z,hd,xs,rel,dd⟩:=dt_of I.hok e
  have hz:xs.length ≤ sizeLine:=by rw [← Paired.length rel]; exact z
  have hl:(putK kvs k v).length ≤ sizeLine:=by have:=Zc1 kvs k v; lia
  refine wpAny_setItem_heap (hsz:=hz) (tupleKind_room_in1 hu) (Zit I.hok eb) dd fun h' dd' hs=>h _ ?_
  obtain ⟨q,es,ep,hq,h2,h3,h4,_,h5⟩:=dd'
  refine Zlz I (by rw [e]; exact True.intro) hs ⟨q,hq⟩ ⟨hl,hd,_,(rel.put k eb rv).keeps fun c ys ec=>?_,q,es,ep,hq,h2,h3,h4,h5⟩
  rw [Zak (Za5 ec e (fun z=>nomatch z))]
  exact ec
end
noncomputable def NoSl (i:Expr):Prop:=∀ ov iv,subscripted i false ov iv=operate [ov,iv] (getItem ov iv)
theorem subD_of {prog:Program} {w:World} {A:Around} {E:Value→Shared→Prop} {s:Shared} {env:Env} {value slice:Expr} {pos:Pos} {T id:String} {Q:Value→Shared→Prop}
  (hl:typeLookup (.type T) "__getitem__" = pure (some (.builtin id))) (hs:NoSl slice)
  (h:wpAny (model prog w) A (eval value env) (fun o s₁=>wpAny (model prog w) A (eval slice env) (fun i s₂=>s₂.TypeIs o T∧wpAny (model prog w) A (getItem o i) Q E s₂) E s₁) E s) :
  wpAny (model prog w) A (eval (.Subscript value slice pos) env) Q E s:=by
 refine Subscript_ (wpAny_mono h (fun o s₁ h₁=>wpAny_mono h₁ (fun i s₂ h₂=>?_) fun _ _ x=>x) fun _ _ x=>x)
 obtain ⟨hT,h₂⟩:=h₂
 unfold subscriptTail
 refine wpAny_bind ?_
 rw [getitemInPython_of_ne hT.not_modules]
 refine wpAny_bind (wpAny_specialOf hT hl ?_)
 have fin:wpAny (model prog w) A (subscripted slice false o i) (fun r s₃=>wpAny (model prog w) A (letTemporaryGo value o r >>= fun _=>pure r) Q E s₃) E s₂:=by
  rw [hs o i]
  exact wpAny_operating (wpAny_mono h₂ (fun r s₃ h₃=>wpAny_bind (wpAny_letTemporaryGo (wpAny_pure h₃))) fun _ _ x=>x)
 first
  | exact wpAny_pure (wpAny_bind fin)
  | exact wpAny_bind (wpAny_pure (wpAny_bind fin))
  | exact wpAny_bind fin
theorem dict_typeIs {X:Cx} {pins:List (Addr × Obj)} {σ:St} {H:Hp} {s:Shared} {a:Addr} {y:V} {o:Option V} (I:Inv X pins σ H s) (g:DGet H a y o):s.TypeIs (.ref a) "dict" := by
 rcases g with ⟨kvs,k,e,_,_⟩ | ⟨kvs,k,b,e,_,_,_⟩
 ·obtain ⟨_,_,vs,_,dd⟩:=Zjo I.hok e
  exact dd.typeIs
 ·obtain ⟨_,_,xs,_,dd⟩:=Zks I.hok e
  exact dd.typeIs
inductive hasD (Q:VK) (x y:V) (H2:Hp):Prop
 | mk (a:_) (v:_) (c0:x=.ref a) (c1:DGet H2 a y (some v)) (c2:Q v H2):hasD Q x y H2
noncomputable def tDGet (td ty:TE):TE:=fun σ H Q=>td σ H fun x H1=>ty σ H1 fun y H2=>hasD Q x y H2
noncomputable def tDNotIn (ty td:TE):TE:=fun σ H Q=>ty σ H fun y H1=>td σ H1 fun x H2=>∃ a o,x=.ref a∧DGet H2 a y o∧Q (.bl (!o.isSome)) H2
noncomputable def sDPut (td ty tv:TE):TS:=fun D σ H=>tv σ H fun v H1=>td σ H1 fun x H2=>ty σ H2 fun y H3=>∃ a H4,x=.ref a∧DPut H3 a y v H4∧D.nx σ H4
section
variable {X:Cx} {o i e value:Expr} {pos pos' tpos:Pos} {td ty tv:TE}
theorem Zgh (hu:X.A.units + 1 < cLine) (ho:PE X o td) (hi:PE X i ty) (hs:NoSl i):PE X (.Subscript o i pos) (tDGet td ty):=by
 intro pins s σ H Q I h
 refine subD_of PySem.F.slot_dict_getitem.lookup hs (thn (ho pins s σ H _ I h) fun u s1 hp0=>?_)
 obtain ⟨x,H1,I1,rx,q1⟩:=hp0
 refine thn (hi pins s1 σ H1 _ I1 q1) fun iv s2 hp1=>?_
 obtain ⟨y,H2,I2,ry,a,v,ex,g,q2⟩:=hp1
 subst ex
 obtain rfl:u=Value.ref a:=rx
 exact ⟨dict_typeIs I2 g,d_getItem hu I2 g ry fun w' s3 I3 rw'=>⟨v,H2,I3,rw',q2⟩⟩
theorem Zgi (hu:X.A.units + 1 < cLine) (hi:PE X i ty) (ho:PE X o td):PC X .NotIn i o (tDNotIn ty td):=by
 intro pins s σ H Q I h
 refine thn (hi pins s σ H _ I h) fun iv s1 hp0=>?_
 obtain ⟨y,H1,I1,ry,q1⟩:=hp0
 refine thn (ho pins s1 σ H1 _ I1 q1) fun u s2 hp1=>?_
 obtain ⟨x,H2,I2,rx,a,ov,ex,g,q2⟩:=hp1
 subst ex
 obtain rfl:u=Value.ref a:=rx
 exact d_notIn hu I2 g ry fun s3 I3=>⟨.bl (!ov.isSome),H2,I3,rfl,q2⟩
theorem Ze4 (hu:X.A.units + 1 < cLine) (ho:PE X o td) (hi:PE X i ty) (hv:PE X value tv) (hs:swapsWith value (some (.Subscript o i pos')) pos.line X.env=pure false) :
  PS X (.Assign [.Subscript o i pos'] value pos) (sDPut td ty tv):=by
 intro pins s σ H D I h
 refine wpAny_Assign_Subscript (thn (hv pins s σ H _ I h) fun r s1 hp0=>?_) hs
 obtain ⟨v,H1,I1,rv,q1⟩:=hp0
 refine thn (ho pins s1 σ H1 _ I1 q1) fun u s2 hp1=>?_
 obtain ⟨x,H2,I2,rx,q2⟩:=hp1
 refine thn (hi pins s2 σ H2 _ I2 q2) fun iv s3 hp2=>?_
 obtain ⟨y,H3,I3,ry,a,H4,ex,g,q3⟩:=hp2
 subst ex
 obtain rfl:u=Value.ref a:=rx
 exact d_setItem hu I3 g ry rv fun s4 I4=>⟨σ,H4,I4,q3⟩
end
theorem dk_empty {P:Program} {w:World} {H:Hp} (h:Heap) (hb:sysModules < h.objs.size):ObjOk P w H (h.push { cls:=.type "dict",data:=.dict #[] }) h.objs.size (.dK []):=
 ⟨Nat.zero_le _,beq_eq_false_iff_ne.mpr (Ne.symm (Nat.ne_of_lt hb)),[],.nil,Heap.DictOf.new h⟩
noncomputable def tDNewK:TE:=fun _ H Q=>∀ p,H p=none→Q (.ref p) (upd H p (.dK []))
section
variable {X:Cx} {pos:Pos}
theorem Zfb:PE X (.Dict [] [] pos) tDNewK:=fun pins s σ H Q I h=>
 wpAny_Dict_empty ⟨.ref s.heap.objs.size,_,I.laid (a:=s.heap.objs.size) (o:=.dK []) (t':=s.toks) (fun _ _ q=>Heap.get?_push_of_some _ q) (Nat.le_refl _) (dk_empty s.heap I.big),rfl,h _ (I.hok.fresh (Nat.le_refl _))⟩
end
structure M2 (X:Cx) (o:Expr) (m:Str) (apos:Pos) (e f:Expr) (cpos:Pos):Prop where
 base:attributeBase o m X.env (eval o X.env)=eval o X.env
 few:((backTo cpos (starEach [e,f] X.env)).all (fun x=>!x.1) && (backToKw cpos (keywordEach [] X.env)).all (fun x=>x.1.isSome)
  && decide (([e,f]:List Expr).length + ([]:List Keyword).length + (if ([]:List Keyword).isEmpty then 0 else 1) < 30))=true
 line:(apos.endLine == cpos.line)=true
 trees:backTo cpos (starEach [e,f] X.env)=[(false,eval e X.env),(false,eval f X.env)]
noncomputable def IsD (H:Hp) (a:Addr):Prop:=(∃ kvs,Rd H a (.dK kvs)) ∨ ∃ kvs,Rd H a (.dT kvs)
theorem Zmv {X:Cx} {pins:List (Addr × Obj)} {σ:St} {H:Hp} {s:Shared} {a:Addr} (I:Inv X pins σ H s) (d:IsD H a) :
  s.TypeIs (.ref a) "dict" ∧ (∀ b,Value.ref a=.ref b→∃ ob,s.heap.get? b=some ob∧ob.dict=none)∧(a == sysModules)=false:=by
 rcases d with ⟨kvs,e⟩ | ⟨kvs,e⟩
 ·obtain ⟨_,hd,vs,_,dd⟩:=Zjo I.hok e
  refine ⟨dd.typeIs,fun b q=>?_,hd⟩
  cases q
  obtain ⟨ob,_,_,h1,h2,_⟩:=dd
  exact ⟨ob,h1,h2.2.1⟩
 ·obtain ⟨_,hd,xs,_,dd⟩:=Zks I.hok e
  refine ⟨dd.typeIs,fun b q=>?_,hd⟩
  cases q
  obtain ⟨ob,_,_,h1,h2,_⟩:=dd
  exact ⟨ob,h1,h2.2.1⟩
section
variable {X:Cx} {pins:List (Addr × Obj)} {σ:St} {H:Hp} {s:Shared} {a:Addr} {y d:V} {u r:Value} {o:Option V} {A:Around} {E:Value→Shared→Prop}
theorem d_get2 {Q:Value→Shared→Prop} (hu:A.units + 1 < cLine) (I:Inv X pins σ H s) (g:DGet H a y o) (ry:RelV y u) (rd:RelV d r) (h:∀ w' s',Inv X pins σ H s'→RelV (o.getD d) w'→Q w' s') :
  wpAny (model X.prog X.w) A (call (.builtin "dict.get") [.ref a,u,r]) Q E s:=by
 rcases g with ⟨kvs,k,e,ey,l⟩ | ⟨kvs,k,b,e,ey,eb,l⟩
 ·subst ey
  obtain ⟨z,hd,vs,rel,dd⟩:=Zjo I.hok e
  refine call_meetsIn PySem.F.slot_dict_get dd.typeIs PySem.F.entry_dict_get (PySem.F.args_dict_get_3 _ _ _) (meets_dict_get_default (Za2 X.prog X.w) a (Ziu ry) hd r) ⟨_,dd.mapOf,h _ _ (I.tok _) ?_⟩
  rw [l]
  exact (rel.val k).getD rd
 ·subst ey
  cases (show u=Value.ref b from ry)
  obtain ⟨z,hd,xs,rel,dd⟩:=Zks I.hok e
  refine call_meetsIn PySem.F.slot_dict_get dd.typeIs PySem.F.entry_dict_get (PySem.F.args_dict_get_3 _ _ _) (meetsH_dict_get_default (tupleKind (Za2 X.prog X.w)) a b hd r) ⟨tupleKind_room_in1 hu,k,xs,Zit I.hok eb,dd,h _ _ (I.tok _) ?_⟩
  rw [l]
  exact (rel.val k).getD rd
end
noncomputable def tDGet2 (td ty tx:TE):TE:=fun σ H Q=>td σ H fun x H1=>∃ a,x=.ref a∧IsD H1 a∧ty σ H1 fun y H2=>tx σ H2 fun z H3=>∃ o,DGet H3 a y o∧Q (o.getD z) H3
section
variable {X:Cx} {o e f:Expr} {apos cpos:Pos} {td ty tx:TE}
theorem pe_dget2 (hu:X.A.units + 1 < cLine) (ho:PE X o td) (he:PE X e ty) (hf:PE X f tx) (m:M2 X o "get" apos e f cpos):PE X (.Call (.Attribute o "get" apos) [e,f] [] cpos) (tDGet2 td ty tx):=by
 intro pins s σ H Q I h
 refine wpAny_Call_method m.base m.few m.line PySem.F.plainAttrs_dict PySem.F.slot_dict_get PySem.F.type_dict_get (thn (ho pins s σ H _ I h) fun u s1 hp0=>?_)
 obtain ⟨x,H1,I1,rx,a,ex,d,q1⟩:=hp0
 subst ex
 obtain rfl:u=Value.ref a:=rx
 obtain ⟨t1,t2,_⟩:=Zmv I1 d
 refine ⟨t1,t2,?_⟩
 rw [m.trees]
 refine Calls.callWith_builtin rfl (Calls.evalArgs_plain (Calls.spliced_cons (thn (he pins s1 σ H1 _ I1 q1) fun iv s2 ⟨y,H2,I2,ry,q2⟩=>
  Calls.spliced_cons (thn (hf pins s2 σ H2 _ I2 q2) fun fv s3 ⟨z,H3,I3,rz,ov,g,q3⟩=>Calls.spliced_nil ?_))))
 exact d_get2 hu I3 g ry rz fun w' s4 I4 rw'=>⟨_,H3,I4,rw',q3⟩
end
end L2
namespace Att
open PySem PySem.W PySem.Calls PyProof.Rows
theorem ints_of_wellAll {P:Params} {h:Heap}:∀ (ns:List Int) (vs:List Value),WellAll P h vs (ns.map WData.int)→IntsAre vs ns:=by
 intro ns
 induction ns with
 | nil=>
  intro vs w
  rw [List.map_nil] at w
  cases w
  exact .nil
 | cons n ns ih=>
  intro vs w
  rw [List.map_cons] at w
  cases w with
  | cons a b=>
   cases a
   exact .cons _ _ (ih _ b)
theorem script_of {l:OpenLaw} {n:Nat} (hn:l.most=some n) {P:Params} {h:Heap} {args:List WData} {vals:List Value}
  (hpre:l.row.toRowW.claim.pre args=true) (hwl:WellAll P h vals args) :
  ∃ a vs ns,vals=[Value.ref a]∧args=[WData.list (ns.map WData.int)]∧h.get? a=some { cls:=.type "list",data:=.seq vs.toArray }∧IntsAre vs ns∧ns.length ≤ n:=by
 have hsh:WShape.hasAll [] args [.list .int]=true:=(pre_splitW hpre).1
 have hc:l.pre.holds [] { args:=args } = true:=(pre_splitW hpre).2
 obtain ⟨d,r,rfl,h1,h2⟩:=hasAllW_cons hsh
 obtain rfl:=hasAllW_nil h2
 obtain ⟨xs,rfl,h3⟩:=hasW_list h1
 obtain ⟨ns,rfl⟩:=items_int h3
 have hlen:ns.length ≤ n:=by
  unfold OpenLaw.pre at hc
  have h4:(WTm.not (.lt (.lit (.int (n:Int))) (.len (.arg 0)))).holds [] { args:=[.list (ns.map .int)] } = true:=by
   have h4:=(holds_andW hc).1
   rw [hn] at h4
   exact h4
  have h5:=condW_of h4 (w_not (w_lt w_lit (w_len_list (w_arg rfl))))
  rw [List.length_map] at h5
  refine Nat.le_of_not_lt fun q=>?_
  have q':(n:Int) < ((ns.length:Nat):Int):=by lia
  first
   | (rw [decide_eq_true q'] at h5; exact absurd h5 (by decide))
   | (simp at h5; lia)
 cases hwl with
 | cons w1 w2=>
  cases w2
  cases w1 with
  | list ho hall=>exact ⟨_,_,ns,rfl,rfl,ho,ints_of_wellAll ns _ hall,hlen⟩
theorem post_true (l:OpenLaw) (args:List WData):l.row.toRowW.claim.post args (.bool true) args=true:=
 postW_of (r:=l.row.toRowW) (X:=(true == true))
  (show WShape.has [] (.bool true) .bool=true by first | rfl | decide | simp [WShape.has,WShape.arms,WShape.armsAll])
  (show (WTm.eq .res (.lit (.bool true))).value [] { args:=args,res:=some (.bool true),after:=args } = some (.bool (true == true)) from w_eq_bool (w_res rfl) w_lit) rfl
theorem attach_call {l:OpenLaw} {n:Nat} {q:Program} {loose:List Str} {XP:(Str→Option Value)→Heap→Prop} {YP:World→Heap→Prop} {d:DefRec}
  (hn:l.most=some n) (hdf:d.params.defaults=[])
  (call:∀ (w:World) (s₀ s₁:Shared) (mg mb:Str→Option Value) (fa:Addr) (o:Obj) (pm cd doc:Value) (a:Addr) (vs:List Value) (ns:List Int),
   Ground q loose [] XP w s₀ mg mb s₁.heap→YP w s₁.heap →
   s₁.heap.get? fa=some o→o.data=.func (docDef d.name d.params d.body d.scope pm cd doc)→s₁.heap.CodeRec cd d.name→mg d.name=some (.ref fa) →
   s₁.heap.get? a=some { cls:=.type "list",data:=.seq vs.toArray }→IntsAre vs ns→ns.length ≤ n→s₁.gens=#[] →
   codeAny (model l.prog w) callerA (.call (.ref fa) ⟨[.ref a],[]⟩) (fun r s'=>r=.ok (.ret (.bool true))∧OldK s₁.heap s'.heap∧s'.os=s₁.os∧AllBare s'.gens) s₁) :
  WalkO q loose XP YP l.row.toRowW d [] (fun f vs=>PySem.call f vs):=by
 intro w s₀ s₁ mg mb G Y fa o pm cd doc dV kV ho hd hcd hD hmg hg args vals as hpre hlay hrd hwl hlo
 obtain rfl:dV=.none:=Dflts.none hD hdf
 obtain rfl:kV=.none:=Dflts.noKw hD
 obtain ⟨a,vs,ns,rfl,rfl,hobj,hints,hlen⟩:=script_of hn hpre hwl
 refine enter_call (codeAny_mono (call w s₀ s₁ mg mb fa o pm cd doc a vs ns G Y ho (fd_plain hd) hcd hmg hobj hints hlen hg) fun r s' hq=>?_)
 obtain ⟨rfl,h2,h3,h4⟩:=hq
 exact ⟨.inl ⟨.bool true,.bool true,[],rfl,fun _=>rfl,.bool true,post_true l _,fun _=>⟨List.Pairwise.nil,fun _ hm=>(nomatch hm)⟩⟩,h2,h3,h4⟩
end Att
namespace L2
open PySem PySem.Spec PyProof.Rows
theorem Zia:∀ {vs:List Value} {ns:List Int},IntsAre vs ns→Vals (ns.map V.int) vs
 | _,_,.nil=>.nil
 | _,_,.cons n t h=>.cons ⟨t,rfl⟩ (Zia h)
noncomputable def Only (H:Hp):Prop:=∀ b,H b=none ∨ ∃ o xs,H b=some (.frz o (.lst xs))
theorem law_call {P:Program} {w:World} {K:PySem.W.Frag} {mg mb:Str→Option Value} {CX:CXT} {k:Nat} {fa a:Addr} {fd:FuncData} {x:Str} {sp:Sp} {s₁:Shared} {vs:List Value} {ns:List Int}
  (KX:K.In s₁.heap) (hns:s₁.heap.Ns mainGlobals mg) (hb:s₁.heap.Ns builtinsNs mb) (hbb:∀ x:Str,x ≠ "__name__" → mb x=bootBuiltins x) (hlim:s₁.heap.NoLimit) (hg:s₁.gens=#[])
  (ha:s₁.heap.get? a=some { cls:=.type "list",data:=.seq vs.toArray }) (hi:IntsAre vs ns) (hl:ns.length ≤ sizeLine) (hr:Room k callerA)
  (F:∀ base:Heap,K.In base→base.Ns mainGlobals mg→FnOk P w K mg base CX k fa fd [x] sp) (hbind:∀ (s:Shared) (u:Value),BindsTo s fd ⟨[u],[]⟩ [(x,u)])
  (hsp:∀ H:Hp,Only H→SqL K H a (ns.map V.int)→sp [.ref a] H (fun v _=>v=.bl true) fun _ _ _=>False)
  (hCX:∀ H e s',CX [] H s₁ (fun _ _ _=>False) e s'→False) :
  codeAny (model P w) callerA (.call (.ref fa) ⟨[.ref a],[]⟩) (fun r s'=>r=.ok (.ret (.bool true))∧OldK s₁.heap s'.heap∧s'.os=s₁.os∧AllBare s'.gens) s₁:=by
 have rv:=Zia hi
 have lenV:=hi.length
 -- from an abstract heap in which nothing but the script may be tracked
 have core:∀ H:Hp,Only H→SqL K H a (ns.map V.int)→HOk P w H s₁.heap→(∀ b,H b ≠ none→b=a)→(H a ≠ none→K.lookup a=none) →
   codeAny (model P w) callerA (.call (.ref fa) ⟨[.ref a],[]⟩) (fun r s'=>r=.ok (.ret (.bool true))∧OldK s₁.heap s'.heap∧s'.os=s₁.os∧AllBare s'.gens) s₁:=by
  intro H hO hS hok hA hK
  have base_of:∀ {b:Addr} {o:Obj},s₁.heap.get? b=some o→H b=none→(hidT s₁.heap H).get? b=some o:=fun e n=>hidT_get e n
  have noA:∀ {b:Addr} {o:Obj} {es:Array DictEntry} {ep:Nat},s₁.heap.get? b=some o→o.data=.dict es ep→H b=none:=fun {b o es ep} e d=>by
   cases q:H b with
   | none=>rfl
   | some u=>
    have e':b=a:=hA b (by rw [q]; simp)
    subst e'
    rw [ha] at e; cases e
    have d':Data.seq vs.toArray _=Data.dict es ep:=d
    cases d'
  have nsK:∀ {b:Addr} {m:Str→Option Value},s₁.heap.Ns b m→(hidT s₁.heap H).Ns b m:=fun {b m} ⟨o,es,ep,e,d,r⟩=>⟨o,es,ep,base_of e (noA e d),d,r⟩
  have hKb:K.In (hidT s₁.heap H):=fun b o e=>base_of (KX b o e) (by
   cases q:H b with
   | none=>rfl
   | some u=>
    have e':b=a:=hA b (by rw [q]; simp)
    subst e'
    rw [hK (by rw [q]; simp)] at e; cases e)
  have hM:Mod K mg (hidT s₁.heap H):=⟨hKb,nsK hns,⟨mb,nsK hb,hbb⟩,let ⟨mc,h1,h2⟩:=hlim; ⟨mc,nsK h1,h2⟩⟩
  have e0:Env0 P w K mg (hidT s₁.heap H) callerA [] s₁ H:=⟨rfl,hM,fun b o e=>of_hidT e,Nat.le_of_eq (hidT_size _ _),trivial,fun b hb=>absurd (show b ∈ ([]:List Addr) from hb) (by simp),hok,.of_eq hg⟩
  refine codeAny_mono ((F _ hKb (nsK hns)).run callerA [] s₁ H ⟨[.ref a],[]⟩ [.ref a] [.ref a] _ _ hr e0 (hbind s₁ (.ref a)) (.cons rfl .nil) (hsp H hO hS)) fun r s' h=>?_
  cases r with
  | error e=>exact (hCX H e s' h).elim
  | ok fl=>
   cases fl with
   | next=>exact False.elim h
   | brk=>exact False.elim h
   | cont=>exact False.elim h
   | ret u=>
    obtain ⟨v,H',os,bare,un,hok',r',q⟩:=h
    have q':v=.bl true:=q
    subst q'
    obtain rfl:u=Value.bool true:=r'
    refine ⟨rfl,OldK.of_keep fun b o e=>?_,os,bare⟩
    cases q:H b with
    | none=>exact un.keep b o e q (by intro z; exact absurd (show b ∈ ([]:List Addr) from z) (by simp)) (by simp)
    | some u=>
     rcases hO b with z | ⟨ob,xs,z⟩
     ·rw [q] at z; cases z
     ·have z2:=un.frzs b ob _ z
      obtain ⟨e1,_⟩:=hok b _ z
      obtain ⟨e2,_⟩:=hok' b _ z2
      rw [e] at e1; cases e1
      exact e2
 cases hk:K.lookup a with
 | some o=>
  -- the script is one of the module's own objects
  have e:=KX a o hk
  rw [ha] at e
  cases e
  refine core (fun _=>none) (fun _=>.inl rfl) (.inr ⟨_,vs.toArray,_,hk,rfl,rfl,rfl,by rw [List.size_toArray,lenV]; exact hl,by simpa using rv⟩) (fun b u z=>by have z':(none:Option HO)=some u:=z; cases z') (fun b z=>absurd rfl z) fun z=>absurd rfl z
 | none=>
  refine core (fun b=>if b=a then some (.frz { cls:=.type "list",data:=.seq vs.toArray } (.lst (ns.map V.int))) else none) (fun b=>?_) (.inl (.inr ⟨{ cls:=.type "list",data:=.seq vs.toArray },if_pos rfl⟩)) (fun b u z=>?_) (fun b z=>?_) fun _=>hk
  ·by_cases hb:b=a
   ·exact .inr ⟨_,_,if_pos hb⟩
   ·exact .inl (if_neg hb)
  ·by_cases hb:b=a
   ·have z':=(if_pos hb).symm.trans z
    cases z'
    subst hb
    exact ⟨ha,by rw [List.length_map]; exact hl,vs,_,rv,ha⟩
   ·have z':=(if_neg hb).symm.trans z
    cases z'
  ·by_cases hb:b=a
   ·exact hb
   ·exact absurd (if_neg hb) z
end L2
namespace L2
open PySem PySem.Spec PyProof.Rows
theorem walk_of {l:PySem.W.OpenLaw} {n k:Nat} {q:Program} {loose:List Str} {XP:(Str→Option Value)→Heap→Prop} {YP:World→Heap→Prop} {d:DefRec} {K:Params→PySem.W.Frag} {CX:World→CXT} {sp:World→Sp} {x:Str}
  (hn:l.most=some n) (hn2:n ≤ sizeLine) (hdf:d.params.defaults=[]) (hr:Room k callerA)
  (hY:∀ (w:World) (h:Heap),YP w h→(K w.params).In h)
  (F:∀ (w:World) (mg:Str→Option Value) (fa:Addr) (h:Heap),(K w.params).In h→h.Ns mainGlobals mg→mg d.name=some (.ref fa) →
   ∃ fd:FuncData,(∀ (s:Shared) (u:Value),BindsTo s fd ⟨[u],[]⟩ [(x,u)]) ∧
    ∀ base:Heap,(K w.params).In base→base.Ns mainGlobals mg→FnOk l.prog w (K w.params) mg base (CX w) k fa fd [x] (sp w))
  (hsp:∀ (w:World) (H:Hp) (a:Addr) (ns:List Int),ns.length ≤ n→Only H→SqL (K w.params) H a (ns.map V.int)→sp w [.ref a] H (fun v _=>v=.bl true) fun _ _ _=>False)
  (hCX:∀ (w:World) (H:Hp) (s:Shared) (e:Value) (s':Shared),CX w [] H s (fun _ _ _=>False) e s'→False) :
  PySem.W.WalkO q loose XP YP l.row.toRowW d [] (fun f vs=>PySem.call f vs):=by
 refine Att.attach_call hn hdf fun w s₀ s₁ mg mb fa o pm cd doc a vs ns G Y ho hd hcd hmg hobj hints hlen hg=>?_
 have KX:=hY w _ Y
 obtain ⟨fd,hb,hF⟩:=F w mg fa _ KX G.T.g hmg
 exact law_call KX G.T.g G.T.b G.T.builtins G.T.nolimit hg hobj hints (Nat.le_trans hlen hn2) hr hF hb (fun H hO hS=>hsp w H a ns hlen hO hS) fun H e s'=>hCX w H s₁ e s'
end L2
namespace L2
open PySem PySem.Spec PyProof.Rows
noncomputable def Zbe (s:Stmt) (j:Nat):Stmt:=match s with
 | .ClassDef _ _ _ body _ _ _ _ _ _ _=>body.getD j (.Pass ⟨0,0,0,0⟩)
 | _=>.Pass ⟨0,0,0,0⟩
noncomputable def Zam (s:Stmt):Arguments:=match s with
 | .FunctionDef _ a _ _ _ _ _ _ _ _=>a
 | _=>{ posonlyargs:=[],args:=[],vararg:=none,kwonlyargs:=[],kw_defaults:=[],kwarg:=none,defaults:=[] }
noncomputable def Zal (s:Stmt):List Stmt:=match s with
 | .FunctionDef _ _ b _ _ _ _ _ _ _=>b
 | _=>[]
noncomputable def Zab (s:Stmt):Scope:=match s with
 | .FunctionDef _ _ _ _ _ _ sc _ _ _=>sc
 | _=>{ kind:=.function,names:=[],isGenerator:=false,isCoroutine:=false }
noncomputable abbrev CX0:CXT:=fun _ _ _ _ _ _=>False
noncomputable abbrev E0:XK:=fun _ _ _=>False
theorem Zaw {X:Cx}:Zc7 CX0 X E0:=fun _ _ _ _ _ _ _ h=>h.elim
structure Fun (K:PySem.W.Frag) (x qual:Str) (st:Stmt) (f:Addr) (fd:FuncData):Prop where
 ex:∃ (oc:Value) (od:Option Addr) (kV doc pm:Value) (an:Option Addr) (cdv ct:Value) (osl:Array (Option Value)),
  fd=PySem.W.fnOf x qual (Zam st) (Zal st) (Zab st) .none kV doc pm an cdv ct∧K.lookup f=some ⟨oc,od,.func fd,osl⟩∧PySem.W.codeIn K cdv qual=true
 kp:PySem.W.keepIn K (.ref f)=true
section
variable {P:Program} {w:World} {K:PySem.W.Frag} {mg:Str→Option Value} {base:Heap}
theorem Fun.ok {x qual:Str} {st:Stmt} {f:Addr} {fd:FuncData} {N ps:List Str} {k:Nat} {sp:Sp} (F:Fun K x qual st f fd) (S:FnScope N ps (Zab st)) (len:∀ vs H Q E,sp vs H Q E→vs.length=ps.length)
  (hbody:∀ (cdv:Value) (A:Around) (outer:List Env) (s:Shared) (H:Hp) (vs:List V) (Q:VK) (E:XK),Room k (A.deeper (envOfC qual (Zab st) s.heap.objs.size f cdv))→sp vs H Q E →
   ∃ t,PSs (cxOf CX0 P w K mg base N qual (Zab st) f cdv A outer s H E).nox (Zal st) t∧t { nx:=fun _ H'=>Q .non H',rt:=Q } (Zhh N vs) H):FnOk P w K mg base CX0 (k + 1) f fd ps sp:=by
 obtain ⟨oc,od,kV,doc,pm,an,cdv,ct,osl,rfl,lk,hcd⟩:=F.ex
 refine fn_of lk hcd S len fun A outer s H vs Q E hr hsp=>?_
 obtain ⟨t,h,q⟩:=hbody cdv A outer s H vs Q E hr hsp
 exact ⟨t,h.nox,q⟩
theorem Fun.binds {x qual:Str} {st:Stmt} {f:Addr} {fd:FuncData} {ps:List Str} (F:Fun K x qual st f fd)
  (h:∀ (kV doc pm:Value) (an:Option Addr) (cdv ct:Value) (us:List Value),us.length=ps.length→bindArgs (PySem.W.fnOf x qual (Zam st) (Zal st) (Zab st) .none kV doc pm an cdv ct) ⟨us,[]⟩=pure (ps.zip us)):Binds K fd ps []:=by
 obtain ⟨oc,od,kV,doc,pm,an,cdv,ct,osl,rfl,lk,hcd⟩:=F.ex
 exact .all (h kV doc pm an cdv ct)
theorem Zas {x qual:Str} {st:Stmt} {f:Addr} {oc:Value} {od an:Option Addr} {osl:Array (Option Value)} {kV doc pm cdv ct:Value} (l:K.lookup f=some ⟨oc,od,.func (PySem.W.fnOf x qual (Zam st) (Zal st) (Zab st) .none kV doc pm an cdv ct),osl⟩)
  (c:PySem.W.codeIn K cdv qual=true) (k:PySem.W.keepIn K (.ref f)=true):Fun K x qual st f (PySem.W.fnOf x qual (Zam st) (Zal st) (Zab st) .none kV doc pm an cdv ct):=⟨⟨oc,od,kV,doc,pm,an,cdv,ct,osl,rfl,l,c⟩,k⟩
end
theorem Zgz {A:Around} {k:Nat} (hr:Room k A):A.units + 1 < cLine:=Nat.lt_of_le_of_lt (Nat.add_le_add_left (by decide:1 ≤ 64) _) hr.units
section
variable {X:Cx}
theorem pv (i:Nat) {x:Str} {pos:Pos} (hN:X.N[i]? = some x:=by rfl) (hv:Vis X.env.scope x:=by first | exact Or.inl rfl | exact Or.inr (Or.inl rfl) | exact Or.inr (Or.inr rfl)) (hd:(x == ("__debug__" : Str))=false:=by decide)
  (hcd:(x == ("__classdict__" : Str))=false:=by decide):PE X (.Name x pos) (tVar i):=pe_var hN hv hd hcd
end
theorem iteF {A B:Prop} (h:B):if false=true then A else B:=by
 rw [if_neg Bool.false_ne_true]
 exact h
theorem iteT {A B:Prop} (h:A):if true=true then A else B:=by
 rw [if_pos rfl]
 exact h
theorem ite2 {c A B:Prop} [Decidable c] (h1:c→A) (h2:¬ c→B):if c then A else B:=by
 by_cases h:c
 ·rw [if_pos h]
  exact h1 h
 ·rw [if_neg h]
  exact h2 h
noncomputable def Same (H H':Hp):Prop:=∀ b o,H b=some o→H' b=some o
theorem Same.refl (H:Hp):Same H H:=fun _ _ h=>h
theorem Same.trans {H H1 H2:Hp} (a:Same H H1) (b:Same H1 H2):Same H H2:=fun c o h=>b c o (a c o h)
theorem Same.free {H H':Hp} (e:Same H H') {l:Addr} (h:H' l=Option.none):H l=Option.none:=by
 cases q:H l with
 | none=>rfl
 | some o=>
  rw [e l o q] at h
  cases h
theorem Same.seq {K:PySem.W.Frag} {H H':Hp} {a:Addr} {xs:List V} (e:Same H H') (h:SqL K H a xs):SqL K H' a xs:=by
 rcases h with (h | ⟨o,h⟩) | h
 ·exact .inl (.inl (e _ _ h))
 ·exact .inl (.inr ⟨o,e _ _ h⟩)
 ·exact .inr h
section
variable {κ:Type} [DecidableEq κ]
theorem Zjd {kvs:List (κ × V)} {k:κ} {v:V} (h:valV kvs k=some v):k ∈ kvs.map (·.1):=by
 have q:(kvs.any fun kv=>decide (kv.1=k))=true:=by
  rw [Zd6,h]
  all_goals rfl
 obtain ⟨p,hp,e⟩:=List.any_eq_true.mp q
 exact List.mem_map.mpr ⟨p,hp,of_decide_eq_true e⟩
theorem Zlf:∀ {l:List κ} {k:κ},l.Nodup→¬ k ∈ l→(l ++ [k]).Nodup
 | [],k,_,_=>by simp
 | a :: r,k,h,hk=>by
  obtain ⟨h1,h2⟩:=List.nodup_cons.mp h
  show (a :: (r ++ [k])).Nodup
  refine List.nodup_cons.mpr ⟨fun m=>?_,Zlf h2 fun m=>hk (List.mem_cons.mpr (Or.inr m))⟩
  rcases (List.mem_append.mp m) with q | q
  ·exact h1 q
  ·exact hk (List.mem_cons.mpr (Or.inl (List.mem_singleton.mp q).symm))
end
end L2
namespace L2
open PySem PySem.Spec PyProof.Rows
noncomputable def clos (cells:List (Str × Addr)):List (Str × NameKind)→List (Str × Addr)→List (Str × Addr)
 | [],cs=>cs
 | (n,k) :: r,cs=>clos cells r (if k == NameKind.free then (n,(cells.lookup n).getD 0) :: cs else cs)
theorem Zl0 {env:Env}:∀ (ns:List (Str × NameKind)) (cs:List (Str × Addr)),(∀ y ∈ ns,y.2=NameKind.free→(env.cells.lookup y.1).isSome=true) →
  (forIn ns cs fun (p:Str × NameKind) (r:List (Str × Addr))=>
   if (p.2 == NameKind.free)=true then (do let a ← cellOf env p.1; pure (ForInStep.yield ((p.1,a) :: r)):Sem _) else pure (ForInStep.yield r))=(pure (clos env.cells ns cs):Sem _)
 | [],cs,_=>by simp [clos]
 | (n,k) :: r,cs,h=>by
  have ih:=fun cs'=>Zl0 r cs' fun y hy=>h y (List.mem_cons_of_mem _ hy)
  rw [List.forIn_cons]
  by_cases hk:k=NameKind.free
  ·subst hk
   have hs:=h (n,NameKind.free) List.mem_cons_self rfl
   cases e:env.cells.lookup n with
   | none=>rw [e] at hs; cases hs
   | some c=>
    have e1:cellOf env n=pure c:=by unfold cellOf; rw [e]
    have e2:clos env.cells ((n,NameKind.free) :: r) cs=clos env.cells r ((n,c) :: cs):=by simp [clos,e]
    rw [e2,← ih ((n,c) :: cs)]
    (simp only [beq_self_eq_true,if_true])
    rw [e1]
    rfl
  ·have hb:(k == NameKind.free)=false:=by simpa using hk
   have e2:clos env.cells ((n,k) :: r) cs=clos env.cells r cs:=by simp [clos,hb]
   rw [e2,← ih cs]
   (simp only [hb,Bool.false_eq_true,if_false])
   rfl
theorem Zds {scope:Scope} {env:Env} (h:∀ y ∈ scope.names,y.2=NameKind.free→(env.cells.lookup y.1).isSome=true):closureFor scope env=pure (clos env.cells scope.names []):=by
 have e:=Zl0 (env:=env) scope.names [] h
 unfold closureFor
 simp only [bind_pure]
 exact e
theorem Zkj {cells:List (Str × Addr)} {x:Str} {c:Addr}:∀ {ns:List (Str × NameKind)} {cs:List (Str × Addr)},(∀ y ∈ ns,y.2=NameKind.free→(cells.lookup y.1).isSome=true)→(cs.lookup x=some c→cells.lookup x=some c) →
  (clos cells ns cs).lookup x=some c→cells.lookup x=some c
 | [],_,_,h,e=>h e
 | (n,k) :: r,cs,hn,h,e=>by
  refine Zkj (ns:=r) (fun y hy=>hn y (List.mem_cons_of_mem _ hy)) ?_ e
  by_cases hk:k=NameKind.free
  ·subst hk
   (simp only [beq_self_eq_true,if_true])
   intro q
   rw [List.lookup_cons] at q
   by_cases hx:x=n
   ·subst hx
    have hs:=hn (x,NameKind.free) List.mem_cons_self rfl
    simp only [beq_self_eq_true] at q
    cases e1:cells.lookup x with
    | none=>rw [e1] at hs; cases hs
    | some d=>rw [e1] at q; exact q
   ·have hb:(x == n)=false:=by simpa using hx
    rw [hb] at q
    exact h q
  ·have hb:(k == NameKind.free)=false:=by simpa using hk
   (simp only [hb,Bool.false_eq_true,if_false])
   exact h
theorem Zi2 {cells:List (Str × Addr)} {x:Str}:∀ {ns:List (Str × NameKind)} {cs:List (Str × Addr)},(cs.lookup x).isSome=true→((clos cells ns cs).lookup x).isSome=true
 | [],_,h=>h
 | (n,k) :: r,cs,h=>by
  refine Zi2 (ns:=r) ?_
  split
  ·rw [List.lookup_cons]
   split
   ·rfl
   ·exact h
  ·exact h
theorem Zh6 {cells:List (Str × Addr)} {x:Str}:∀ {ns:List (Str × NameKind)} {cs:List (Str × Addr)},(x,NameKind.free) ∈ ns→((clos cells ns cs).lookup x).isSome=true
 | [],_,h=>nomatch h
 | (n,k) :: r,cs,h=>by
  rcases (List.mem_cons.mp h) with e | e
  ·cases e
   refine Zi2 (ns:=r) ?_
   simp
  ·exact Zh6 (ns:=r) e
theorem Zd9 {env:Env} {x:Str} {k:NameKind}:∀ {ns:List (Str × NameKind)},(∀ y ∈ ns,y.2 ≠ NameKind.cell)→k=NameKind.cell ∨ k=NameKind.free →
  (ns.map fun (p:Str × NameKind)=>if (p.2 == NameKind.free && env.scope.kind == .function && env.kindOf p.1 == some .cell) then (p.1,NameKind.cell) else (p.1,p.2)).lookup x=some k→(x,NameKind.free) ∈ ns
 | [],_,_,e=>by simp at e
 | (n,j) :: r,hn,hk,e=>by
  rw [List.map_cons] at e
  by_cases hx:x=n
  ·subst hx
   have hj:j=NameKind.free:=by
    by_cases hc:(j == NameKind.free && env.scope.kind == .function && env.kindOf x == some .cell)=true
    ·simp only [Bool.and_eq_true,beq_iff_eq] at hc
     exact hc.1.1
    ·simp only [hc] at e
     simp at e
     subst e
     rcases hk with q | q
     ·exact absurd q (hn (x,j) List.mem_cons_self)
     ·exact q
   subst hj
   exact List.mem_cons_self
  ·refine List.mem_cons_of_mem _ (Zd9 (env:=env) (fun y hy=>hn y (List.mem_cons_of_mem _ hy)) hk ?_)
   by_cases hc:(j == NameKind.free && env.scope.kind == .function && env.kindOf n == some .cell)=true
   ·simp only [hc,if_true] at e
    rw [List.lookup_cons] at e
    have hb:(x == n)=false:=by simpa using hx
    rw [hb] at e
    exact e
   ·simp only [hc] at e
    simp at e
    rw [List.lookup_cons] at e
    have hb:(x == n)=false:=by simpa using hx
    rw [hb] at e
    simpa using e
noncomputable def lcCx (X:Cx) (N:List Str) (scope:Scope) (C:Addr) (s:Shared) (H:Hp) (fp:List Addr):Cx where
 prog:=X.prog
 w:=X.w
 K:=X.K
 mg:=X.mg
 base:=X.base
 A:=X.A
 N:=N
 s₀:=s
 H₀:=H
 env:=compEnvC scope (clos X.env.cells scope.names []) C X.env
 outer:=X.stack
 stack:=X.stack
 ex:=fp
 fn:=fun _=>false
 calm:=X.calm
 pn:=[]
 xe:=fun _ _=>False
noncomputable def caps (n:Nat) (js:List Nat) (σ:St):St:=List.replicate n none ++ js.map fun j=>(σ[j]?).getD none
structure LcOk (X:Cx) (N:List Str) (sc scope:Scope) (own:List Str) (fr:List Str) (js:List Nat):Prop where
 around:X.env.scope=sc
 names:N=own ++ fr
 kind:scope.kind=.function
 okind:sc.kind=.function
 nocell:∀ y ∈ scope.names,y.2 ≠ NameKind.cell
 free:∀ y ∈ scope.names,y.2=NameKind.free→sc.names.lookup y.1=some NameKind.cell
 loc:∀ y ∈ scope.names,y.2=NameKind.local→scope.names.lookup y.1=some NameKind.local
 at':js.map (fun j=>X.N[j]?)=fr.map some
 cap:∀ x ∈ fr,sc.names.lookup x=some NameKind.cell∧scope.names.lookup x=some NameKind.free
theorem Zg8 {env:Env} {x:Str} (hk:env.scope.kind=.function) (hx:env.kindOf x=some NameKind.cell):∀ {ns:List (Str × NameKind)},ns.lookup x=some NameKind.free →
  (ns.map fun (p:Str × NameKind)=>if (p.2 == NameKind.free && env.scope.kind == .function && env.kindOf p.1 == some .cell) then (p.1,NameKind.cell) else (p.1,p.2)).lookup x=some NameKind.cell
 | [],e=>by simp at e
 | (n,j) :: r,e=>by
  rw [List.map_cons]
  rw [List.lookup_cons] at e
  by_cases hn:x=n
  ·subst hn
   simp only [beq_self_eq_true] at e
   cases e
   have hc:(NameKind.free == NameKind.free && env.scope.kind == .function && env.kindOf x == some .cell)=true:=by rw [hk,hx]; rfl
   simp only [hc,if_true]
   rw [List.lookup_cons]
   simp
  ·have hb:(x == n)=false:=by simpa using hn
   rw [hb] at e
   have ih:=Zg8 hk hx (ns:=r) e
   by_cases hc:(j == NameKind.free && env.scope.kind == .function && env.kindOf n == some .cell)=true
   ·simp only [hc,if_true]
    rw [List.lookup_cons,hb]
    exact ih
   ·rw [if_neg hc,List.lookup_cons,hb]
    exact ih
theorem LcOk.cellAt {X:Cx} {N:List Str} {sc scope:Scope} {own fr:List Str} {js:List Nat} (L:LcOk X N sc scope own fr js) (ok:X.Ok):∀ y ∈ scope.names,y.2=NameKind.free→(X.env.cells.lookup y.1).isSome=true:=fun y hy hf=>by
 obtain ⟨c,e⟩:=ok.has y.1 (.inl (show X.env.scope.names.lookup y.1=_ by rw [L.around]; exact L.free y hy hf))
 rw [e]
 rfl
theorem LcOk.sub {X:Cx} {N:List Str} {sc scope:Scope} {own fr:List Str} {js:List Nat} (L:LcOk X N sc scope own fr js) (ok:X.Ok) {x:Str} {c:Addr} (e:(clos X.env.cells scope.names []).lookup x=some c):X.env.cells.lookup x=some c:=
 Zkj (L.cellAt ok) (fun z=>by simp at z) e
theorem LcOk.len {X:Cx} {N:List Str} {sc scope:Scope} {own fr:List Str} {js:List Nat} (L:LcOk X N sc scope own fr js):js.length=fr.length:=by
 have:=congrArg List.length L.at'
 simpa using this
theorem lc_ctx {X:Cx} {N:List Str} {sc scope:Scope} {own fr:List Str} {js:List Nat} {pins:List (Addr × Obj)} {σ:St} {H:Hp} {s:Shared} {fp:List Addr} (L:LcOk X N sc scope own fr js) (I:Inv X pins σ H s) (hf:∀ b ∈ fp,FpOk X pins H b)
  (ho:∀ b ∈ fp,b < s.heap.objs.size) {C:Addr} (hC:s.heap.objs.size ≤ C):(lcCx X N scope C s H fp).Ok where
 mod:=I.mod
 kind:=L.kind
 glob:=I.ok.glob
 blt:=I.ok.blt
 above:=hC
 inj:=fun x y c e1 e2=>I.ok.inj x y c (L.sub I.ok e1) (L.sub I.ok e2)
 has:=fun x hx=>by
  have hm:(x,NameKind.free) ∈ scope.names:=by
   rcases hx with q | q
   ·exact Zd9 L.nocell (.inl rfl) q
   ·exact Zd9 L.nocell (.inr rfl) q
  have:=Zh6 (cells:=X.env.cells) (cs:=[]) hm
  cases e:(clos X.env.cells scope.names []).lookup x with
  | none=>rw [e] at this; cases this
  | some c=>exact ⟨c,e⟩
 cab:=fun _ _ z _=>nomatch z
 hd:=I.ok.hd
 frames:=I.ok.frames
 stk:=.inl rfl
 exf:=fun b hb=>⟨Nat.ne_of_lt (Nat.lt_of_lt_of_le (ho b hb) hC),fun x c e=>(hf b hb).2.2.2.2.1 x c (L.sub I.ok e)⟩
 bs:=I.bs
 bsz:=Nat.le_trans I.ok.bsz I.sz
 noex:=fun b o e hb=>by
  rcases (hf b hb).2.2.2.1 with q | q
  ·exact I.ok.noex b o e q
  ·exact absurd (Nat.lt_of_lt_of_le (Heap.lt_size (I.ok.bs b o e).1) q) (Nat.lt_irrefl _)
 exfs:=fun b hb hs=>by
  rcases List.mem_cons.mp (I.stkSub b hs) with q | q
  ·exact (hf b hb).2.1 q
  ·exact (hf b hb).2.2.1 q
 funs:=I.stack
 frf:=I.stkFree
theorem getD_none {o:Option (Option V)} {v:V} (h:o.getD none=some v):o=some (some v):=by
 cases o with
 | none=>cases h
 | some u=>cases u with
  | none=>cases h
  | some w=>cases h; rfl
theorem caps_get {n:Nat} {js:List Nat} {σ:St} {i:Nat} {v:V} (e:(caps n js σ)[i]? = some (some v)):∃ k j,i=n + k∧js[k]? = some j∧σ[j]? = some (some v):=by
 unfold caps at e
 by_cases hi:i < n
 ·rw [List.getElem?_append_left (by simpa using hi)] at e
  rw [List.getElem?_replicate] at e
  split at e <;> cases e
 ·rw [List.getElem?_append_right (by simpa using hi)] at e
  simp only [List.length_replicate,List.getElem?_map] at e
  cases q:js[i - n]? with
  | none=>rw [q] at e; cases e
  | some j=>
   rw [q] at e
   exact ⟨i - n,j,by lia,q,getD_none (Option.some.inj e)⟩
theorem Zkb {X:Cx} {N:List Str} {sc scope:Scope} {own fr:List Str} {js:List Nat} {pins:List (Addr × Obj)} {σ:St} {H:Hp} {s:Shared} {fp:List Addr} (L:LcOk X N sc scope own fr js) (I:Inv X pins σ H s) (hf:∀ b ∈ fp,FpOk X pins H b)
  (ho:∀ b ∈ fp,b < s.heap.objs.size) {h':Heap} {m:Str→Option Value} {tk:Nat} (hn:h'.Ns (s.heap.objs.size + 1) m) (hk:∀ b o,s.heap.get? b=some o→h'.get? b=some o)
  (hl:h'.get? s.heap.objs.size=some { cls:=.type "list",data:=.seq ([]:List Value).toArray }) :
  Inv (lcCx X N scope (s.heap.objs.size + 1) s H fp) [] (caps own.length js σ) (upd H s.heap.objs.size (.lst [])) { s with heap:=h',toks:=tk }:=by
 have fresh:∀ a,s.heap.objs.size ≤ a→H a=none:=fun a ha=>I.hok.fresh ha
 have cellAt:∀ x c,(clos X.env.cells scope.names []).lookup x=some c→∃ v,s.heap.IsCell c v:=fun x c e=>I.cell x c (L.sub I.ok e)
 refine ⟨lc_ctx L I hf ho (Nat.le_succ _),rfl,I.bare,Un.laid hk (Nat.le_refl _) (fresh _ (Nat.le_refl _)),⟨m,hn,fun i x v e1 e2 e3=>?_⟩,fun x c e=>?_,?_,fun x c e=>?_,fun p hp=>?_,I.hok.laid hk (Nat.le_refl _) ?_,?_⟩
 ·obtain ⟨k,j,rfl,hj,hv⟩:=caps_get e2
  have hN:(own ++ fr)[own.length + k]? = some x:=by
   have e1':N[own.length + k]? = some x:=e1
   rw [L.names] at e1'
   exact e1'
  rw [List.getElem?_append_right (by lia),Nat.add_sub_cancel_left] at hN
  have hx:x ∈ fr:=List.mem_of_getElem? hN
  have hjx:X.N[j]? = some x:=by
   have:=congrArg (fun l=>l[k]?) L.at'
   simp only [List.getElem?_map,hj,hN,Option.map_some] at this
   exact Option.some.inj this
  obtain ⟨kc',kr'⟩:=L.cap x hx
  have kc:X.env.kindOf x=some NameKind.cell:=by show X.env.scope.names.lookup x=_; rw [L.around]; exact kc'
  have kr:(relabel scope X.env).names.lookup x=some NameKind.cell:=Zg8 (by rw [L.around]; exact L.okind) kc kr'
  obtain ⟨m0,_,hl0⟩:=I.loc
  obtain ⟨u,r,l⟩:=hl0 j x v hjx hv (.inr (.inl kc))
  refine ⟨u,r,.inr ⟨.inl kr,?_⟩⟩
  rcases l with ⟨kk,_⟩ | ⟨_,c,hc,z⟩
  ·rw [kc] at kk; cases kk
  ·have hs:((clos X.env.cells scope.names []).lookup x).isSome=true:=Zh6 (Zd9 L.nocell (.inl rfl) kr)
   cases e:(clos X.env.cells scope.names []).lookup x with
   | none=>rw [e] at hs; cases hs
   | some d=>
    have ed:=L.sub I.ok e
    rw [hc] at ed
    cases ed
    obtain ⟨o,ho',hd⟩:=z
    exact ⟨c,e,o,hk c o ho',hd⟩
 ·obtain ⟨v,o,ho',hd⟩:=cellAt x c e
  exact ⟨v,o,hk c o ho',hd⟩
 ·show upd H s.heap.objs.size _ (s.heap.objs.size + 1)=none
  rw [Zak (Nat.succ_ne_self _)]
  exact fresh _ (Nat.le_succ _)
 ·obtain ⟨v,o,ho',hd⟩:=cellAt x c e
  rw [Zak (Nat.ne_of_lt (Heap.lt_size ho'))]
  exact I.freeC x c (L.sub I.ok e)
 ·exact nomatch hp
 ·exact ⟨Nat.zero_le _,[],0,.nil,hl⟩
 ·show (caps own.length js σ).length=N.length
  rw [L.names]
  simp [caps,L.len]
noncomputable def PIf (X:Cx) (ifs:List Expr) (t:TT):Prop:=
 ∀ (pins:List (Addr × Obj)) (s:Shared) (σ:St) (H:Hp) (Q:Bool→Hp→Prop),Inv X pins σ H s→t σ H Q →
  wpAny (model X.prog X.w) X.A (forIn ifs true fun c r=>if r=true then do let ok ← isTrue c X.env (eval c X.env); pure (ForInStep.yield ok) else pure (ForInStep.yield r)) (TP X pins σ Q) X.xe s
noncomputable def tYes:TT:=fun _ H Q=>Q true H
theorem Zbm {X:Cx}:PIf X [] tYes:=fun _ _ _ H _ I h=>wpAny_tests_nil ⟨H,I,h⟩
theorem Zjh {X:Cx} {c:Expr} {t:TT} (h:PT X c t):PIf X [c] t:=fun pins s σ H Q I q=>wpAny_tests_one (h pins s σ H Q I q)
theorem lc_loop {prog:Program} {w:World} {A:Around} {R:Result→Shared→Prop} {s:Shared} {elt tg iter:Expr} {ifs:List Expr} {scope:Scope} {pos:Pos} {it acc:Value} {env:Env} (J:Nat→Shared→Prop)
  (turn:∀ n s,J n s→wpAny (model prog w) A (pyNext it) (fun r s1=>match r with
   | none=>R (.ok .next) s1
   | some v=>wpAny (model prog w) A (letOwnedTupleGo tg it v) (fun _ s2=>wpAny (model prog w) A (assign tg env v) (fun _ s3=>
     wpAny (model prog w) A (forIn ifs true fun c r=>if r=true then do let ok ← isTrue c env (eval c env); pure (ForInStep.yield ok) else pure (ForInStep.yield r)) (fun ok s4=>
      if ok=true then wpAny (model prog w) A (eval elt env) (fun x s5=>wpAny (model prog w) A (call (.builtin "list.append") [acc,x]) (fun _ s6=>∃ m,m < n∧J m s6) (fun _ _=>False) s5) (fun _ _=>False) s4
      else ∃ m,m < n∧J m s4) (fun _ _=>False) s3) (fun _ _=>False) s2) (fun _ _=>False) s1) (fun _ _=>False) s)
  (n:Nat) (h:J n s):codeAny (model prog w) A (.compLoop (.ListComp elt [⟨tg,iter,ifs,0⟩] scope pos) 0 it acc env) R s:=by
 refine codeAny_loop rfl J (fun n s hJ=>?_) n h
 show wpAny _ A ((compTurn (.ListComp elt [⟨tg,iter,ifs,0⟩] scope pos) 0 it acc env).onRaise (fun x=>do noteFrame x env; theTreesLotGoes x)) _ _ s
 refine wpAny_noted ?_
 rw [compTurn_list]
 refine wpAny_bind (wpAny_standAt (wpAny_bind (wpAny_mono (turn n s hJ) (fun r s1 h1=>?_) fun _ _ f=>f.elim)))
 cases r with
 | none=>exact wpAny_pure h1
 | some v=>
  refine wpAny_bind (wpAny_mono h1 (fun _ s2 h2=>wpAny_bind (wpAny_mono h2 (fun _ s3 h3=>wpAny_bind (wpAny_mono h3 (fun ok s4 h4=>?_) fun _ _ f=>f.elim)) fun _ _ f=>f.elim)) fun _ _ f=>f.elim)
  cases ok with
  | false=>exact wpAny_pure ⟨rfl,h4⟩
  | true=>
   exact wpAny_bind (wpAny_bind (wpAny_mono h4 (fun x s5 h5=>wpAny_bind (wpAny_mono h5 (fun _ s6 h6=>wpAny_pure (wpAny_pure ⟨rfl,h6⟩)) fun _ _ f=>f.elim)) fun _ _ f=>f.elim))
noncomputable def tLcB (J:It) (D:Addr) (σ0:St) (g:TG) (tc:TT) (te:TE) (fin:Hp→Prop) (W:Nat→Nat→List V→Hp→Prop):Prop:=
 ∀ i m ys H,W i m ys H→(J.stop i H∧fin H) ∨ (J.go i H∧∃ N:List V→Hp→Prop,(∀ ys' H',N ys' H'→∃ m',m' < m∧W (i + 1) m' ys' H') ∧
  ∀ x H1,J.yld i H x H1→g x σ0 H1 fun σ2 H2=>(σ2.length=σ0.length∧∀ (i:Nat) v,σ0[i]? = some (some v)→σ2[i]? = some (some v)) ∧
   tc σ2 H2 fun b H3=>if b=true then te σ2 H3 fun y H4=>∃ zs,H4 D=some (.lst zs)∧zs.length < sizeLine∧N (zs ++ [y]) (upd H4 D (.lst (zs ++ [y]))) else N ys H3)
theorem Zkc {X:Cx} {N:List Str} {sc scope:Scope} {own fr:List Str} {js:List Nat} {pins:List (Addr × Obj)} {σ:St} {H:Hp} {s:Shared} {fp:List Addr} {tg iter elt:Expr} {ifs:List Expr} {pos:Pos} {J:It} {it:Addr} {tn:Nat→Heap→Prop}
  {g:TG} {tc:TT} {te:TE} {RR:Value→Addr→Result→Shared→Prop} {E:Value→Shared→Prop} {fin:Addr→Hp→Prop}
  (L:LcOk X N sc scope own fr js) (hc:X.calm=true) (I:Inv X pins σ H s) (T:Turn X.prog X.w X.K tg J fp it tn) (st:tn 0 s.heap) (hf:∀ b ∈ fp,FpOk X pins H b)
  (hg:∀ C s H fp,PG (lcCx X N scope C s H fp) tg g) (hi:∀ C s H fp,PIf (lcCx X N scope C s H fp) ifs tc) (he:∀ C s H fp,PE (lcCx X N scope C s H fp) elt te)
  (h:∀ D,H D=none→∃ W:Nat→Nat→List V→Hp→Prop,(∃ m,W 0 m [] (upd H D (.lst [])))∧tLcB J D (caps own.length js σ) g tc te (fin D) W)
  (hRR:∀ D C s' H',(∃ m,s'.heap.Ns C m)→Inv X pins σ H' s'→FpOk X pins H' C→fin D H'→RR (.ref D) C (.ok .next) s') :
  wpAny (model X.prog X.w) X.A (newList []) (fun acc s3=>wpAny (model X.prog X.w) X.A (newFunctionEnv scope X.env.globals (clos X.env.cells scope.names []) [] X.env.qual none .none (some X.env)) (fun cenv s4=>
   codeAny (model X.prog X.w) X.A (.compStart (.ListComp elt [⟨tg,iter,ifs,0⟩] scope pos) 0 (.ref it) acc { cenv with scope:=relabel scope X.env }) (RR acc cenv.locals) s4) E s3) E s:=by
 have hlt:∀ b ∈ fp,b < s.heap.objs.size:=fun b hb=>by
  obtain ⟨o,e,_⟩:=T.obj 0 _ st b hb
  exact Heap.lt_size e
 refine wpAny_newObj_type (wpAny_newFunctionEnv L.nocell (fun _ z=>nomatch z) (fun h1 n1 b1=>?_) L.kind)
 dsimp only at n1 b1 ⊢
 have hsz:(s.heap.push { cls:=.type "list",dict:=none,data:=.seq ([]:List Value).toArray }).objs.size=s.heap.objs.size + 1:=Heap.size_push ..
 rw [hsz] at n1 b1
 rw [hsz]
 have kept:∀ b o,s.heap.get? b=some o→h1.get? b=some o:=fun b o e=>b1.extBut b o (Nat.ne_of_lt (Nat.lt_succ_of_lt (Heap.lt_size e))) (Heap.get?_push_of_some _ (Heap.get?_push_of_some _ e))
 have isl:h1.get? s.heap.objs.size=some { cls:=.type "list",data:=.seq ([]:List Value).toArray }:=b1.extBut _ _ (Nat.ne_of_lt (Nat.lt_succ_self _)) (Heap.get?_push_of_some _ (Heap.get?_push_size _ rfl))
 have IY:=Zkb (tk:=s.toks + ([]:List (Str × Value)).length) L I hf hlt n1 kept isl
 have fresh:H s.heap.objs.size=none:=I.hok.fresh (Nat.le_refl _)
 obtain ⟨W,⟨m0,w0⟩,turn⟩:=h s.heap.objs.size fresh
 -- the iterator's records through the loop
 have stat:∀ {H':Hp},(∀ b ∈ fp,H' b=none)→∀ b ∈ fp,FpOk (lcCx X N scope (s.heap.objs.size + 1) s H fp) [] H' b:=fun hn b hb=>
  ⟨hn b hb,Nat.ne_of_lt (Nat.lt_succ_of_lt (hlt b hb)),fun z=>by
   rcases List.mem_cons.mp (I.stkSub b z) with q | q
   ·exact (hf b hb).2.1 q
   ·exact (hf b hb).2.2.1 q,.inl hb,fun x c e=>(hf b hb).2.2.2.2.1 x c (L.sub I.ok e),fun _ z=>nomatch z⟩
 have st1:tn 0 h1:=T.keep 0 _ _ st fun b _ o e=>kept b o e
 have loop:∀ s2:Shared,s2={ s with heap:=h1,toks:=s.toks + ([]:List (Str × Value)).length } →
   codeAny (model X.prog X.w) X.A (.compLoop (.ListComp elt [⟨tg,iter,ifs,0⟩] scope pos) 0 (.ref it) (.ref s.heap.objs.size) (lcCx X N scope (s.heap.objs.size + 1) s H fp).env) (RR (.ref s.heap.objs.size) (s.heap.objs.size + 1)) s2:=by
  rintro s2 rfl
  refine lc_loop (fun n s'=>∃ i ys H',Inv (lcCx X N scope (s.heap.objs.size + 1) s H fp) [] (caps own.length js σ) H' s'∧tn i s'.heap∧(∀ b ∈ fp,H' b=none)∧W i n ys H') ?_ m0
   ⟨0,[],_,IY,st1,fun b hb=>by rw [Zak (Nat.ne_of_lt (hlt b hb))]; exact (hf b hb).1,w0⟩
  rintro n s3 ⟨i,ys,H3,I3,st3,fr3,w3⟩
  rcases turn i n ys H3 w3 with ⟨stop,qn⟩ | ⟨go,Nx,hN,step⟩
  ·refine thn (T.done (lcCx X N scope (s.heap.objs.size + 1) s H fp) rfl rfl rfl hc i [] s3 _ H3 _ I3 (stat fr3) st3 stop) fun r s4 hp0=>?_
   obtain ⟨hr,I4⟩:=hp0
   subst hr
   have IX:Inv X pins σ H3 s4:=I.call' (ch:=fp) I4.os I4.base I4.hok I4.bare fun b hb=>⟨(hf b hb).2.2.2.1,(hf b hb).2.1,(hf b hb).2.2.2.2.1,(hf b hb).2.2.2.2.2⟩
   obtain ⟨m,hm,_⟩:=I4.loc
   exact hRR _ _ s4 H3 ⟨m,hm⟩ IX (I.fpOk (Nat.le_succ _) I4.free) qn
  ·refine thn (T.item (lcCx X N scope (s.heap.objs.size + 1) s H fp) rfl rfl rfl hc i [] s3 _ H3 _ I3 (stat fr3) st3 go) fun r s4 hp0=>?_
   obtain ⟨u,hr,h4⟩:=hp0
   subst hr
   refine thn h4 fun _ s5 hp0=>?_
   obtain ⟨x,H5,I5,r5,y5,st5,fr5⟩:=hp0
   have I5':=I5.pinned (stat fr5) (T.obj _ _ st5)
   refine thn (hg _ _ _ _ _ s5 _ H5 x u _ I5' r5 (step x H5 y5)) fun _ s6 hp0=>?_
   obtain ⟨σ6,H6,I6,⟨hl6,hs6⟩,q6⟩:=hp0
   have next:∀ {s7:Shared} {H7:Hp} {zs:List V},Inv (lcCx X N scope (s.heap.objs.size + 1) s H fp) ([] ++ Zg9 fp s5.heap) σ6 H7 s7→Nx zs H7 →
     ∃ m,m < n∧∃ i ys H',Inv (lcCx X N scope (s.heap.objs.size + 1) s H fp) [] (caps own.length js σ) H' s7∧tn i s7.heap∧(∀ b ∈ fp,H' b=none)∧W i m ys H':=fun {s7 H7 zs} I7 n7=>by
    obtain ⟨m',hm,w7⟩:=hN zs H7 n7
    refine ⟨m',hm,i + 1,zs,H7,I7.unpinned.weak hl6.symm hs6,T.keep _ _ _ st5 fun b hb o e=>(I7.pin (b,o) (List.mem_append_right _ (List.mem_append_right _ (Zcw hb e)))).1,fun b hb=>?_,w7⟩
    obtain ⟨o,e,d⟩:=T.obj _ _ st5 b hb
    exact (I7.pin (b,o) (List.mem_append_right _ (List.mem_append_right _ (Zcw hb e)))).2.1
   refine thn (hi _ _ _ _ _ s6 σ6 H6 _ I6 q6) fun ok s7 hp0=>?_
   obtain ⟨H7,I7,q7⟩:=hp0
   cases ok with
   | false=>
    rw [if_neg Bool.false_ne_true] at q7
    exact next I7 q7
   | true=>
    rw [if_pos rfl] at q7
    rw [if_pos rfl]
    refine thn (he _ _ _ _ _ s7 σ6 H7 _ I7 q7) fun y s8 hp0=>?_
    obtain ⟨v8,H8,I8,r8,zs,hz,hzl,q8⟩:=hp0
    refine thn (Zb3 _ s8 σ6 H8 (.ref s.heap.objs.size) [v8] _ [y] (fun _ H9=>Nx (zs ++ [v8]) H9) I8 rfl (.cons r8 .nil) ⟨_,zs,v8,rfl,rfl,hz,hzl,q8⟩) fun _ s9 hp0=>?_
    obtain ⟨_,H9,I9,_,q9⟩:=hp0
    exact next I9 q9
 exact codeAny_compStart_list (loop _ rfl) (T.self X.A 0 _ _ _ st1 (loop _ rfl))
noncomputable def tLc (wi:TI) (n:Nat) (js:List Nat) (g:TG) (tc:TT) (te:TE):TE:=fun σ H Q=>wi σ H fun J H1=>∀ D,H1 D=none →
 ∃ W:Nat→Nat→List V→Hp→Prop,(∃ m,W 0 m [] (upd H1 D (.lst [])))∧tLcB J D (caps n js σ) g tc te (fun H2=>Q (.ref D) H2) W
theorem Zel {X:Cx} {N:List Str} {sc scope:Scope} {own fr:List Str} {js:List Nat} {tg iter elt:Expr} {ifs:List Expr} {pos:Pos} {wi:TI} {g:TG} {tc:TT} {te:TE}
  (L:LcOk X N sc scope own fr js) (hc:X.calm=true) (hI:PI X tg iter wi)
  (hg:∀ C s H fp,PG (lcCx X N scope C s H fp) tg g) (hi:∀ C s H fp,PIf (lcCx X N scope C s H fp) ifs tc) (he:∀ C s H fp,PE (lcCx X N scope C s H fp) elt te)
  (hs:∀ x,foldedSetIterable iter X.env x=pure x:=by intro _; rfl):PE X (.ListComp elt [⟨tg,iter,ifs,0⟩] scope pos) (tLc wi own.length js g tc te):=by
 intro pins s σ H Q I h
 rw [eval_ListComp]
 refine wpAny_comprehension_free (use:=none) rfl hs (Zds (L.cellAt I.ok)) L.kind L.loc ?_
 refine thn (hI pins s σ H _ I h) fun v s1 h1=>thn h1 fun itv s2 h2=>?_
 obtain ⟨it,fp,tn,J,H2,e,I2,T,st,f2,q⟩:=h2
 subst e
 refine Zkc (RR:=fun acc C=>compPost (model X.prog X.w) X.A X.xe none (EP X pins σ Q) acc C) (fin:=fun D H'=>Q (.ref D) H') L hc I2 T st f2 hg hi he q ?_
 intro D C s' H' hm IX fC q'
 obtain ⟨m,hm⟩:=hm
 obtain ⟨f0,f1,_,f3,f4,f5⟩:=fC
 exact ⟨m,hm,fun h' sb=>⟨.ref D,H',IX.turned (t':=s'.toks) (fun b o hb e=>(sb.2 b hb).trans e) f0 f1 f3 f4 f5,rfl,q'⟩⟩
noncomputable def tLcS (i:Nat) (wi:TI) (n:Nat) (js:List Nat) (g:TG) (tc:TT) (te:TE):TS:=fun E σ H=>wi σ H fun J H1=>∀ D,H1 D=none →
 ∃ W:Nat→Nat→List V→Hp→Prop,(∃ m,W 0 m [] (upd H1 D (.lst [])))∧tLcB J D (caps n js σ) g tc te (fun H2=>E.nx (σ.set i (some (.ref D))) H2) W
theorem Zk8 {X:Cx} {N:List Str} {sc scope:Scope} {own fr:List Str} {js:List Nat} {tg iter elt:Expr} {ifs:List Expr} {pos spos py:Pos} {wi:TI} {g:TG} {tc:TT} {te:TE} {i:Nat} {y:Str}
  (hN:X.N.Nodup) (hy:X.N[i]? = some y) (hl:X.env.scope.names.lookup y=some .local)
  (L:LcOk X N sc scope own fr js) (hc:X.calm=true) (hI:PI X tg iter wi)
  (hg:∀ C s H fp,PG (lcCx X N scope C s H fp) tg g) (hi:∀ C s H fp,PIf (lcCx X N scope C s H fp) ifs tc) (he:∀ C s H fp,PE (lcCx X N scope C s H fp) elt te)
  (hw:swapsWith (.ListComp elt [⟨tg,iter,ifs,0⟩] scope pos) (some (.Name y py)) spos.line X.env=pure true:=by rfl)
  (hs:∀ x,foldedSetIterable iter X.env x=pure x:=by intro _; rfl):PS X (.Assign [.Name y py] (.ListComp elt [⟨tg,iter,ifs,0⟩] scope pos) spos) (tLcS i wi own.length js g tc te):=by
 intro pins s σ H E I h
 rw [exec_Assign_Name_used _ _ _ _ hw]
 (refine wpAny_bind (wpAny_standAt (wpAny_bind ?_)))
 show wpAny _ X.A (do let _ ← comprehension (.ListComp elt [⟨tg,iter,ifs,0⟩] scope pos) scope X.env _ (newList []) false (eval iter X.env) (some (assign (.Name y py) X.env))) _ _ s
 refine wpAny_bind (wpAny_mono (wpAny_comprehension_free (use:=some (assign (.Name y py) X.env)) (Q:=fun _ s'=>SP X pins E .next s') rfl hs (Zds (L.cellAt I.ok)) L.kind L.loc ?_) (fun _ s' q=>wpAny_pure (wpAny_pure q)) fun _ _ e=>e)
 refine thn (hI pins s σ H _ I h) fun v s1 h1=>thn h1 fun itv s2 h2=>?_
 obtain ⟨it,fp,tn,J,H2,e,I2,T,st,f2,q⟩:=h2
 subst e
 refine Zkc (RR:=fun acc C=>compPost (model X.prog X.w) X.A X.xe (some (assign (.Name y py) X.env)) (fun _ s'=>SP X pins E .next s') acc C) (fin:=fun D H'=>E.nx (σ.set i (some (.ref D))) H') L hc I2 T st f2 hg hi he q ?_
 intro D C s' H' hm IX fC q'
 obtain ⟨m,hm⟩:=hm
 obtain ⟨f0,f1,_,f3,f4,f5⟩:=fC
 show wpAny _ X.A (assign (.Name y py) X.env (.ref D)) _ _ s'
 refine wpAny_assign_Name (Zid IX hN hy (.inl hl) (v:=.ref D) rfl (fun s3 I3 ha=>?_) (.inr hl))
 obtain ⟨a,sb,ha⟩:=ha
 have hCa:C ≠ a:=by
  rcases ha with z | z
  ·rw [z]; exact f1
  ·exact fun q=>f4 y a z q.symm
 refine ⟨m,hm.sameBut sb hCa,fun h' sb'=>⟨_,H',I3.turned (t':=s3.toks) (fun b o hb e=>(sb'.2 b hb).trans e) f0 f1 f3 f4 f5,q'⟩⟩
end L2
namespace L2
open PySem PySem.Spec PyProof.Rows
section
variable {X:Cx}
theorem Zkl:Zdc X (.builtin "isinstance") (fun xs H Q=>∃ i T,xs=[.int i,.ty T]∧((T = "int" ∧ Q (.bl true) H) ∨ (T = "bool" ∧ Q (.bl false) H))):=by
 intro pins s σ H xs us Q I r h
 obtain ⟨i,T,rfl,h⟩:=h
 obtain ⟨u1,u2,rfl,⟨t,rfl⟩,r2⟩:=Zjc r
 cases r2
 rcases h with ⟨rfl,q⟩ | ⟨rfl,q⟩
 ·exact PySem.IsiPair.int_int ⟨.bl true,H,I,rfl,q⟩
 ·exact PySem.IsiPair.int_bool ⟨.bl false,H,I.tok _,rfl,q⟩
end
mutual
inductive RdV (H:Hp):V→PyData→Prop
 | non:RdV H .non .none
 | int (i:Int):RdV H (.int i) (.int i)
 | str (x:Str):RdV H (.str x) (.str x)
 | tup {a:Addr} {xs:List V} {ds:List PyData}:H a=some (.tup xs)→RdVs H xs ds→RdV H (.ref a) (.tuple ds)
inductive RdVs (H:Hp):List V→List PyData→Prop
 | nil:RdVs H [] []
 | cons {x:V} {d:PyData} {xs:List V} {ds:List PyData}:RdV H x d→RdVs H xs ds→RdVs H (x :: xs) (d :: ds)
end
mutual
theorem RdV.reads {P:Program} {w:World} {H:Hp} {h:Heap} (ok:HOk P w H h):∀ {x:V} {d:PyData} {u:Value},RdV H x d→RelV x u→∃ as,Reads h u d as
 | _,_,_,.non,r=>by cases r; exact ⟨_,.none⟩
 | _,_,_,.int i,r=>by obtain ⟨t,rfl⟩:=r; exact ⟨_,.int i t⟩
 | _,_,_,.str x,r=>by obtain ⟨t,rfl⟩:=r; exact ⟨_,.str x t⟩
 | _,_,_,.tup (a:=a) e rs,r=>by
  cases r
  obtain ⟨z,its,rv,o,ho,hc,n,hd⟩:=ok a _ e
  obtain ⟨as,ra⟩:=RdVs.reads ok rs rv
  exact ⟨as,.tuple ho hc hd (by simpa using ra)⟩
theorem RdVs.reads {P:Program} {w:World} {H:Hp} {h:Heap} (ok:HOk P w H h):∀ {xs:List V} {ds:List PyData} {us:List Value},RdVs H xs ds→Vals xs us→∃ as,ReadsAll h us ds as
 | _,_,_,.nil,r=>by cases r; exact ⟨_,.nil⟩
 | _,_,_,.cons a b,r=>by
  cases r with
  | cons r1 r2=>
   obtain ⟨as,h1⟩:=RdV.reads ok a r1
   obtain ⟨bs,h2⟩:=RdVs.reads ok b r2
   exact ⟨_,.cons h1 h2⟩
end
end L2
namespace ZT
open PySem PyProof.Rows
section
variable {prog:Program} {w:World} {A:Around} {E:Value→Shared→Prop} {s:Shared}
theorem next_item {p t:Addr} {k:Nat} {items:Array Value} {v:Value} {Q:Value→Shared→Prop} (hp:s.heap.IsTupleIter p t k) (ht:s.heap.IsTuple t items) (hv:items[k]? = some v)
  (q:∀ h',h'.IsTupleIter p t (k + 1)→Heap.SameBut p s.heap h'→Q v { s with heap:=h' }):wpAny (model prog w) A (Builtin.SmallTypes.nextOf (.ref p)) Q E s:=by
 obtain ⟨o,ho,c1,c2⟩:=id hp
 obtain ⟨ot,hot,_,nt,dt⟩:=ht
 (unfold Builtin.SmallTypes.nextOf)
 refine wpAny_bind (wpAny_callSpecial?_slot (name:=Str.ofString "__next__") hp.typeIs F.slot_tuple_iterator_next (wpAny_call_entry F.slot_tuple_iterator_next hp.typeIs F.entry_tuple_iterator_next ?_ (F.args_tuple_iterator_next_1 _)))
 show wpAny _ _ (field (.ref p) 0 >>= _) _ _ s
 refine wpAny_bind (wpAny_field ho c2 (x:=.ref t) rfl ?_)
 (show wpAny _ _ (if (Value.ref t == Value.none)=true then _ else _) _ _ s)
 rw [if_neg (by exact Bool.false_ne_true)]
 show wpAny _ _ (field (.ref p) 1 >>= _) _ _ s
 refine wpAny_bind (wpAny_field ho c2 (x:=.int k 0) rfl ?_)
 (show wpAny _ _ (seqItems? (.ref t) >>= _) _ _ s)
 refine wpAny_bind (wpAny_seqItems hot dt ?_)
 simp only [Int.toNat_natCast,hv]
 refine wpAny_bind (wpAny_setField ho c2 (by simp) (wpAny_pure ⟨v,rfl,wpAny_pure (q _ ?_ (Heap.SameBut.update ..))⟩))
 refine ⟨_,Heap.get?_update_self _ ho (Obj.isFreed_of_fields (Obj.data_mapFields c2 _)),(Obj.cls_mapFields ..).trans c1,?_⟩
 rw [Obj.data_mapFields c2]
 simp [rawInt]
theorem next_end {p t:Addr} {k:Nat} {items:Array Value} {Q:Value→Shared→Prop} (hh:A.handled=none) (hp:s.heap.IsTupleIter p t k) (ht:s.heap.IsTuple t items) (hv:items[k]? = none)
  (q:∀ h' e,Heap.ExtBut p s.heap h'→(∃ o,h'.get? e=some o∧o.cls=.type "StopIteration")→E (.ref e) { s with heap:=h' }):wpAny (model prog w) A (Builtin.SmallTypes.nextOf (.ref p)) Q E s:=by
 obtain ⟨o,ho,c1,c2⟩:=id hp
 obtain ⟨ot,hot,_,nt,dt⟩:=ht
 (unfold Builtin.SmallTypes.nextOf)
 refine wpAny_bind (wpAny_callSpecial?_slot (name:=Str.ofString "__next__") hp.typeIs F.slot_tuple_iterator_next (wpAny_call_entry F.slot_tuple_iterator_next hp.typeIs F.entry_tuple_iterator_next ?_ (F.args_tuple_iterator_next_1 _)))
 show wpAny _ _ (field (.ref p) 0 >>= _) _ _ s
 refine wpAny_bind (wpAny_field ho c2 (x:=.ref t) rfl ?_)
 (show wpAny _ _ (if (Value.ref t == Value.none)=true then _ else _) _ _ s)
 rw [if_neg (by exact Bool.false_ne_true)]
 show wpAny _ _ (field (.ref p) 1 >>= _) _ _ s
 refine wpAny_bind (wpAny_field ho c2 (x:=.int k 0) rfl ?_)
 (show wpAny _ _ (seqItems? (.ref t) >>= _) _ _ s)
 refine wpAny_bind (wpAny_seqItems hot dt ?_)
 simp only [Int.toNat_natCast,hv]
 refine wpAny_bind (wpAny_rule (wpAny_bind (wpAny_setField ho c2 (by simp) ?_)))
 (show wpAny _ _ (newExc (.type "StopIteration") [] >>= _) _ _ _)
 refine wpAny_bind ?_
 simp only [newExc,newTuple]
 (refine wpAny_bind (wpAny_newObj_type ?_ (by size_fits)))
 (refine wpAny_bind (m:=firstArgMember _ _) (wpAny_of_eq (a:=Value.none) (by first | rfl | (simp only [firstArgMember]; rfl)) ?_))
 (refine wpAny_newObj_type ?_ (by size_fits))
 simp only [raiseNew]
 (refine wpAny_bind (wpAny_handled ?_))
 (first | rw [show A.in1.handled=none from hh] | rw [hh])
 (refine wpAny_bind (wpAny_pure (wpAny_throw ?_)))
 exact q _ _ (((Heap.SameBut.update ..).extBut.push _).push _) ⟨_,Heap.get?_push_size _ rfl,rfl⟩
end
noncomputable abbrev zI (t:Addr):Obj:={ cls:=.type "tuple_iterator",data:=.fields #[.ref t,.int 0 0] }
end ZT
namespace L2
open PySem PySem.Spec PyProof.Rows
section
variable {X:Cx} {pins:List (Addr × Obj)} {σ:St} {H:Hp} {s:Shared} {h':Heap}
theorem FpOk.not {ch:List Addr} (hf:∀ b ∈ ch,FpOk X pins H b) {b:Addr} {o:HO} (e:H b=some o):b ∉ ch:=fun z=>by
 have:=(hf b z).1
 rw [e] at this
 cases this
theorem Inv.fpT {t:Addr} {zs:List V} (I:Inv X pins σ H s) (ht:SqT X.K H t zs) (f:FpOk X pins H t):False:=by
 rcases ht with hr | ⟨o,_,_,hk,_⟩
 ·rcases hr with hr | ⟨o,hr⟩
  ·rw [f.1] at hr; cases hr
  ·rw [f.1] at hr; cases hr
 ·have e:=I.mod.kin t o hk
  rcases f.2.2.2.1 with q | q
  ·exact I.ok.noex t o e q
  ·exact absurd (Nat.lt_of_lt_of_le (Heap.lt_size (I.ok.bs t o e).1) q) (Nat.lt_irrefl _)
theorem Inv.stepL {t':Nat} {ch:List Addr} (I:Inv X pins σ H s) (hf:∀ b ∈ ch,FpOk X pins H b) (k:∀ b o,b ∉ ch→s.heap.get? b=some o→h'.get? b=some o):Inv X pins σ H { s with heap:=h',toks:=t' }:=by
 refine I.step (g':=s.gens) (d':=s.drawn) (ch:=ch) (fun b hb=>⟨(hf b hb).2.2.2.1,(hf b hb).2.1,(hf b hb).2.2.2.2.1,(hf b hb).2.2.2.2.2⟩) (fun b o _ _ hc e _=>k b o hc e) (fun b o _ _ hc e _=>⟨o.slots,k b o hc e⟩) (fun _ _ _ _ n=>n)
  (fun b o hc e=>⟨o,k b o hc e⟩) (fun _ _ e=>e) (fun _ _ _ e=>e) (fun b ps e=>⟨#[],by rw [e]; simp⟩) (fun m hm=>?_) (fun b u e=>?_) I.bare
 ·obtain ⟨o,es,ep,ho,r⟩:=hm
  exact ⟨o,es,ep,k _ o (fun z=>(hf _ z).2.1 rfl) ho,r⟩
 ·refine (I.hok b u e).stay (fun c v hc q=>k c v ?_ q) (fun _ q=>q) fun _ _ q=>q
  rcases hc with z | z
  ·rw [z]; exact FpOk.not hf e
  ·exact FpOk.not hf z
theorem Inv.stepN {t':Nat} {ch:List Addr} {ob:HO} (I:Inv X pins σ H s) (hf:∀ b ∈ ch,FpOk X pins H b) (k:∀ b o,b ∉ ch→s.heap.get? b=some o→h'.get? b=some o)
  (new:ObjOk X.prog X.w (upd H s.heap.objs.size ob) h' s.heap.objs.size ob):Inv X pins σ (upd H s.heap.objs.size ob) { s with heap:=h',toks:=t' }:=by
 have fr:H s.heap.objs.size=none:=I.hok.fresh (Nat.le_refl _)
 have fz:FpOk X pins H s.heap.objs.size:=I.fpOk (Nat.le_refl _) fr
 have hf':∀ b ∈ s.heap.objs.size :: ch,FpOk X pins H b:=fun b hb=>by
  rcases (List.mem_cons.mp hb) with e | e
  ·rw [e]; exact fz
  ·exact hf b e
 have k':∀ b o,b ∉ s.heap.objs.size :: ch→s.heap.get? b=some o→h'.get? b=some o:=fun b o hb e=>k b o (fun z=>hb (List.mem_cons_of_mem _ z)) e
 have ne:∀ b o,s.heap.get? b=some o→b ≠ s.heap.objs.size:=fun b o e=>Nat.ne_of_lt (Heap.lt_size e)
 refine I.step (g':=s.gens) (d':=s.drawn) (ch:=s.heap.objs.size :: ch) (fun b hb=>⟨(hf' b hb).2.2.2.1,(hf' b hb).2.1,(hf' b hb).2.2.2.2.1,(hf' b hb).2.2.2.2.2⟩) (fun b o _ _ hc e _=>k' b o hc e) (fun b o _ _ hc e _=>⟨o.slots,k' b o hc e⟩)
  (fun b o _ e n=>by rw [Zak (ne b o e)]; exact n) (fun b o hc e=>⟨o,k' b o hc e⟩) (fun b xs e=>by rw [Zak (Zah e fr)]; exact e) (fun b o xs e=>by rw [Zak (Zah e fr)]; exact e)
  (fun b ps e=>⟨#[],by rw [Zak (Zah e fr),e]; simp⟩) (fun m hm=>?_) (fun b u e=>?_) I.bare
 ·obtain ⟨o,es,ep,ho,r⟩:=hm
  exact ⟨o,es,ep,k _ o (fun z=>(hf _ z).2.1 rfl) ho,r⟩
 ·by_cases hb:b=s.heap.objs.size
  ·subst hb
   rw [Zac] at e
   cases e
   exact new
  ·rw [Zak hb] at e
   refine (I.hok b u e).stay (fun c v hc q=>k c v ?_ q) (fun c q=>by rw [Zak (Zah q fr)]; exact q) fun c xs q=>by rw [Zak (Zah q fr)]; exact q
   rcases hc with z | z
   ·rw [z]; exact FpOk.not hf e
   ·exact FpOk.not hf z
end
end L2
namespace L2
open PySem PySem.Spec PyProof.Rows
theorem Same.new {H:Hp} {l:Addr} {o:HO} (h:H l=none):Same H (upd H l o):=fun b u e=>by
 rw [Zak (Zah e h)]
 exact e
theorem Same.put {H H':Hp} {l:Addr} {o:HO} (s:Same H H') (h:H l=none):Same H (upd H' l o):=fun b u e=>by
 rw [Zak (Zah e h)]
 exact s b u e
structure Df (K:PySem.W.Frag) (mg:Str→Option Value) (x:Str) (st:Stmt) (ps:List Str) (f:Addr) (fd:FuncData):Prop where
 F:Fun K x x st f fd
 m:mg x=some (.ref f)
 b:Binds K fd ps []
theorem lcJ {J:It} {n:Nat} {D:Addr} {ρ:St} {tc:TT} {te:TE} {fin:Hp→Prop} {H0:Hp} (Pv:Nat→List V→Hp→Prop) (h0:Pv 0 [] (upd H0 D (.lst [])))
  (go:∀ i ys H,i < n→Pv i ys H→J.go i H) (stop:∀ ys H,Pv n ys H→J.stop n H)
  (hs:∀ i ys H x H1,i < n→Pv i ys H→J.yld i H x H1→tc (some x :: ρ) H1 fun b H3=>if b=true then te (some x :: ρ) H3 fun y H4=>∃ zs,H4 D=some (.lst zs)∧zs.length < sizeLine∧Pv (i + 1) (zs ++ [y]) (upd H4 D (.lst (zs ++ [y]))) else Pv (i + 1) ys H3)
  (hd:∀ ys H,Pv n ys H→fin H):∃ W:Nat→Nat→List V→Hp→Prop,(∃ m,W 0 m [] (upd H0 D (.lst [])))∧tLcB J D (none :: ρ) (Zh3 0) tc te fin W:=by
 refine ⟨fun i m ys H=>m=n - i∧i ≤ n∧Pv i ys H,⟨n,rfl,Nat.zero_le _,h0⟩,?_⟩
 rintro i m ys H ⟨rfl,hi,p⟩
 by_cases hlt:i < n
 ·refine .inr ⟨go i ys H hlt p,Pv (i + 1),fun ys' H' p'=>⟨n - (i + 1),by lia,rfl,hlt,p'⟩,fun x H1 y=>⟨⟨rfl,fun j v e=>?_⟩,hs i ys H x H1 hlt p y⟩⟩
  cases j with
  | zero=>cases e
  | succ j=>exact e
 ·have e:i=n:=by lia
  subst e
  exact .inl ⟨stop ys H p,hd ys H p⟩
theorem Zch {σ:St} {H:Hp} {A B:Hp→Prop} (h:A H):tYes σ H fun b H3=>if b=true then A H3 else B H3:=by
 show if true=true then A H else B H
 rw [if_pos rfl]
 exact h
theorem sub_nones {ρ:St} {x y:V}:(some x :: some y :: ρ:St).length=(none :: none :: ρ:St).length∧∀ (i:Nat) v,(none :: none :: ρ:St)[i]? = some (some v)→(some x :: some y :: ρ:St)[i]? = some (some v):=
 ⟨rfl,fun j v e=>by
  match j,e with
  | 0,e=>cases e
  | 1,e=>cases e
  | j + 2,e=>exact e⟩
section
variable {X:Cx}
theorem Zdb (K:PySem.W.Frag) (h:X.K=K):IxR X (rIxT K):=by
 subst h
 exact Zar
theorem call_tupK (K:PySem.W.Frag) (h:X.K=K):Zdc X (.type "tuple") (fun xs H Q=>∃ p ys,xs=[.ref p]∧((SqL K H p ys∧∀ l,H l=none→Q (.ref l) (upd H l (.tup ys))) ∨ (SqT K H p ys∧Q (.ref p) H))):=by
 subst h
 exact Zcs
theorem Zm9 {e:Expr} {n:Nat} {t:TGs} (K:PySem.W.Frag) (h:X.K=K) (hp:PG X e (gTup X.K n t)):PG X e (gTup K n t):=by
 subst h
 exact hp
end
theorem Zek:bootBuiltins "tuple" = some (.type "tuple"):=by decide +kernel
theorem bt_int:bootBuiltins "int" = some (.type "int"):=by decide +kernel
theorem bt_bool:bootBuiltins "bool" = some (.type "bool"):=by decide +kernel
theorem Zdh:bootBuiltins "isinstance" = some (.builtin "isinstance"):=by decide +kernel
end L2
namespace Tx
open PySem L2 PyProof.Rows
open PySem.PyData (strOk)
end Tx
namespace Rk
open PySem
noncomputable def cs (x:Str):List Nat:=x.cps.toList
theorem Ze0 (x y:Str):cs (x ++ y)=cs x ++ cs y:=by
 show (x.cps ++ y.cps).toList=_
 rw [Array.toList_append]
 rfl
theorem Zm2 {x y:Str} (h:cs x=cs y):x=y:=by
 cases x with | mk a=>
 cases y with | mk b=>
 have:a=b:=Array.toList_inj.mp h
 rw [this]
theorem Zkh (x:Str):(cs x).length=x.length:=by
 show x.cps.toList.length=x.cps.size
 exact Array.length_toList
end Rk
namespace Rk
open PySem
end Rk
namespace Rk
open PySem PyProof.Rows L2 Tx
end Rk
namespace Rk
open PySem PySem.Spec PyProof.Rows L2 Tx
end Rk
namespace SK
open PySem PyProof.Rows
noncomputable def dd {κ:Type} [DecidableEq κ] (val:Nat→κ):Nat→List κ
 | 0=>[]
 | i + 1=>if val i ∈ dd val i then dd val i else dd val i ++ [val i]
section
variable {κ:Type} [DecidableEq κ] {val:Nat→κ}
theorem dd_le:∀ i:Nat,(dd val i).length ≤ i
 | 0=>Nat.le_refl _
 | i + 1=>by
  have ih:=dd_le i
  show (if val i ∈ dd val i then dd val i else dd val i ++ [val i]).length ≤ i + 1
  split
  ·lia
  ·rw [List.length_append]
   show (dd val i).length + 1 ≤ i + 1
   lia
theorem Zly:∀ {i:Nat} {x:κ},x ∈ dd val i→∃ j,j < i∧x=val j
 | 0,_,h=>nomatch h
 | i + 1,x,h=>by
  have h':x ∈ (if val i ∈ dd val i then dd val i else dd val i ++ [val i]):=h
  split at h'
  ·obtain ⟨j,hj,e⟩:=Zly h'
   exact ⟨j,by lia,e⟩
  ·rcases List.mem_append.mp h' with z | z
   ·obtain ⟨j,hj,e⟩:=Zly z
    exact ⟨j,by lia,e⟩
   ·exact ⟨i,by lia,List.mem_singleton.mp z⟩
theorem dd_full {n:Nat} (inj:∀ i j,i < n→j < n→val i=val j→i=j):∀ i:Nat,i ≤ n→(dd val i).length=i
 | 0,_=>rfl
 | i + 1,h=>by
  have ih:=dd_full inj i (by lia)
  show (if val i ∈ dd val i then dd val i else dd val i ++ [val i]).length=i + 1
  rw [if_neg,List.length_append,ih]
  ·rfl
  ·intro z
   obtain ⟨j,hj,e⟩:=Zly z
   have:=inj i j (by lia) (by lia) e
   lia
theorem dd_step (i:Nat) (x:κ):decide (x ∈ dd val (i + 1))=(decide (x ∈ dd val i) || decide (x=val i)):=by
 show decide (x ∈ (if val i ∈ dd val i then dd val i else dd val i ++ [val i]))=_
 by_cases h:val i ∈ dd val i
 ·rw [if_pos h]
  by_cases e:x=val i
  ·subst e; simp [h]
  ·simp [e]
 ·rw [if_neg h]
  simp [List.mem_append]
theorem dd_size (i:Nat):(dd val (i + 1)).length=if decide (val i ∈ dd val i)=true then (dd val i).length else (dd val i).length + 1:=by
 show (if val i ∈ dd val i then dd val i else dd val i ++ [val i]).length=_
 by_cases h:val i ∈ dd val i
 ·rw [if_pos h,if_pos (decide_eq_true h)]
 ·rw [if_neg h,if_neg (by simpa using h),List.length_append]
  rfl
end
section
variable {prog:Program} {w:World} {κ:Type} [DecidableEq κ] {knd:KeyKind prog w κ} {A:Around} {R:Result→Shared→Prop} {I:Addr} {fp wr:List Addr} {G:Array GenState→Array GenState→Prop} {n:Nat} {P:Nat→Value→Prop} {St:Nat→Shared→Prop}
theorem kept {S:Addr} {h h':Heap} {f:κ→Bool} {m:Nat} (q:h.SetOf knd S f m) (e:∀ o,h.get? S=some o→h'.get? S=some o):h'.SetOf knd S f m:=by
 obtain ⟨o,es,ep,t,ho,r⟩:=q
 exact ⟨o,es,ep,t,e o ho,r⟩
theorem Zki {S:Addr} {h:Heap} {f g:κ→Bool} {m k:Nat} (q:h.SetOf knd S f m) (e:∀ x,f x=g x) (em:m=k):h.SetOf knd S g k:=by
 have:f=g:=funext e
 subst this em
 exact q
theorem fill (W:WalksS prog w A.in1 I fp wr G n P St) (S:Addr) (nS:S ∉ fp) (val:Nat→κ) (hv:∀ i v,P i v→knd.is (val i) v=true∧v.scannable=true) (hb:n + 1 < scanBound) :
  ∀ (k i:Nat) (s:Shared),n - i=k→i ≤ n→St i s→s.heap.SetOf knd S (fun x=>decide (x ∈ dd val i)) (dd val i).length →
   (∀ s',Moved (S :: wr) G s s'→s'.heap.SetOf knd S (fun x=>decide (x ∈ dd val n)) (dd val n).length→R (.ok (.ret .none)) s') →
   (codeAny (model prog w) A (.builtin "set.update.loop" ⟨[.ref S,.ref I],[]⟩) R s):=by
 have nw:S ∉ wr:=fun h=>nS (W.sub _ h)
 have sub:∀ b ∈ wr,b ∈ S :: wr:=fun b z=>List.mem_cons_of_mem _ z
 intro k
 induction k with
 | zero=>
  intro i s hk hi st hS fin
  obtain rfl:i=n:=by lia
  refine codeAny_builtin PyProof.Rows.F.entry_set_update_loop ?_
  rw [Around.under_plainId PyProof.Rows.F.plain_set_update_loop _]
  refine wpAny_bind (m:=pyNext (.ref I)) (W.done s _ _ st fun s1 hm=>?_)
  exact wpAny_pure (fin s1 (hm.mono sub) (kept hS fun o e=>hm.heap S o nw e))
 | succ k ih=>
  intro i s hk hi st hS fin
  have lt:i < n:=by lia
  refine codeAny_builtin PyProof.Rows.F.entry_set_update_loop ?_
  rw [Around.under_plainId PyProof.Rows.F.plain_set_update_loop _]
  refine wpAny_bind (m:=pyNext (.ref I)) (W.item i s _ _ lt st fun v s1 hP st1 hm=>?_)
  obtain ⟨key,sc⟩:=hv i v hP
  refine wpAny_bind (m:=holding [v] (setAdd S v)) (wpAny_holding ?_)
  unfold setAdd
  refine wpAny_holding (wpAny_bind (knd.pyHash (k:=val i) key ?_))
  have room:(dd val i).length + 1 < scanBound:=by have:=dd_le (val:=val) i; lia
  refine wpAny_setAddHashed_of (knd:=knd) (s:={ s1 with toks:=s1.toks + 1 }) key sc (kept hS fun o e=>hm.heap S o nw e) room fun h2 sb hS2=>?_
  have hS3:h2.SetOf knd S (fun x=>decide (x ∈ dd val (i + 1))) (dd val (i + 1)).length:=Zki hS2 (fun x=>(dd_step i x).symm) (dd_size i).symm
  have oth:∀ b o,b ≠ S→s1.heap.get? b=some o→h2.get? b=some o:=fun b o z e=>(sb.2 b z).trans e
  refine wpAny_pure ⟨plainId_quiet PyProof.Rows.F.plain_set_update_loop _,ih (i + 1) _ (by lia) lt (W.frame _ s1 h2 (s1.toks + 1) st1 (Nat.le_succ _) fun b hb o e=>oth b o (fun z=>nS (z ▸ hb)) e) hS3 fun s2 hm2 q=>?_⟩
  refine fin s2 (Moved.trans W.gtrans ((hm.mono sub).then_heap (Nat.le_succ _) fun b o hb e=>oth b o (fun z=>hb (z ▸ List.mem_cons_self)) e) hm2) q
end
section
variable {prog:Program} {w:World} {κ:Type} [DecidableEq κ] {knd:KeyKind prog w κ} {A:Around} {E:Value→Shared→Prop} {s:Shared}
noncomputable abbrev fset (led:Bool):Obj:={ cls:=.type "set",dict:=none,data:=.set #[] 0 (.fresh 0 0 led) }
set_option maxHeartbeats 3300000 in
theorem make {l:Addr} {items:Array Value} {val:Nat→κ} {Q:Value→Shared→Prop} (hh:A.handled=none) (hl:s.heap.IsList l items) (hv:∀ i v,items[i]? = some v→knd.is (val i) v=true∧v.scannable=true) (hb:items.size + 1 < scanBound)
  (q:∀ (h':Heap) (tk:Nat),h'.SetOf knd s.heap.objs.size (fun x=>decide (x ∈ dd val items.size)) (dd val items.size).length→(∀ b o,s.heap.get? b=some o→h'.get? b=some o)→Q (.ref s.heap.objs.size) { s with heap:=h',toks:=tk }) :
  (wpAny (model prog w) A (call (.type "set") [.ref l]) Q E s):=by
 obtain ⟨c,tl,hmro⟩:=PySem.F.called_set.mro
 have hmade:=PySem.F.called_set.made
 have hsub:=PySem.F.called_set.sub
 refine wpAny_call (codeAny_of_tree (show wpAny _ _ (callAny (.type "set") _) _ _ _ from ?_))
 refine wpAny_pure ⟨Code.quiet_builtin _ (by decide +kernel),codeAny_builtin PySem.F.entry_type_call ?_⟩
 (rw [Around.under_plain (weight_type_call_type "set" [.ref l] []) rfl])
 have h1:=PySem.F.called_set.notType
 have h2:=PySem.F.called_set.canCreate
 have hct:=PySem.F.typeCall_set_1 (.ref l)
 (repeat (any_goals (first | assumption | wp_step)))
 refine codeAny_mono (code_set_new_1 (.ref l) (E:=E) (Q₁:=fun ob s1=>∃ led:Bool,ob=.ref s.heap.objs.size∧s1={ s with heap:=s.heap.push { cls:=.type "set",dict:=none,data:=.set #[] 0 (.fresh 0 0 led) } }) fun led=>⟨led,rfl,rfl⟩) fun r s1 hr=>?_
 cases r with
 | error e=>exact hr
 | ok fl=>
  cases fl with
  | ret ob=>
   obtain ⟨led,rfl,rfl⟩:=hr
   have hS:(s.heap.push (fset led)).get? s.heap.objs.size=some (fset led):=Heap.get?_push_size _ rfl
   have hT:Shared.TypeIs { s with heap:=s.heap.push (fset led) } (.ref s.heap.objs.size) "set" := ⟨_,hS,rfl⟩
   have hli:=PySem.F.called_set.init.lookup
   have hbi:=PySem.F.called_set.init.bind (.ref s.heap.objs.size)
   (repeat (any_goals (first | assumption | wp_step)))
   refine codeAny_mono (codeAny_call_builtin (R:=wants (fun r s2=>r=.none∧∃ h' tk,s2={ s with heap:=h',toks:=tk }∧h'.SetOf knd s.heap.objs.size (fun x=>decide (x ∈ dd val items.size)) (dd val items.size).length ∧
     (∀ b o,s.heap.get? b=some o→h'.get? b=some o)) E) PySem.F.called_set.init.plain PySem.F.entry_set_init (check_set_init_1 hT ?_)) fun r2 s2 hr2=>?_
   ·obtain ⟨⟨ocls,odict,odata,oslots⟩,hol,hcl,nl,hdl⟩:=hl
    simp only at hcl hdl
    subst hcl hdl
    have hol':(s.heap.push (fset led)).get? l=some { cls:=.type "list",dict:=odict,data:=.seq items nl,slots:=oslots }:=Heap.get?_push_of_some _ hol
    have x1:=PySem.F.sub_list_set
    have x2:=PySem.F.sub_list_frozenset
    have x3:(Value.type "list" == Value.type "dict")=false:=by decide
    have hl1:(s.heap.push (fset led)).IsList l items:=⟨_,hol',rfl,nl,rfl⟩
    (unfold Builtin.«set.__init__» noKeywords Builtin.Frozenset.updateFrom)
    generalize hPI:pyIter=PI
    wp_walk
    subst hPI
    (refine wpAny_pyIter_list hl1 ?_)
    (refine wpAny_bind (wpAny_runValue ?_))
    have lt:l < s.heap.objs.size:=Heap.lt_size hol
    have sz:(s.heap.push (fset led)).objs.size=s.heap.objs.size + 1:=Heap.size_push ..
    (have hh3:A.in1.in1.in1.handled=none:=by simp [hh])
    have ne1:l ≠ (s.heap.push (fset led)).objs.size:=by rw [sz]; exact Nat.ne_of_lt (Nat.lt_succ_of_lt lt)
    have nS:s.heap.objs.size ∉ [(s.heap.push (fset led)).objs.size,l]:=by
     rw [sz]
     simp only [List.mem_cons,List.not_mem_nil,or_false,not_or]
     exact ⟨Nat.ne_of_lt (Nat.lt_succ_self _),Nat.ne_of_gt lt⟩
    refine fill (knd:=knd) ((Walks.list hh3 _ l ne1 items).toS) s.heap.objs.size nS val hv hb (items.size - 0) 0 _ (by lia) (Nat.zero_le _) ⟨⟨_,Heap.get?_push_size _ rfl,rfl,rfl⟩,hl1.push _⟩ ?_ fun s3 hm q3=>?_
    ·have g:=Heap.get?_push_of_some ({ cls:=.type "list_iterator",data:=.fields #[.ref l,.int 0 0] }:Obj) hS
     exact Zki ((PyProof.Rows.setObjOf_fresh (knd:=knd) led).setOf g (by unfold scanBound; lia)) (fun x=>by simp [dd]) rfl
    ·obtain ⟨h3,g3,d3,tk3,os3⟩:=s3
     obtain ⟨m1,m2,m3,m4,m5⟩:=hm
     have eg:g3=s.gens:=m2
     have ed:d3=s.drawn:=m3
     have es:os3=s.os:=m4
     subst eg ed es
     refine wpAny_pure (wpAny_pure ⟨rfl,h3,tk3,rfl,q3,fun b o e=>m1 b o ?_ (Heap.get?_push_of_some _ (Heap.get?_push_of_some _ e))⟩)
     have lb:b < s.heap.objs.size:=Heap.lt_size e
     rw [sz]
     simp only [List.mem_cons,List.not_mem_nil,or_false,not_or]
     exact ⟨Nat.ne_of_lt lb,Nat.ne_of_lt (Nat.lt_succ_of_lt lb)⟩
   ·cases r2 with
    | error e=>exact hr2
    | ok fl2=>
     cases fl2 with
     | ret r=>
      obtain ⟨rfl,h',tk,rfl,a1,a2⟩:=hr2
      (repeat (any_goals (first | assumption | wp_step)))
      exact q _ _ a1 a2
     | _=>exact hr2.elim
  | _=>exact hr.elim
end
end SK
namespace L2
open PySem PySem.Spec PyProof.Rows
section
variable {X:Cx}
theorem call_all (hc:X.calm=true):Zdc X (.builtin "all") (fun xs H Q=>∃ (p:Addr) (bs:List Bool),xs=[.ref p]∧SqL X.K H p (bs.map V.bl)∧Q (.bl (bs.all fun b=>b)) H):=by
 intro pins s σ H xs us Q I r h
 obtain ⟨p,bs,rfl,hp,q⟩:=h
 obtain ⟨u,rfl,ru⟩:=Ze1 r
 cases ru
 obtain ⟨its,rv,pl,hz⟩:=I.list hp
 have hlen:=rv.length
 rw [List.length_map] at hlen
 have hlt:p < s.heap.objs.size:=by
  obtain ⟨o,n,e,_⟩:=pl
  exact Heap.lt_size e
 refine call_all_walk (wpAny_pyIter_list pl.isList ⟨s.heap.objs.size,_,_,_,_,_,fun i=>bs.getD i true,rfl,Walks.list (show X.A.in1.handled=none from I.ok.hd hc) _ p (Nat.ne_of_lt hlt) its.toArray,⟨⟨_,Heap.get?_push_size _ rfl,rfl,rfl⟩,pl.isList.push _⟩,fun i v s2 Q2 E2 hP hQ=>?_,fun h' tk hk=>?_⟩)
 ·have hi:its[i]? = some v:=by simpa using hP
  have hib:i < bs.length:=by
   have:=(List.getElem?_eq_some_iff.mp hi).1
   lia
  obtain ⟨u',hu',ru⟩:=rv.get (i:=i) (x:=.bl bs[i]) (by simp [hib])
  rw [hi] at hu'
  cases hu'
  cases ru
  refine wpAny_truthy_bool ?_
  have e:bs.getD i true=bs[i]:=by simp [List.getD,hib]
  rw [← e]
  exact hQ
 ·refine ⟨.bl _,H,I.kept (t':=tk) (fun b o e=>hk b o ?_ (Heap.get?_push_of_some _ e)),rfl,?_⟩
  ·intro z
   rw [List.mem_singleton] at z
   exact absurd (Heap.lt_size e) (by rw [z]; exact Nat.lt_irrefl _)
  ·have e:(List.range its.toArray.size).all (fun i=>bs.getD i true)=bs.all fun b=>b:=by
    rw [List.size_toArray,← hlen]
    (rw [Bool.eq_iff_iff,List.all_eq_true,List.all_eq_true])
    constructor
    ·intro a b hb
     (obtain ⟨i,hi,rfl⟩:=List.getElem_of_mem hb)
     have:=a i (List.mem_range.mpr hi)
     simpa [List.getD,hi] using this
    ·intro a i hi
     (have hi':=List.mem_range.mp hi)
     have:=a bs[i] (List.getElem_mem hi')
     simpa [List.getD,hi'] using this
   rw [e]
   exact q
noncomputable def setO (P:Program) (w:World) (a:Addr) (n:Nat):HO:=.ext fun h=>∃ S,h.SetOf (Za2 P w) a S n
noncomputable def kAt (ks:List Key) (i:Nat):Key:=ks.getD i (.inl 0)
theorem Zi3 (hc:X.calm=true):Zdc X (.type "set") (fun xs H Q=>∃ p ks,xs=[.ref p]∧SqL X.K H p (ks.map kV)∧ks.length ≤ 1000∧∀ a,H a=none→Q (.ref a) (upd H a (setO X.prog X.w a (SK.dd (kAt ks) ks.length).length))):=by
 intro pins s σ H xs us Q I r h
 obtain ⟨p,ks,rfl,hp,hk,q⟩:=h
 obtain ⟨u,rfl,ru⟩:=Ze1 r
 cases ru
 obtain ⟨its,rv,pl,hz⟩:=I.list hp
 have hlen:=rv.length
 rw [List.length_map] at hlen
 refine SK.make (knd:=Za2 X.prog X.w) (val:=kAt ks) (I.ok.hd hc) pl.isList (fun i v hv=>?_) (by rw [List.size_toArray]; unfold scanBound; lia) fun h' tk hS kp=>?_
 ·have hi:its[i]? = some v:=by simpa using hv
  have hib:i < ks.length:=by
   have:=(List.getElem?_eq_some_iff.mp hi).1
   lia
  obtain ⟨u',hu',ru⟩:=rv.get (i:=i) (x:=kV ks[i]) (by simp [hib])
  rw [hi] at hu'
  cases hu'
  have e:kAt ks i=ks[i]:=by simp [kAt,List.getD,hib]
  rw [e]
  refine ⟨Ziu ru,?_⟩
  cases hkk:ks[i] with
  | inl j=>rw [hkk] at ru; obtain ⟨t,rfl⟩:=ru; rfl
  | inr y=>rw [hkk] at ru; obtain ⟨t,rfl⟩:=ru; rfl
 ·have es:its.toArray.size=ks.length:=by simp [hlen]
  rw [es] at hS
  refine ⟨.ref _,_,I.laid (a:=s.heap.objs.size) (o:=setO X.prog X.w s.heap.objs.size (SK.dd (kAt ks) ks.length).length) kp (Nat.le_refl _) ⟨⟨_,hS⟩,?_,fun h1 h2 f1 e=>?_⟩,rfl,q _ (I.hok.fresh (Nat.le_refl _))⟩
  ·obtain ⟨o,_,_,_,e,_⟩:=hS
   exact ⟨o,e⟩
  ·obtain ⟨S,z⟩:=f1
   exact ⟨S,SK.kept z e⟩
theorem Zi5:Zdc X (.builtin "len") (fun xs H Q=>∃ a n,xs=[.ref a]∧H a=some (setO X.prog X.w a n)∧Q (.int n) H):=by
 intro pins s σ H xs us Q I r h
 obtain ⟨a,n,rfl,ha,q⟩:=h
 obtain ⟨u,rfl,ru⟩:=Ze1 r
 cases ru
 obtain ⟨⟨S,o,es,ep,t,ho,ex,hd,_,_,hb,hf,hn⟩,_,_⟩:=I.hok a _ ha
 refine call_len_set ho ex hd hf (by unfold scanBound at hb; lia) ⟨.int n,H,I.tok _,⟨_,by rw [hn]⟩,q⟩
end
noncomputable def Its (x:Str):It:=⟨fun i _=>i < x.cps.size,fun i H v H'=>H'=H∧∃ c,x.cps[i]? = some c∧v=.str ⟨#[c]⟩,fun i _=>x.cps.size ≤ i⟩
theorem turn_str {P:Program} {w:World} {K:PySem.W.Frag} {tg:Expr} (it:Addr) (x:Str) (t:Tok):Turn P w K tg (Its x) [it] it (fun i h=>h.IsStrIter it "str_ascii_iterator" x t i) where
 mem:=by simp
 obj:=fun i h st b hb=>by
  have e:b=it:=by simpa using hb
  subst e
  obtain ⟨o,e,c,d⟩:=st
  exact ⟨o,e,fun v z=>by rw [d] at z; cases z⟩
 keep:=fun i h h' st k=>by
  obtain ⟨o,e,r⟩:=st
  exact ⟨o,k it (by simp) o e,r⟩
 item:=by
  intro X hP hw hK hc i pins s σ H E I hf st hg
  subst hP hw hK
  obtain ⟨f0,f1,f2,f3,f4,f5⟩:=hf it (by simp)
  have hi:i < x.cps.size:=hg
  refine wpAny_pyNext_ascii_item st (c:=x.cps[i]) (by simp [hi]) fun h' st' sb=>?_
  have I1:Inv X pins σ H { s with heap:=h',toks:=s.toks + 1 }:=I.turned (fun b o hb e=>(sb.2 b hb).trans e) f0 f1 f3 f4 f5
  obtain ⟨o,e,c,d⟩:=id st'
  exact ⟨_,rfl,Zkq (s:={ s with heap:=h',toks:=s.toks + 1 }) e c d (by decide) ⟨.str ⟨#[x.cps[i]]⟩,H,I1,⟨_,rfl⟩,⟨rfl,_,by simp [hi],rfl⟩,st',fun b hb=>(hf b hb).1⟩⟩
 done:=by
  intro X hP hw hK hc i pins s σ H E I hf st hg
  subst hP hw hK
  obtain ⟨f0,f1,f2,f3,f4,f5⟩:=hf it (by simp)
  have hi:x.cps.size ≤ i:=hg
  exact wpAny_pyNext_ascii_end (I.ok.hd hc) st (by simp [hi]) fun h' eb=>⟨rfl,I.turned (t':=s.toks) (fun b o hb e=>eb b o hb e) f0 f1 f3 f4 f5⟩
 self:=fun _ _ _ _ _ st h=>wpAny_pyIter_striter_ascii st h
noncomputable def iStr (tl:TE):TI:=fun σ H R=>tl σ H fun v H1=>∃ x,v=.str x∧x.cps.all (· < 128)=true∧R (Its x) H1
theorem pi_str {X:Cx} {tg l:Expr} {tl:TE} (hl:PE X l tl):PI X tg l (iStr tl):=by
 intro pins s σ H R I h
 refine thn (hl pins s σ H _ I h) fun v s1 hp0=>?_
 obtain ⟨y,H1,I1,r1,q1⟩:=hp0
 obtain ⟨x,e,ha,q⟩:=q1
 subst e
 obtain ⟨t,rfl⟩:=r1
 refine wpAny_pyIter_ascii ha ⟨s1.heap.objs.size,[s1.heap.objs.size],_,_,H1,rfl,I1.kept (t':=s1.toks) fun b o e=>Heap.get?_push_of_some _ e,turn_str _ x t,⟨_,Heap.get?_push_size _ rfl,rfl,rfl⟩,fun b hb=>?_,q⟩
 have e:b=s1.heap.objs.size:=by simpa using hb
 subst e
 exact I1.fpOk (Nat.le_refl _) (I1.hok.fresh (Nat.le_refl _))
end L2
namespace ZN
open PySem PyProof.Rows
end ZN
namespace ZN
open PySem PyProof.Rows
end ZN
namespace L2
open PySem PySem.Spec PyProof.Rows
end L2
namespace L2
open PySem PySem.Spec PyProof.Rows
theorem KV.get2:∀ {kvs:List (Key × V)} {vs:List (Key × Value)} {i:Nat} {k:Key} {v:V},KV kvs vs→kvs[i]? = some (k,v)→∃ u,vs[i]? = some (k,u)∧RelV v u
 | _,_,_,_,_,.nil,e=>by simp at e
 | _,_,0,_,_,.cons (b:=p) r _,e=>by
  simp at e
  subst e
  obtain ⟨e1,e2⟩:=r
  obtain ⟨p1,p2⟩:=p
  cases e1
  exact ⟨p2,rfl,e2⟩
 | _,_,i + 1,_,_,.cons _ t,e=>by
  obtain ⟨v,h1,h2⟩:=KV.get2 (i:=i) t (by simpa using e)
  exact ⟨v,by simpa using h1,h2⟩
section
variable {X:Cx}
theorem Inv.freeze {pins:List (Addr × Obj)} {σ:St} {H:Hp} {s:Shared} {a:Addr} {kvs:List (Key × V)} {o:Obj} (I:Inv X pins σ H s) (ha:H a=some (.dK kvs)) (ho:s.heap.get? a=some o):Inv X pins σ (upd H a (.frz o (.dK kvs))) s:=by
 have hne:∀ b,H b=none→b ≠ a:=fun b e z=>by rw [z,ha] at e; cases e
 have keep:∀ b u,H b=some u→u ≠ .dK kvs→upd H a (.frz o (.dK kvs)) b=some u:=fun b u e d=>by rw [Zak (Za5 e ha d)]; exact e
 have st:Inv X pins σ (upd H a (.frz o (.dK kvs))) { s with heap:=s.heap,gens:=s.gens,drawn:=s.drawn,toks:=s.toks }:=by
  refine I.step (g':=s.gens) (t':=s.toks) (d':=s.drawn) (ch:=[]) (fun b hb=>nomatch hb) (fun b o _ _ _ e _=>e) (fun b o _ _ _ e _=>⟨o.slots,e⟩) (fun b o _ e n=>by rw [Zak (hne b n)]; exact n) (fun b o _ e=>⟨o,e⟩)
   (fun b xs e=>keep b _ e (by intro z; cases z)) (fun b o u e=>keep b _ e (by intro z; cases z)) (fun b ps e=>⟨#[],by rw [keep b _ e (by intro z; cases z)]; simp⟩) (fun m hm=>hm) (fun b u e=>?_) I.bare
  by_cases hb:b=a
  ·subst hb
   rw [Zac] at e
   cases e
   exact ⟨ho,I.hok _ _ ha⟩
  ·rw [Zak hb] at e
   exact (I.hok b u e).stay (fun c v _ q=>q) (fun c q=>keep c _ q (by intro z; cases z)) fun c xs q=>keep c _ q (by intro z; cases z)
 exact st
end
theorem Zlu {X:Cx} {pins:List (Addr × Obj)} {σ:St} {H:Hp} {s:Shared} {a:Addr} {o:Obj} {kvs:List (Key × V)} {es:Array DictEntry} {ep:Nat} (I:Inv X pins σ H s) (ha:H a=some (.frz o (.dK kvs))) (hd:o.data=.dict es ep) :
  ∃ vs,KV kvs vs∧s.heap.DictAt (Za2 X.prog X.w) a vs ep:=by
 obtain ⟨ho,hz,hm,vs,hkv,o',es',ep',ho',ex,hd',r⟩:=I.hok a _ ha
 rw [ho] at ho'
 cases ho'
 rw [hd] at hd'
 cases hd'
 exact ⟨vs,hkv,o,es,ho,ex,hd,r⟩
theorem Zhl {u:Value} {v:V} (h:absV u=some v):RelV v u:=by
 cases u with
 | none=>cases h; rfl
 | bool b=>cases h; rfl
 | int i t=>cases h; exact ⟨t,rfl⟩
 | str x t=>cases h; exact ⟨t,rfl⟩
 | bytes b t=>cases h; exact ⟨t,rfl⟩
 | float b t=>cases h; exact ⟨t,rfl⟩
 | ref a=>cases h; rfl
 | type n=>cases h; rfl
 | _=>cases h
section
variable {X:Cx}
theorem Ziy (x:Str):Str.empty ++ x=x:=by
 cases x with | mk a=>
 show Str.mk (#[] ++ a)=Str.mk a
 rw [Array.empty_append]
theorem Zg6:∀ {ys:List Str} {us:List Value},Vals (ys.map V.str) us→StrsAre us ys
 | [],_,h=>by cases h; exact .nil
 | y :: ys,_,h=>by
  cases h with
  | cons r t=>
   obtain ⟨tk,rfl⟩:=r
   exact .cons y tk (Zg6 t)
theorem mt_join:MtR X "str.join" (fun x xs H Q=>∃ a p ys,x=.str a∧xs=[.ref p]∧SqL X.K H p (ys.map V.str)∧(ys.map (·.length)).sum + ys.length * a.length ≤ 16777216∧Q (.str (Txt.join a ys)) H):=by
 intro pins s σ H x xs v us Q I rx rv h
 obtain ⟨a,p,ys,rfl,rfl,hp,hz,q⟩:=h
 obtain ⟨t,rfl⟩:=rx
 obtain ⟨u,rfl,ru⟩:=Ze1 rv
 cases ru
 obtain ⟨its,r,pl,_⟩:=I.list hp
 exact join_list pl.isList (by simpa using Zg6 r) hz fun t' k=>⟨.str _,H,I.tok k,⟨t',rfl⟩,q⟩
theorem Zfl:Zdc X (.builtin "isinstance") (fun xs H Q=>∃ x,xs=[.str x,.ty "str"]∧Q (.bl true) H):=by
 intro pins s σ H xs us Q I r h
 obtain ⟨x,rfl,q⟩:=h
 obtain ⟨u1,u2,rfl,⟨t,rfl⟩,r2⟩:=Zjc r
 cases r2
 exact PySem.IsiPair.str_str ⟨.bl true,H,I,rfl,q⟩
end
theorem Zd5:bootBuiltins "list" = some (.type "list"):=by decide +kernel
theorem Zl2:bootBuiltins "set" = some (.type "set"):=by decide +kernel
theorem Zkm:bootBuiltins "str" = some (.type "str"):=by decide +kernel
theorem bt_all:bootBuiltins "all" = some (.builtin "all"):=by decide +kernel
end L2
namespace ZN
open PySem PyProof.Rows
end ZN
namespace L2
open PySem PySem.Spec PyProof.Rows
end L2
namespace ZN
open PySem PyProof.Rows
end ZN
namespace L2
open PySem PySem.Spec PyProof.Rows
section
variable {X:Cx}
theorem call_isiT:Zdc X (.builtin "isinstance") (fun xs H Q=>∃ a ys,xs=[.ref a,.ty "tuple"]∧H a=some (.tup ys)∧Q (.bl true) H):=by
 intro pins s σ H xs us Q I r h
 obtain ⟨a,ys,rfl,ha,q⟩:=h
 obtain ⟨u1,u2,rfl,r1,r2⟩:=Zjc r
 cases r1
 cases r2
 obtain ⟨z2,its2,r2,o,ho,hc,n2,hd⟩:=I.hok a _ ha
 exact PySem.IsiPair.tuple_tuple ho hc ⟨.bl true,H,I,rfl,q⟩
theorem Zi7:bootBuiltins "sorted" = some (.builtin "sorted"):=by decide +kernel
end
end L2
namespace L2
open PySem PySem.Spec PyProof.Rows
end L2
namespace L2
open PySem PySem.Spec PyProof.Rows PySem.W
section
variable {P:Program} {w:World}
theorem ObjOk.there {H:Hp} {h:Heap} {a:Addr} {o:HO} (x:ObjOk P w H h a o):∃ ob,h.get? a=some ob:=by
 cases o with
 | lst xs=>obtain ⟨_,_,_,_,e⟩:=x; exact ⟨_,e⟩
 | tup xs=>obtain ⟨_,_,_,ob,e,_⟩:=x; exact ⟨_,e⟩
 | dK kvs=>obtain ⟨_,_,_,_,o,_,_,e,_⟩:=x; exact ⟨_,e⟩
 | dT kvs=>obtain ⟨_,_,_,_,o,_,_,e,_⟩:=x; exact ⟨_,e⟩
 | set S n=>obtain ⟨o,_,_,_,e,_⟩:=x; exact ⟨_,e⟩
 | ins C dx fs=>obtain ⟨_,_,_,e,_⟩:=x; exact ⟨_,e⟩
 | own y=>exact x
 | xd fs=>obtain ⟨_,⟨_,_,_,e,_⟩,_⟩:=x; exact ⟨_,e⟩
 | rng lo hi=>obtain ⟨_,_,_,e⟩:=x; exact ⟨_,e⟩
 | frz ob u=>obtain ⟨e,_⟩:=x; exact ⟨_,e⟩
 | tbl ps=>exact ⟨_,x⟩
 | met f y=>exact ⟨_,x⟩
 | ext φ=>obtain ⟨_,e,_⟩:=x; exact e
structure Fly (P:Program) (w:World) (outer:List Env) (H:Hp) (s:Shared) (a:Addr) (H':Hp) (B:Heap) (s':Shared):Prop where
 os:s'.os=s.os
 bare:AllBare s'.gens
 un:Un (frs outer) [] H H' s.heap s'.heap
 hok:HOk P w H' s'.heap
 funs:s'.heap.FunFrames B outer
 new:H' a=none
 fresh:s.heap.get? a=none
 k1:∀ b o,s.heap.get? b=some o→H b=none→b ∉ frs outer→B.get? b=some o
 k2:∀ c v,H' c ≠ none→s'.heap.get? c=some v→B.get? c=some v
 k3:∀ b o,s.heap.get? b=some o→b ∉ frs outer→∃ o',B.get? b=some o'
noncomputable def CXe (P:Program) (w:World):CXT:=fun outer H s E e s'=>∃ (a C t:Addr) (H':Hp) (B:Heap),e=.ref a∧Fly P w outer H s a H' B s'∧Heap.FlyingW B outer a (.ref C) (.ref t) s'.heap∧E e (some C) H'
theorem Zmw {X:Cx} {pins:List (Addr × Obj)} {σ:St} {H H':Hp} {s s':Shared} {a C:Addr} {B h':Heap} {env:Env} {outer:List Env} (I:Inv X pins σ H s) (hex:X.ex=[]) (hst:X.stack=env :: outer) (hout:X.outer=outer) (hf:env.frame=some X.env.locals)
  (F:Fly X.prog X.w X.stack H s a H' B s') {t:Addr} (hfl:Heap.FlyingW B outer a (.ref C) (.ref t) h') (ups:s'.heap.UpToSlots h'):Fly X.prog X.w outer X.H₀ X.s₀ a H' B { s' with heap:=h' }:=by
 subst hout
 have hsub:∀ b,b ∈ X.fs→b ∈ frs X.stack:=fun b hb=>by
  rw [hst]
  unfold frs
  rw [List.filterMap_cons,hf]
  exact List.mem_cons_of_mem _ hb
 have hmem:∀ b,b ∈ frs X.stack→b=X.env.locals ∨ b ∈ X.fs:=fun b hb=>by
  rw [hst] at hb
  unfold frs at hb
  rw [List.filterMap_cons,hf] at hb
  exact List.mem_cons.mp hb
 have hold:∀ b o,X.s₀.heap.get? b=some o→b ≠ X.env.locals:=fun b o e z=>by
  have h1:=Heap.lt_size e
  rw [z] at h1
  exact absurd (Nat.lt_of_lt_of_le h1 I.ok.above) (Nat.lt_irrefl _)
 have nex:∀ b:Addr,b ∉ X.ex:=fun b z=>by rw [hex] at z; cases z
 have hout2:∀ b o,X.s₀.heap.get? b=some o→b ∉ X.fs→b ∉ frs X.stack:=fun b o e hb z=>by
  rcases hmem b z with q | q
  ·exact hold b o e q
  ·exact hb q
 have k1:∀ b o,X.s₀.heap.get? b=some o→X.H₀ b=none→b ∉ X.fs→B.get? b=some o:=fun b o e n hb=>
  F.k1 b o (I.base.keep b o e n hb (nex b)) (I.base.free b o e n (nex b)) (hout2 b o e hb)
 have hok:HOk X.prog X.w H' h':=fun b u e=>(F.hok b u e).stay (fun c v hc q=>hfl.1 c v (F.k2 c v (by
  rcases hc with z | z
  ·rw [z,e]; intro z; cases z
  ·rw [z]; intro z; cases z) q)) (fun _ q=>q) fun _ _ q=>q
 have slot:∀ b o,X.s₀.heap.get? b=some o→X.H₀ b=none→b ∈ X.fs→∃ sl,h'.get? b=some { o with slots:=sl }:=fun b o e n hb=>by
  obtain ⟨sl,e1⟩:=I.base.slot b o e n hb (nex b)
  obtain ⟨sl2,e2⟩:=F.un.slot b _ e1 (I.base.free b o e n (nex b)) (hsub b hb) (by simp)
  obtain ⟨_,o',ho',hd⟩:=F.funs.mem (hsub b hb)
  rw [e2] at ho'
  cases ho'
  obtain ⟨sl3,e3⟩:=ups b _ e2 hd
  exact ⟨sl3,e3⟩
 have free:∀ b o,X.s₀.heap.get? b=some o→X.H₀ b=none→H' b=none:=fun b o e n=>by
  obtain ⟨sl,e1⟩:=I.base.any e n (nex b)
  exact F.un.free b _ e1 (I.base.free b o e n (nex b)) (by simp)
 have there:∀ b o,X.s₀.heap.get? b=some o→∃ o',h'.get? b=some o':=fun b o e=>by
  by_cases hb:b ∈ X.fs
  ·have n:=I.ok.frf b hb
   obtain ⟨sl,q⟩:=slot b o e n hb
   exact ⟨_,q⟩
  ·obtain ⟨o1,e1⟩:=I.base.there b o e (nex b)
   obtain ⟨o2,e2⟩:=F.k3 b o1 e1 (hout2 b o e hb)
   exact ⟨o2,hfl.1 b o2 e2⟩
 refine ⟨F.os.trans I.os,F.bare,⟨fun b o e n hb _=>hfl.1 b o (k1 b o e n hb),fun b o e n hb _=>slot b o e n hb,fun b o e n _=>free b o e n,fun b o e _=>there b o e,fun b xs q=>F.un.tups b xs (I.base.tups b xs q),fun b o u q=>F.un.frzs b o u (I.base.frzs b o u q),fun b ps q=>?_⟩,hok,hfl.2.2.1,F.new,?_,k1,fun c v hc q=>?_,fun b o e hb=>?_⟩
 ·obtain ⟨m1,q1⟩:=I.base.tbls b ps q
  obtain ⟨m2,q2⟩:=F.un.tbls b _ q1
  exact ⟨m1 ++ m2,by rw [q2,Array.append_assoc]⟩
 ·cases z:X.s₀.heap.get? a with
  | none=>rfl
  | some o=>
   obtain ⟨o',e'⟩:=I.base.there a o z (nex a)
   rw [F.fresh] at e'
   cases e'
 ·cases hu:H' c with
  | none=>exact absurd hu hc
  | some u=>
   obtain ⟨v',hv'⟩:=(F.hok c u hu).there
   have hB:=F.k2 c v' hc hv'
   have q':h'.get? c=some v:=q
   rw [hfl.1 c v' hB] at q'
   cases q'
   exact hB
 ·obtain ⟨o1,e1⟩:=I.base.there b o e (nex b)
  exact F.k3 b o1 e1 (hout2 b o e hb)
theorem Zlc {P:Program} {w:World} {K:PySem.W.Frag} {mg:Str→Option Value} {base:Heap} {N:List Str} {qual:Str} {scope:Scope} {f:Addr} {cd:Value} {A:Around} {outer:List Env} {s0:Shared} {H0:Hp} {E:XK} :
  Zc7 (CXe P w) (cxOf (CXe P w) P w K mg base N qual scope f cd A outer s0 H0 E) E:=by
 intro pins σ H s e s' I h
 obtain ⟨a,C,t,H',B,rfl,F,hfl,q⟩:=h
 exact wpAny_leaves_onW I.ok.frames rfl hfl fun h' hfl' ups=>⟨a,C,t,H',B,rfl,Zmw I rfl rfl rfl rfl F hfl' ups,hfl',q⟩
noncomputable def ExcAt (h:Heap) (C:Addr) (bmB:List Value) (newId:String) (bm:List Value):Prop:=
 ∃ (N:Addr) (nm qn:Str) (bs:List Value) (hdct:Bool) (sn:List Str) (sub:List Value) (ab:Bool) (col:Option Bool) (dd:Option Addr) (k0 k1 k2 k3 k5:Option Value) (mN:Str→Option Value),
  h.get? C=some (excClassObj nm qn C N bs bm hdct sn sub ab col dd k0 k1 k2 k3 k5 newId)∧h.Ns N mN∧mN "__init__" = none∧OwnTail h bmB bm
theorem Zmp {K:Frag} {h:Heap} {C:Addr} {bmB:List Value} {newId:String} (X:K.In h) (g:excIn K C bmB newId=true):∃ bm,ExcAt h C bmB newId bm:=by
 unfold excIn at g
 split at g
 ·rename_i dict0 cls0 slots0 at0
  split at g
  ·rename_i first0 tail0 a0 a1 a2 a3 new0 a5 mro0 list0
   have g':=g
   simp only [Bool.and_eq_true,beq_iff_eq,Bool.not_eq_true'] at g'
   obtain ⟨⟨⟨⟨⟨r1,r2⟩,r3⟩,r4⟩,r5⟩,r6⟩:=g'
   subst r1 r2
   obtain ⟨c1,c2,c3,c4,c5,c6,c7,c8,c9,c10,c11⟩:=cls0
   dsimp only at mro0 r3 r5 r6
   subst mro0 r3
   have slots1:slots0=#[a0,a1,a2,a3,some (.builtin new0),a5]:=Array.toList_inj.mp list0
   subst slots1
   exact ⟨tail0,c4,c1,c5,c2,c6,c7,c8,c9,c10,dict0,a0,a1,a2,a3,a5,_,X _ _ at0,.of_isNs (isNs_of_in X r5),nsMap_none_of_in X r5 r6,tail_of_in X r4⟩
  ·cases g
 ·cases g
abbrev bmV:List Value:=[.type "ValueError",.type "Exception",.type "BaseException",.type "object"]
noncomputable def tRaise (t:TA) (E:XK) (C:Addr):TS:=fun _ σ H=>t σ H fun vs H1=>vs.length ≤ 1000∧∀ a,H1 a=none→E (.ref a) (some C) H1
theorem Zho {P:Program} {w:World} {K:PySem.W.Frag} {mg:Str→Option Value} {base:Heap} {N:List Str} {qual:Str} {scope:Scope} {f:Addr} {cd:Value} {A:Around} {outer:List Env} {s0:Shared} {H0:Hp} {E:XK} {C:Addr} {x:Str} {np cpos pos:Pos} {e₀:Expr} {es:List Expr} {t:TA}
  (ow:excIn K C bmV "ValueError.__new__" = true) (hg:Gl (cxOf (CXe P w) P w K mg base N qual scope f cd A outer s0 H0 E) x) (hm:mg x=some (.ref C)) (ha:PA (cxOf (CXe P w) P w K mg base N qual scope f cd A outer s0 H0 E) (e₀ :: es) t)
  (he:starEach (e₀ :: es) (envOfC qual scope s0.heap.objs.size f cd)=(false,eval e₀ (envOfC qual scope s0.heap.objs.size f cd)) :: starEach es (envOfC qual scope s0.heap.objs.size f cd):=by rfl)
  (hpl:(backTo cpos (starEach es (envOfC qual scope s0.heap.objs.size f cd))).any (·.1)=false:=by rfl) (hdb:(x == ("__debug__" : Str))=false:=by decide) :
  PS (cxOf (CXe P w) P w K mg base N qual scope f cd A outer s0 H0 E) (.Raise (some (.Call (.Name x np) (e₀ :: es) [] cpos)) none pos) (tRaise t E C):=by
 intro pins s σ H D I hw
 obtain ⟨bm,NN,nm,qn,bs,hdct,sn,sub,ab,col,dd,k0,k1,k2,k3,k5,mN,hC,hN,hni,TL⟩:=Zmp I.ok.mod.kin ow
 refine wpAny_Raise_call_subT (C:=C) (nm:=nm) (q:=qn) (N:=NN) (bs:=bs) (bm:=bm) (hdct:=hdct) (sn:=sn) (sub:=sub) (ab:=ab) (col:=col) (dd:=dd) (k0:=k0) (k1:=k1) (k2:=k2) (k3:=k3) (k5:=k5)
  F.excBase_ValueError (mN:=mN) (TL.hasType F.excBase_ValueError.hasBase) (I.ok.hd rfl) ?_ hni (Zfv I hg hm ⟨rfl,?_⟩ hdb)
 ·show (backTo cpos (starEach (e₀ :: es) (envOfC qual scope s0.heap.objs.size f cd))).any (·.1)=false
  rw [he]
  show (false || (backTo cpos (starEach es (envOfC qual scope s0.heap.objs.size f cd))).any (·.1))=false
  rw [hpl]
  rfl
 have h0:=ha cpos pins s σ H _ I hw
 show wpAny (model P w) _ (evalArgs (.ref C) true (backTo cpos (starEach (e₀ :: es) (envOfC qual scope s0.heap.objs.size f cd))) []) _ _ s
 have h1:wpAny (model P w) (A.deeper (envOfC qual scope s0.heap.objs.size f cd)) (spliced (backTo cpos (starEach (e₀ :: es) (envOfC qual scope s0.heap.objs.size f cd)))) _ _ s:=h0
 rw [he] at h1 ⊢
 refine Calls.evalArgs_plain (wpAny_mono h1 (fun us s2 hp0=>?_) fun _ _ y=>y)
 obtain ⟨vs,H1,I1,r,hz,q⟩:=hp0
 have hus:=r.length
 have hsl:sizeLine=16777216:=sizeLine_eq
 refine ⟨rfl,by show us.length ≤ sizeLine; lia,I1.bk _ _ hC,hN.keeps I1.bk,TL.keeps I1.bk,fun h' e hx=>?_⟩
 -- it leaves the frame
 have hin:∀ env ∈ (envOfC qual scope s0.heap.objs.size f cd :: outer),∀ b,env.frame=some b→b ∈ frs (envOfC qual scope s0.heap.objs.size f cd :: outer):=fun env hm b hb=>List.mem_filterMap.mpr ⟨env,hm,hb⟩
 have funs:s2.heap.FunFrames (hideAll s2.heap (frs (envOfC qual scope s0.heap.objs.size f cd :: outer))) (envOfC qual scope s0.heap.objs.size f cd :: outer):=funFrames_hide I1.stack hin
 have hfree:=I1.stkFree
 have hnew:H1 e=none:=by
  cases z:H1 e with
  | none=>rfl
  | some u=>
   obtain ⟨ob,q⟩:=(I1.hok e u z).there
   rw [hx.new] at q
   cases q
 refine wpAny_leaves_madeW I1.ok.frames rfl (fun b o q=>of_hideAll _ q) funs hx fun h'' t' hfl htup hnt ups=>?_
 refine ⟨e,C,t',H1,_,rfl,Zmw (s':={ s2 with heap:=h' }) I1 rfl rfl rfl rfl ⟨rfl,I1.bare,Un.kept hx.keeps,I1.hok.kept hx.keeps,funs.of_keeps (fun b o hb _=>⟨o,hx.keeps b o hb,rfl⟩),hnew,hx.new,fun b o q _ hb=>hideAll_get _ q hb,fun c v hc q=>?_,fun b o q hb=>⟨o,hideAll_get _ q hb⟩⟩ hfl ups,hfl,q e hnew⟩
 cases z:H1 c with
 | none=>exact absurd z hc
 | some u=>
  obtain ⟨ob,q2⟩:=(I1.hok c u z).there
  have q3:h'.get? c=some v:=q
  rw [hx.keeps c ob q2] at q3
  cases q3
  exact hideAll_get _ q2 fun hb=>by
   have:=hfree c hb
   rw [z] at this
   cases this
end
end L2
namespace L2
open PySem PySem.Spec PyProof.Rows PySem.W
noncomputable abbrev Cx.at' (X:Cx) (pn:List (Addr × Obj)) (xe:Value→Shared→Prop):Cx:={ X with pn:=pn,xe:=xe }
noncomputable abbrev Cx.held (X:Cx) (a:Addr) (xe:Value→Shared→Prop):Cx:={ X with A:=X.A.mark (some (.ref a)),calm:=false,xe:=xe }
section
variable {X:Cx} {pins:List (Addr × Obj)} {σ:St} {H:Hp} {s:Shared}
theorem Inv.at' (I:Inv X pins σ H s) (xe:Value→Shared→Prop):Inv (X.at' (X.pn ++ pins) xe) [] σ H s:=
 ⟨⟨I.ok.mod,I.ok.kind,I.ok.glob,I.ok.blt,I.ok.above,I.ok.inj,I.ok.has,I.ok.cab,I.ok.hd,I.ok.frames,I.ok.stk,I.ok.exf,I.ok.bs,I.ok.bsz,I.ok.noex,I.ok.exfs,I.ok.funs,I.ok.frf⟩,I.os,I.bare,I.base,I.loc,I.cell,I.free,I.freeC,
  fun p hp=>I.pin p (by rw [List.append_nil] at hp; exact hp),I.hok,I.len⟩
theorem Inv.unat {pins':List (Addr × Obj)} {xe:Value→Shared→Prop} (ok:X.Ok) (I:Inv (X.at' (X.pn ++ pins) xe) pins' σ H s):Inv X pins σ H s:=
 ⟨ok,I.os,I.bare,I.base,I.loc,I.cell,I.free,I.freeC,fun p hp=>I.pin p (List.mem_append_left _ hp),I.hok,I.len⟩
theorem Inv.held (I:Inv X pins σ H s) (a:Addr) (xe:Value→Shared→Prop):Inv (X.held a xe) pins σ H s:=
 ⟨⟨I.ok.mod,I.ok.kind,I.ok.glob,I.ok.blt,I.ok.above,I.ok.inj,I.ok.has,I.ok.cab,(fun z=>nomatch z),I.ok.frames,I.ok.stk,I.ok.exf,I.ok.bs,I.ok.bsz,I.ok.noex,I.ok.exfs,I.ok.funs,I.ok.frf⟩,I.os,I.bare,I.base,I.loc,I.cell,I.free,I.freeC,I.pin,I.hok,I.len⟩
theorem Inv.unheld {a:Addr} {xe:Value→Shared→Prop} (ok:X.Ok) (I:Inv (X.held a xe) pins σ H s):Inv X pins σ H s:=
 ⟨ok,I.os,I.bare,I.base,I.loc,I.cell,I.free,I.freeC,I.pin,I.hok,I.len⟩
end
theorem fly_here {P:Program} {w:World} {outer:List Env} {H H':Hp} {s s':Shared} {a:Addr} {B h':Heap} (F:Fly P w outer H s a H' B s') (hfree:∀ b ∈ frs outer,H b=none) (k:B.StaysIn h') (ups:s'.heap.UpToSlots h') :
  Un (frs outer) [] H H' s.heap h'∧HOk P w H' h':=by
 have slot:∀ b o,s.heap.get? b=some o→H b=none→b ∈ frs outer→∃ sl,h'.get? b=some { o with slots:=sl }:=fun b o e n hb=>by
  obtain ⟨sl2,e2⟩:=F.un.slot b _ e n hb (by simp)
  obtain ⟨_,o',ho',hd⟩:=F.funs.mem hb
  rw [e2] at ho'
  cases ho'
  obtain ⟨sl3,e3⟩:=ups b _ e2 hd
  exact ⟨sl3,e3⟩
 refine ⟨⟨fun b o e n hb _=>k b o (F.k1 b o e n hb),fun b o e n hb _=>slot b o e n hb,F.un.free,fun b o e _=>?_,F.un.tups,F.un.frzs,F.un.tbls⟩,fun b u e=>(F.hok b u e).stay (fun c v hc q=>k c v (F.k2 c v (by
  rcases hc with z | z
  ·rw [z,e]; intro z; cases z
  ·rw [z]; intro z; cases z) q)) (fun _ q=>q) fun _ _ q=>q⟩
 by_cases hb:b ∈ frs outer
 ·obtain ⟨sl,q⟩:=slot b o e (hfree b hb) hb
  exact ⟨_,q⟩
 ·obtain ⟨o2,e2⟩:=F.k3 b o e hb
  exact ⟨o2,k b o2 e2⟩
noncomputable def mroIn (K:Frag) (C G:Addr):Bool:=match K.lookup C with
 | some ⟨_,_,.cls cd,_⟩=>(cd.mro.drop 1).contains (.ref G)
 | _=>false
end L2
namespace L2
open PySem PySem.Spec PyProof.Rows PySem.W
section
variable {X:Cx}
theorem Zht {a:Str} {j:Nat} {p p2 pos:Pos} {e:Expr} {te:TE} (he:PE X e te) (ha:a.length ≤ 1000) :
  PE X (.JoinedStr [.Constant (.str a) j p,.FormattedValue e 114 none p2] pos) (fun σ H Q=>te σ H fun v H1=>∃ x,v=.str x∧(reprText x).length ≤ 100000∧Q (.str (a ++ reprText x)) H1):=by
 intro pins s σ H Q I h
 have hs:sizeLine=16777216:=sizeLine_eq
 refine JoinedStr_many (joinParts_cons (thn (Za1 (X:=X) (x:=a) (j:=j) (pos:=p) pins s σ H (fun v H1=>v=.str a∧H1=H) I ⟨rfl,rfl⟩) fun u s1 hp0=>?_))
 obtain ⟨v,H1,I1,r1,e1,e2⟩:=hp0
 subst e1 e2
 obtain ⟨t,rfl⟩:=r1
 have l1:(Str.empty ++ a).length ≤ sizeLine:=by rw [Ziy]; lia
 refine ⟨l1,joinParts_cons (wpAny_FormattedValue_repr (thn (he pins s1 σ H1 _ I1 h) fun u2 s2 hp0=>?_))⟩
 obtain ⟨v2,H2,I2,r2,x,e3,lx,q⟩:=hp0
 subst e3
 obtain ⟨t2,rfl⟩:=r2
 have la:(a ++ reprText x).length=a.length + (reprText x).length:=by
  show (a.cps ++ (reprText x).cps).size=_
  rw [Array.size_append]
  rfl
 refine wpAny_pyReprObj_str ?_ (by lia)
 refine formatField_str (fun t' tk=>?_) (by lia)
 have e4:Str.empty ++ a ++ reprText x=a ++ reprText x:=by rw [Ziy]
 refine ⟨by rw [e4]; lia,joinParts_nil ⟨.str (a ++ reprText x),H2,(I2.tok _),⟨_,by rw [e4]⟩,q⟩ (by rw [e4]; lia)⟩
theorem Zi6:Zdc X (.builtin "isinstance") (fun xs H Q=>∃ a ys,xs=[.ref a,.ty "list"]∧H a=some (.lst ys)∧Q (.bl true) H):=by
 intro pins s σ H xs us Q I r h
 obtain ⟨a,ys,rfl,ha,q⟩:=h
 obtain ⟨u1,u2,rfl,r1,r2⟩:=Zjc r
 cases r1
 cases r2
 obtain ⟨z2,its2,n2,r2,ho⟩:=I.hok a _ ha
 exact PySem.IsiPair.list_list ho rfl ⟨.bl true,H,I,rfl,q⟩
theorem Fun.okE {P:Program} {w:World} {K:PySem.W.Frag} {mg:Str→Option Value} {base:Heap} {x qual:Str} {st:Stmt} {f:Addr} {fd:FuncData} {N ps:List Str} {k:Nat} {sp:Sp} (F:Fun K x qual st f fd) (S:FnScope N ps (Zab st)) (len:∀ vs H Q E,sp vs H Q E→vs.length=ps.length)
  (hbody:∀ (cdv:Value) (A:Around) (outer:List Env) (s:Shared) (H:Hp) (vs:List V) (Q:VK) (E:XK),Room k (A.deeper (envOfC qual (Zab st) s.heap.objs.size f cdv))→sp vs H Q E →
   ∃ t,PSs (cxOf (CXe P w) P w K mg base N qual (Zab st) f cdv A outer s H E) (Zal st) t∧t { nx:=fun _ H'=>Q .non H',rt:=Q } (Zhh N vs) H):FnOk P w K mg base (CXe P w) (k + 1) f fd ps sp:=by
 obtain ⟨oc,od,kV,doc,pm,an,cdv,ct,osl,rfl,lk,hcd⟩:=F.ex
 exact fn_of lk hcd S len fun A outer s H vs Q E hr hsp=>hbody cdv A outer s H vs Q E hr hsp
theorem Zmn {P:Program} {w:World}:Zc7 (CXe P w) X E0:=fun _ _ _ _ _ _ _ ⟨_,_,_,_,_,_,_,_,q⟩=>q.elim
end
end L2
namespace L2
open PySem PySem.Spec PyProof.Rows
end L2
namespace L2
open PySem PySem.Spec PyProof.Rows
end L2
namespace L2
open PySem PySem.Spec PyProof.Rows
end L2
namespace SK
end SK
namespace L2
open PySem
theorem Zk2 {ps:List Str} (h:ps.Nodup):(SK.dd (kAt (ps.map (Sum.inr:Str→Key))) (ps.map (Sum.inr:Str→Key)).length).length=ps.length:=by
 have hk:(ps.map (Sum.inr:Str→Key)).length=ps.length:=List.length_map ..
 rw [SK.dd_full (n:=ps.length) (fun i j hi hj e=>?_) _ (by lia),hk]
 have ei:kAt (ps.map (Sum.inr:Str→Key)) i=Sum.inr ps[i]:=by simp [kAt,List.getD,hi]
 have ej:kAt (ps.map (Sum.inr:Str→Key)) j=Sum.inr ps[j]:=by simp [kAt,List.getD,hj]
 rw [ei,ej] at e
 exact (List.getElem_inj h).mp (Sum.inr.inj e)
end L2
namespace HT
open PySem PySem.Spec PyProof.Rows
end HT
namespace L2
open PySem PySem.Spec PyProof.Rows
section
variable {X:Cx}
theorem Zjx {P:Program} {w:World} {H:Hp} {h:Heap} (ok:HOk P w H h) {a:Addr} {us:List V} {ds:List PyData} (e:H a=some (.lst us)) (r:RdVs H us ds):∃ as,Reads h (.ref a) (.list ds) as:=by
 obtain ⟨z,its,n,rv,ho⟩:=ok a _ e
 obtain ⟨as,ra⟩:=RdVs.reads ok r rv
 exact ⟨_,.list ho rfl rfl (by simpa using ra)⟩
end
end L2
namespace ZT
open PySem PyProof.Rows
end ZT
namespace F17
open PySem
end F17
namespace L2
open PySem PySem.Spec PyProof.Rows
section
variable {X:Cx} {pins:List (Addr × Obj)} {σ:St} {H:Hp} {s:Shared}
theorem Inv.trackF {S:Addr} {ob:HO} (I:Inv X pins σ H s) (hf:FpOk X pins H S) (new:ObjOk X.prog X.w (upd H S ob) s.heap S ob):Inv X pins σ (upd H S ob) s:=by
 refine I.step (H':=upd H S ob) (h':=s.heap) (g':=s.gens) (t':=s.toks) (d':=s.drawn) (ch:=[S]) (fun b hb=>?_) (fun b o _ _ _ e _=>e) (fun b o _ _ _ e _=>⟨o.slots,e⟩) (fun b o hc _ n=>?_) (fun b o _ e=>⟨o,e⟩)
  (fun b xs e=>by rw [Zak (Zah e hf.1)]; exact e) (fun b o xs e=>by rw [Zak (Zah e hf.1)]; exact e) (fun b ps e=>⟨#[],by rw [Zak (Zah e hf.1),e]; simp⟩) (fun m hm=>hm) (fun b u e=>?_) I.bare
 ·rw [List.mem_singleton] at hb
  subst hb
  exact ⟨hf.2.2.2.1,hf.2.1,hf.2.2.2.2.1,hf.2.2.2.2.2⟩
 ·rw [Zak (fun z=>hc (List.mem_singleton.mpr z))]
  exact n
 ·by_cases hb:b=S
  ·subst hb
   rw [Zac] at e
   cases e
   exact new
  ·rw [Zak hb] at e
   exact (I.hok b u e).stay (fun c v _ q=>q) (fun c q=>by rw [Zak (Zah q hf.1)]; exact q) fun c xs q=>by rw [Zak (Zah q hf.1)]; exact q
theorem Zhk {H:Hp} {r:Addr} {o:HO} (h:H r=none):Same H (upd H r o):=fun b u e=>by rw [Zak (Zah e h)]; exact e
end
end L2
namespace SG
open PySem
noncomputable def Rs (xs:Array Nat):Prop:=∀ (i j:Nat) (a b:Nat),i < j→xs[i]? = some a→xs[j]? = some b→a < b
theorem search {xs:Array Nat} (r:Rs xs) (v:Nat):∀ (f lo hi:Nat),hi - lo ≤ f→lo ≤ hi→hi ≤ xs.size→(∀ (i a:Nat),i < lo→xs[i]? = some a→a < v)→(∀ (i a:Nat),hi ≤ i→xs[i]? = some a→v ≤ a) →
  SetTable.below.go xs v f lo hi ≤ xs.size∧(∀ (i a:Nat),i < SetTable.below.go xs v f lo hi→xs[i]? = some a→a < v)∧(∀ (i a:Nat),SetTable.below.go xs v f lo hi ≤ i→xs[i]? = some a→v ≤ a):=by
 intro f
 induction f with
 | zero=>
  intro lo hi h1 h2 h3 l u
  have e:lo=hi:=by lia
  subst e
  exact ⟨h3,l,u⟩
 | succ f ih=>
  intro lo hi h1 h2 h3 l u
  unfold SetTable.below.go
  split
  ·rename_i lt
   have hm:(lo + hi) / 2 < xs.size:=by lia
   have eg:xs.getD ((lo + hi) / 2) v=xs[(lo + hi) / 2]:=by simp [Array.getD,hm]
   have e2:xs[(lo + hi) / 2]? = some xs[(lo + hi) / 2]:=Array.getElem?_eq_getElem hm
   dsimp only
   rw [eg]
   split
   ·rename_i c
    refine ih _ _ (by lia) (by lia) h3 (fun i a hi9 e=>?_) u
    rcases Nat.lt_or_ge i ((lo + hi) / 2) with z | z
    ·exact Nat.lt_trans (r i _ a _ z e e2) c
    ·have z2:i=(lo + hi) / 2:=by lia
     subst z2
     rw [e2] at e
     cases e
     exact c
   ·rename_i c
    refine ih _ _ (by lia) (by lia) (by lia) l (fun i a hi9 e=>?_)
    rcases Nat.lt_or_ge ((lo + hi) / 2) i with z | z
    ·exact Nat.le_of_lt (Nat.lt_of_le_of_lt (Nat.le_of_not_lt c) (r _ i _ a z e2 e))
    ·have z2:i=(lo + hi) / 2:=by lia
     subst z2
     rw [e2] at e
     cases e
     exact Nat.le_of_not_lt c
  ·rename_i c
   have e:lo=hi:=by lia
   subst e
   exact ⟨h3,l,u⟩
theorem place {xs:Array Nat} (r:Rs xs) (v:Nat):SetTable.below xs v ≤ xs.size∧(∀ (i a:Nat),i < SetTable.below xs v→xs[i]? = some a→a < v)∧(∀ (i a:Nat),SetTable.below xs v ≤ i→xs[i]? = some a→v ≤ a):=
 search r v xs.size 0 xs.size (by lia) (Nat.zero_le _) (Nat.le_refl _) (fun i a h=>by lia) (fun i a h e=>by
  have:=(Array.getElem?_eq_some_iff.mp e).1
  lia)
theorem place_is {xs:Array Nat} (r:Rs xs) {v k:Nat} (hk:k ≤ xs.size) (l:∀ (i a:Nat),i < k→xs[i]? = some a→a < v) (u:∀ (i a:Nat),k ≤ i→xs[i]? = some a→v ≤ a):SetTable.below xs v=k:=by
 obtain ⟨h1,h2,h3⟩:=place r v
 rcases Nat.lt_trichotomy (SetTable.below xs v) k with z | z | z
 ·have hb:SetTable.below xs v < xs.size:=by lia
  have e:=Array.getElem?_eq_getElem hb
  have a1:=l _ _ z e
  have a2:=h3 _ _ (Nat.le_refl _) e
  lia
 ·exact z
 ·have hb:k < xs.size:=by lia
  have e:=Array.getElem?_eq_getElem hb
  have a1:=h2 _ _ z e
  have a2:=u _ _ (Nat.le_refl _) e
  lia
theorem Zgx {α:Type} (xs:Array α) {p:Nat} (hp:p ≤ xs.size) (x:α) (i:Nat):(SetTable.insertAt xs p x)[i]? = if i < p then xs[i]? else if i=p then some x else xs[i - 1]?:=by
 have h:(SetTable.insertAt xs p x).toList=xs.toList.take p ++ x :: xs.toList.drop p:=by
  rw [SetTable.toList_insertAt]
 rw [← Array.getElem?_toList,h,← Array.getElem?_toList,← Array.getElem?_toList]
 have hl:(xs.toList.take p).length=p:=by rw [List.length_take,Array.length_toList]; lia
 split
 ·rename_i c
  rw [List.getElem?_append_left (by lia),List.getElem?_take,if_pos c]
 ·rename_i c
  rw [List.getElem?_append_right (by lia),hl]
  split
  ·rename_i c2
   subst c2
   simp
  ·rename_i c2
   obtain ⟨d,rfl⟩:∃ d,i=p + (d + 1):=⟨i - p - 1,by lia⟩
   rw [show p + (d + 1) - p=d + 1 by lia,List.getElem?_cons_succ,List.getElem?_drop]
   congr 1
theorem rs_ins {xs:Array Nat} (r:Rs xs) {v:Nat} (hn:¬ xs[SetTable.below xs v]? = some v):Rs (SetTable.insertAt xs (SetTable.below xs v) v):=by
 obtain ⟨h1,h2,h3⟩:=place r v
 have h4:∀ (i a:Nat),SetTable.below xs v ≤ i→xs[i]? = some a→v < a:=by
  intro i a hi e
  rcases Nat.lt_or_ge v a with z | z
  ·exact z
  ·have e2:=h3 i a hi e
   have e3:a=v:=by lia
   subst e3
   rcases Nat.eq_or_lt_of_le hi with q | q
   ·rw [q] at hn; exact absurd e hn
   ·have hb:SetTable.below xs a < xs.size:=by
     have:=(Array.getElem?_eq_some_iff.mp e).1
     lia
    have e4:=Array.getElem?_eq_getElem hb
    have e5:=r _ _ _ _ q e4 e
    have e6:=h3 _ _ (Nat.le_refl _) e4
    lia
 intro i j a b hij ea eb
 rw [Zgx _ h1] at ea eb
 split at ea
 ·rename_i c1
  split at eb
  ·exact r i j a b hij ea eb
  ·split at eb
   ·cases eb
    exact h2 i a c1 ea
   ·exact r i (j - 1) a b (by lia) ea eb
 ·split at ea
  ·cases ea
   split at eb
   ·lia
   ·split at eb
    ·lia
    ·exact h4 (j - 1) b (by lia) eb
  ·split at eb
   ·lia
   ·split at eb
    ·lia
    ·exact r (i - 1) (j - 1) a b (by lia) ea eb
theorem Zk3 {l:List Nat} (h:l.Pairwise (· < ·)):Rs l.toArray:=by
 intro i j a b hij ea eb
 rw [List.getElem?_toArray] at ea eb
 obtain ⟨hi,rfl⟩:=List.getElem?_eq_some_iff.mp ea
 obtain ⟨hj,rfl⟩:=List.getElem?_eq_some_iff.mp eb
 exact List.pairwise_iff_getElem.mp h i j hi hj hij
theorem Zjv (n:Nat):Rs (Array.range n):=by
 have:Array.range n=(List.range n).toArray:=by simp
 rw [this]
 exact Zk3 List.pairwise_lt_range
theorem rs_nil:Rs #[]:=fun i j a b _ e=>by simp at e
structure Tk (t t':SetTable):Prop where
 rs:Rs t'.place
 led:t'.led=t.led
theorem Zfo (t:SetTable) (n:Nat):Tk t (t.standIn n):=⟨Zjv n,rfl⟩
theorem go_free {t:SetTable} {f:Nat→Int} {h:Int}:∀ (n:Nat) (p:SetTable.Probe) (j:Nat) (d:Option Nat),(∀ v,p.dummy=some v→¬ t.place[SetTable.below t.place v]? = some v)→SetTable.probe.go t f h n p=some (.empty j d) →
  ¬ t.place[SetTable.below t.place (d.getD j)]? = some (d.getD j):=by
 intro n
 induction n with
 | zero=>intro p j d _ e; cases e
 | succ n ih=>
  intro p j d hd e
  unfold SetTable.probe.go at e
  split at e
  ·rename_i hs
   cases e
   cases hpd:p.dummy with
   | some v=>exact hd v hpd
   | none=>
    show ¬ t.place[SetTable.below t.place p.j]? = some p.j
    intro z
    unfold SetTable.slot at hs
    simp [z] at hs
  ·rename_i hs
   refine ih _ j d (fun v hv=>?_) e
   have e3:v=p.j:=by
    unfold SetTable.advance at hv
    split at hv <;> simp at hv <;> exact hv.symm
   subst e3
   intro z
   unfold SetTable.slot at hs
   simp [z] at hs
  ·split at e
   ·cases e
   ·refine ih _ j d (fun v hv=>hd v ?_) e
    unfold SetTable.advance at hv
    split at hv <;> simpa using hv
theorem lay_ok {t:SetTable} (r:Rs t.place) (es:Array (Int × Value)) (h:Int) (x:Value):Tk t (layNew t es h x).2.1:=by
 unfold layNew
 split
 ·rename_i slot wd hf
  unfold SetTable.freeSlot at hf
  split at hf
  ·rename_i j d hp
   have hn:=go_free _ _ j d (fun v hv=>by unfold SetTable.probeStart at hv; simp at hv) hp
   cases hf
   show Tk t ((t.put (d.getD j)).1.orStandIn _)
   unfold SetTable.orStandIn
   split
   ·exact ⟨rs_ins r hn,rfl⟩
   ·exact ⟨Zjv _,rfl⟩
  ·cases hf
 ·exact Zfo t _
theorem relay_ok {t:SetTable} (es:Array (Int × Value)) (m:Nat):Tk t (relayAll t es m).2.1:=by
 unfold relayAll
 split
 ·rename_i t' order e
  unfold SetTable.relaid SetTable.laid at e
  cases ho:SetTable.layClean (SetTable.sizeAbove m - 1) (es.map (·.1)) with
  | none=>rw [ho] at e; cases e
  | some owner=>
   rw [ho] at e
   have e2:some _=some (t',order):=e
   cases e2
   dsimp only
   split
   ·refine ⟨?_,rfl⟩
    dsimp only
    refine Zk3 ?_
    have hsub:∀ l:List Nat,(List.map (fun x=>x.1) (l.filterMap fun j=>(owner.getD j none).map (j,·))).Sublist l:=by
     intro l
     induction l with
     | nil=>exact List.Sublist.slnil
     | cons a r ih=>
      rw [List.filterMap_cons]
      cases hh:owner.getD a none with
      | none=>exact List.Sublist.cons _ ih
      | some v=>exact List.Sublist.cons₂ _ ih
    exact List.Pairwise.sublist (hsub _) List.pairwise_lt_range
   ·exact Zfo t _
 ·exact Zfo t _
theorem perm_of {κ:Type} [DecidableEq κ]:∀ {l m:List κ},l.Nodup→(∀ x ∈ l,x ∈ m)→m.length ≤ l.length→m.Perm l
 | [],m,_,_,h=>by
  cases m with
  | nil=>exact List.Perm.refl _
  | cons a r=>simp at h
 | a :: l,m,nd,sub,h=>by
  (obtain ⟨n1,n2⟩:=List.nodup_cons.mp nd)
  have ha:=sub a List.mem_cons_self
  have p1:=List.perm_cons_erase ha
  have p2:(m.erase a).Perm l:=perm_of n2 (fun x hx=>(List.mem_erase_of_ne (fun (e:x=a)=>n1 (e ▸ hx))).mpr (sub x (List.mem_cons_of_mem _ hx))) (by
   have:=p1.length_eq
   rw [List.length_cons] at this h
   lia)
  exact p1.trans (p2.cons a)
end SG
namespace SG
open PySem
structure Gd (w:World) (t:SetTable):Prop where
 rs:Rs t.place
 led:t.led=!w.params.followText "set-order"
theorem Gd.tk {w:World} {t r:SetTable} (g:Gd w t) (k:Tk t r):Gd w r:=⟨k.rs,k.led.trans g.led⟩
noncomputable abbrev oSet (es:Array (Int × Value)) (ep:Nat) (t:SetTable):Obj:={ cls:=.type "set",dict:=none,data:=.set es ep t,slots:=#[] }
section
variable {prog:Program} {w:World} {κ:Type} [DecidableEq κ] (knd:KeyKind prog w κ)
structure InS (S:κ→Bool) (n:Nat) (es:Array (Int × Value)) (t:SetTable):Prop where
 el:ElemsOf knd es.toList
 me:∀ k,S k=true ↔ ∃ e ∈ es.toList,knd.is k e.2=true
 bd:es.size < scanBound
 ft:t.fits es.size=true
 sz:es.size=n
 gd:Gd w t
noncomputable def SetG (h:Heap) (b:Addr) (S:κ→Bool) (n:Nat):Prop:=∃ es ep t,h.get? b=some (oSet es ep t)∧InS knd S n es t
variable {knd} {A:Around} {E:Value→Shared→Prop} {s:Shared}
theorem Zmj {h:Heap} {b:Addr} {es us:Array (Int × Value)} {ep:Nat} {t r:SetTable} (ho:h.get? b=some (oSet es ep t)):(h.update b (Obj.putSet us r)).get? b=some (oSet us (ep + 1) r):=
 Heap.get?_update_self (Obj.putSet us r) ho rfl
theorem after {g:Bool→Sem Unit} (hg:∀ (c:Bool) (z:Shared) (F:Unit→Shared→Prop),F () z→wpAny (model prog w) A (g c) F E z) {b:Addr} {es us:Array (Int × Value)} {ep:Nat} {t r:SetTable}
  (ho:s.heap.get? b=some (oSet es ep t)) {S:κ→Bool} (q:InS knd S us.size us r) {wd:Bool} {Rr:Option Bool→Shared→Prop}
  (fin:∀ h',Heap.SameBut b s.heap h'→SetG knd h' b S us.size→Rr (some true) { s with heap:=h' }) :
  wpAny (model prog w) A (do
   storeSet b us r
   if (!wd && r.tooFull)=true then do
     g (relayAll r us (SetTable.grown us.size)).2.2
     storeSet b (relayAll r us (SetTable.grown us.size)).1 (relayAll r us (SetTable.grown us.size)).2.1
     pure (some true)
    else pure (some true)) Rr E s:=by
 refine wpAny_bind (wpAny_storeSet_of ho rfl ?_ (fits_of_scanBound q.bd))
 have o1:=Zmj (us:=us) (r:=r) ho
 have b1:=Heap.SameBut.update s.heap b (Obj.putSet us r)
 split
 ·have pm:=relayAll_perm r us (SetTable.grown us.size)
  have fr:=relayAll_fits r us (SetTable.grown us.size)
  have tk:=relay_ok (t:=r) us (SetTable.grown us.size)
  generalize relayAll r us (SetTable.grown us.size)=Z at pm fr tk ⊢
  obtain ⟨ys,t3,gv⟩:=Z
  dsimp only at pm fr tk ⊢
  have hz:ys.size=us.size:=by rw [← Array.length_toList,pm.length_eq,Array.length_toList]
  have bd2:ys.size < scanBound:=by rw [hz]; exact q.bd
  refine wpAny_bind (hg _ _ _ (wpAny_bind (wpAny_storeSet_of o1 rfl (wpAny_pure (fin _ (b1.trans (Heap.SameBut.update _ b _)) ⟨ys,_,t3,Zmj o1,q.el.perm pm,fun k=>(q.me k).trans ⟨?_,?_⟩,bd2,fr,hz,q.gd.tk tk⟩)) (fits_of_scanBound bd2))))
  ·rintro ⟨e,he,z⟩
   exact ⟨e,pm.mem_iff.mpr he,z⟩
  ·rintro ⟨e,he,z⟩
   exact ⟨e,pm.mem_iff.mp he,z⟩
 ·exact wpAny_pure (fin _ b1 ⟨us,_,r,o1,q⟩)
theorem add {b:Addr} {S:κ→Bool} {n:Nat} {k:κ} {x:Value} {Q:Bool→Shared→Prop} (key:knd.is k x=true) (sc:x.scannable=true) (g:SetG knd s.heap b S n) (room:n + 1 < scanBound)
  (fin:∀ h',Heap.SameBut b s.heap h'→SetG knd h' b (fun y=>S y || decide (y=k)) (if S k then n else n + 1)→Q (!S k) { s with heap:=h' }) :
  wpAny (model prog w) A (setAddHashed b x (knd.hash k)) Q E s:=by
 obtain ⟨es,ep,t,ho,i⟩:=g
 (unfold setAddHashed setAddHashedIn)
 refine wpAny_holding (wpAny_bind (wpAny_setState_of ho rfl i.ft ?_))
 dsimp only
 rw [byScan_of sc i.bd i.el]
 simp only [↓reduceIte]
 unfold setAddByScan
 refine wpAny_bind (wpAny_bind (wpAny_rule (wpAny_bind (wpAny_setScan_of key ho rfl i.ft i.el ?_))))
 cases hfi:List.findIdx? (fun e=>knd.is k e.2) es.toList with
 | some j=>
  dsimp only
  obtain ⟨hj,pj,_⟩:=List.findIdx?_eq_some_iff_getElem.mp hfi
  have yes:S k=true:=(i.me k).mpr ⟨_,List.getElem_mem hj,pj⟩
  have z:=fin s.heap (Heap.SameBut.refl b s.heap) ⟨es,ep,t,ho,i.el,fun y=>?_,i.bd,i.ft,by rw [yes]; exact i.sz,i.gd⟩
  ·rw [yes] at z
   (exact wpAny_pure (wpAny_pure z))
  ·rw [← i.me y,Bool.or_eq_true,decide_eq_true_eq]
   exact ⟨fun c=>c.elim id fun e=>e ▸ yes,.inl⟩
 | none=>
  dsimp only
  have no:S k=false:=by
   refine Bool.eq_false_iff.mpr fun c=>?_
   obtain ⟨e,he,pe⟩:=(i.me k).mp c
   exact Bool.noConfusion ((List.findIdx?_eq_none_iff.mp hfi e he).symm.trans pe)
  have quiet:∀ (c:Bool) (z:Shared) (F:Unit→Shared→Prop),F () z→wpAny (model prog w) A (match c with | true=>rule "set.scan.the-table-gave-way" | false=>pure ()) F E z:=fun c z F f=>by
   cases c
   ·exact wpAny_pure f
   ·exact wpAny_rule f
  have pm:=layNew_perm t es (knd.hash k) x
  have fr:=layNew_fits t es (knd.hash k) x
  have tk:=lay_ok i.gd.rs es (knd.hash k) x
  generalize layNew t es (knd.hash k) x=Z at pm fr tk ⊢
  obtain ⟨us,t1,wd,gv⟩:=Z
  dsimp only at pm fr tk ⊢
  rw [Array.toList_push] at pm
  have hz:us.size=n + 1:=by rw [← Array.length_toList,pm.length_eq,List.length_append,Array.length_toList,i.sz]; rfl
  refine wpAny_bind (quiet _ _ _ ?_)
  have iu:∀ r:SetTable,r.fits us.size=true→Gd w r→InS knd (fun y=>S y || decide (y=k)) us.size us r:=fun r h1 h2=>
   ⟨(i.el.push key sc).perm pm,mem_push_iff key i.me pm,by lia,h1,rfl,h2⟩
  have last:∀ h',Heap.SameBut b s.heap h'→SetG knd h' b (fun y=>S y || decide (y=k)) us.size→Q true { s with heap:=h' }:=fun h' c1 c2=>by
   have z:=fin h' c1
   rw [no] at z
   rw [hz] at c2
   exact z c2
  split
  ·refine wpAny_bind ?_
   rw [hashByValue_scannable 8 sc]
   refine wpAny_pure (after (knd:=knd) quiet ho (iu _ ?_ ?_) fun h' c1 c2=>wpAny_pure (last h' c1 c2))
   ·split
    ·exact fr
    ·exact SetTable.fits_plain_off fr
   ·split
    ·exact i.gd.tk tk
    ·exact ⟨tk.rs,tk.led.trans i.gd.led⟩
  ·refine wpAny_bind (wpAny_pure (?_:_))
   simp only [↓reduceIte]
   exact after (knd:=knd) quiet ho (iu _ fr (i.gd.tk tk)) fun h' c1 c2=>wpAny_pure (last h' c1 c2)
end
end SG
namespace SG
open PySem
open Sem (wp)
theorem sl_next:Slot "set_iterator" "__next__" "set_iterator.__next__" := .of (owner := "set_iterator") (n := "__next__") (by rw [typeLookup_type,builtinLookup_eq_fast]; kernel_rfl)
 (by decide +kernel) (by decide +kernel) (by decide +kernel) (by first | exact .inl (by decide +kernel) | exact .inr (by decide +kernel))
 (by rw [isSubtype_type]; kernel_rfl)
theorem Zls:entryFor table "set_iterator.__next__" = some Builtin.«set_iterator.__next__»:=entryFor_of_fast (by kernel_rfl)
theorem Zl5 (v:Value):argsOk "set_iterator.__next__" ⟨[v],[]⟩:=by unfold argsOk; kernel_rfl
theorem en_iter:entryFor table "set.__iter__" = some Builtin.«frozenset.__iter__»:=entryFor_alias (id' := "frozenset.__iter__") (by kernel_rfl) rfl (by decide +kernel) (by kernel_rfl)
section
variable {prog:Program} {w:World} {A:Around} {E:Value→Shared→Prop} {s:Shared}
theorem wpAny_choose' {M:Model} {src:Source} {n:Nat} {Q:Nat→Shared→Prop} (h0:n ≠ 0) (q:∀ i d,i < n→Q i { s with drawn:=d }):wpAny M A (choose src n) Q E s:=fun Γ p _=>by
 show wp M Γ (.choose src n .pure) _ _ p s
 rw [Sem.wp_choose]
 exact ⟨h0,q _ _ (Nat.mod_lt _ (Nat.pos_of_ne_zero h0))⟩
theorem Zfw {α:Type}:∀ {l:List α} {i:Nat} (h:i < l.length),(l[i] :: l.eraseIdx i).Perm l
 | [],i,h=>nomatch h
 | a :: r,0,_=>List.Perm.refl _
 | a :: r,i + 1,h=>((List.Perm.swap a _ _).symm.symm).trans ((Zfw (l:=r) (i:=i) (Nat.lt_of_succ_lt_succ h)).cons a)
theorem Ziz {M:Model} {α:Type}:∀ (n:Nat) (xs:List α),xs.length=n→∀ (s:Shared) (Q:List α→Shared→Prop),(∀ ys d,ys.Perm xs→Q ys { s with drawn:=d })→wpAny M A (drawOrder n xs) Q E s
 | 0,xs,h,s,Q,q=>by
  obtain rfl:=List.length_eq_zero_iff.mp h
  exact wpAny_pure (q [] s.drawn (List.Perm.refl _))
 | n + 1,[],h,_,_,_=>by cases h
 | n + 1,x :: xs,h,s,Q,q=>by
  show wpAny M A (choose .order (x :: xs).length >>= _) _ _ _
  refine wpAny_bind (wpAny_choose' (by simp) fun i d hi=>?_)
  have e:(x :: xs)[i]? = some (x :: xs)[i]:=List.getElem?_eq_getElem hi
  rw [e]
  dsimp only
  refine wpAny_bind (Ziz n _ (by rw [List.length_eraseIdx_of_lt hi,h]; rfl) _ _ fun ys d2 p=>wpAny_pure (q _ d2 ?_))
  refine (p.cons _).trans ?_
  exact Zfw hi
noncomputable abbrev oIt (f:Value) (i:Nat) (b:Addr) (n ep:Nat):Obj:={ cls:=.type "set_iterator",dict:=none,data:=.fields #[f,.int i 0,.ref b,.int n 0,.int ep 0],slots:=#[] }
noncomputable abbrev oPl (ps:List Nat):Obj:={ cls:=.type "tuple",dict:=none,data:=.seq (ps.map fun (i:Nat)=>rawInt i).toArray 0,slots:=#[] }
noncomputable def Zgc (t:SetTable):Nat→Nat
 | 0=>0
 | k + 1=>t.place.getD k 0 + 1
theorem Zlb {α:Type} (f:Nat→Nat):∀ (n k:Nat) (xs:List α) (out:Array α),xs.length=n→(pickOrder.go f n k xs out).toList.Perm (out.toList ++ xs)
 | 0,k,xs,out,h=>by
  obtain rfl:=List.length_eq_zero_iff.mp h
  rw [List.append_nil]
  exact List.Perm.refl _
 | n + 1,k,xs,out,h=>by
  have hi:f k % xs.length < xs.length:=Nat.mod_lt _ (by lia)
  unfold pickOrder.go
  rw [List.getElem?_eq_getElem hi]
  dsimp only
  refine (Zlb f n (k + 1) _ _ (by rw [List.length_eraseIdx_of_lt hi,h]; rfl)).trans ?_
  rw [Array.toList_push,List.append_assoc]
  exact (Zfw hi).append_left _
theorem Zij {α:Type} (f:Nat→Nat) (xs:Array α):(pickOrder f xs).toList.Perm xs.toList:=by
 have:=Zlb f xs.size 0 xs.toList #[] (by simp)
 rw [List.nil_append] at this
 exact this
inductive Way (w:World) (b:Addr) (es:Array (Int × Value)) (ep:Nat) (t:SetTable):(Nat→Value)→List (Addr × Obj)→List Value→Prop
 | text:w.params.followText "set-order" = true→Way w b es ep t (fun _=>.int 0 0) [] ((pickOrder (w.params.setOrder b ep) es).toList.map (·.2))
 | slots:w.params.followText "set-order" = false→(!t.plain && decide (es.size > 1))=false→Way w b es ep t (fun i=>.int (Zgc t i) 0) [] (es.toList.map (·.2))
 | drawn (T:Addr) (ps:List Nat):w.params.followText "set-order" = false→ps.Perm (List.range es.size)→Way w b es ep t (fun _=>.ref T) [(T,oPl ps)] (ps.map fun i=>((es[i]?).map (·.2)).getD .none)
theorem Way.perm {b:Addr} {es:Array (Int × Value)} {ep:Nat} {t:SetTable} {f:Nat→Value} {nw:List (Addr × Obj)} {ys:List Value} (y:Way w b es ep t f nw ys):ys.Perm (es.toList.map (·.2)):=by
 cases y with
 | text _=>exact (Zij _ es).map _
 | slots _ _=>exact List.Perm.refl _
 | drawn T ps _ h=>
  refine (h.map _).trans (List.Perm.of_eq ?_)
  refine List.ext_getElem (by simp) fun i h1 h2=>?_
  rw [List.length_map,List.length_range] at h1
  simp [h1]
theorem Zf6 {b:Addr} {es:Array (Int × Value)} {ep:Nat} {t:SetTable} {Q:Option (Value × Nat)→Shared→Prop} {slot i:Nat} (ho:s.heap.get? b=some (oSet es ep t)) (ft:t.fits es.size=true) :
  (w.params.followText "set-order" = true→Q (((pickOrder (w.params.setOrder b ep) es)[i]?).map fun e=>(e.2,slot)) s) →
  (w.params.followText "set-order" = false→(!t.plain && decide (es.size > 1))=false∧t.led=true∧Q (match es[SetTable.below t.place slot]?,t.place[SetTable.below t.place slot]? with | some (_,x),some j=>some (x,j + 1) | _,_=>none) s) →
  wpAny (model prog w) A (setNext b slot i ep) Q E s:=by
 intro h1 h2
 unfold setNext
 refine wpAny_bind (wpAny_setState_of ho rfl ft ?_)
 dsimp only
 unfold setsByText
 (refine wpAny_bind (wpAny_bind (wpAny_askSetting (wpAny_pure ?_))))
 cases hb:w.params.followText "set-order" with
 | true=>
  have e:(model prog w).w.params.followText "set-order" = true:=hb
  simp only [e,↓reduceIte]
  (simp only [bne_self_eq_false,Bool.false_eq_true,↓reduceIte])
  refine wpAny_bind ?_
  unfold setWalk setsByText
  refine wpAny_bind (wpAny_setState_of ho rfl ft ?_)
  dsimp only
  (refine wpAny_bind (wpAny_bind (wpAny_askSetting (wpAny_pure ?_))))
  simp only [e,↓reduceIte]
  exact wpAny_bind (wpAny_askSetting (wpAny_pure (wpAny_pure (h1 hb))))
 | false=>
  have e:(model prog w).w.params.followText "set-order" = false:=hb
  obtain ⟨a1,a2,a3⟩:=h2 hb
  simp only [e,Bool.false_eq_true,↓reduceIte]
  split
  ·rename_i c
   have c2:(!t.plain && decide (es.size > 1))=true:=c
   rw [a1] at c2
   cases c2
  ·refine wpAny_bind ?_
   show wpAny _ _ (if (!t.led && !es.isEmpty)=true then unsupported "set:maker-not-led" else pure PUnit.unit) _ _ _
   rw [a2]
   exact wpAny_pure (wpAny_pure a3)
theorem Zg7 {t:SetTable} (r:Rs t.place) {i:Nat} (h:i ≤ t.place.size):SetTable.below t.place (Zgc t i)=i:=by
 refine place_is r h (fun j a hj e=>?_) (fun j a hj e=>?_)
 ·cases i with
  | zero=>lia
  | succ k=>
   have hk:k < t.place.size:=h
   have ek:t.place[k]? = some t.place[k]:=Array.getElem?_eq_getElem hk
   have e3:Zgc t (k + 1)=t.place[k] + 1:=by
    show t.place.getD k 0 + 1=_
    simp [Array.getD,hk]
   rw [e3]
   rcases Nat.lt_or_ge j k with z | z
   ·exact Nat.lt_succ_of_lt (r j k _ _ z e ek)
   ·obtain rfl:j=k:=by lia
    rw [ek] at e
    cases e
    exact Nat.lt_succ_self _
 ·cases i with
  | zero=>exact Nat.zero_le _
  | succ k=>
   have hk:k < t.place.size:=h
   have ek:t.place[k]? = some t.place[k]:=Array.getElem?_eq_getElem hk
   have e3:Zgc t (k + 1)=t.place[k] + 1:=by
    show t.place.getD k 0 + 1=_
    simp [Array.getD,hk]
   rw [e3]
   exact r k j _ _ hj ek e
theorem stop_iter {α:Type} {Q:α→Shared→Prop} (hh:A.handled=none) (q:∀ h' e,(∀ b o,s.heap.get? b=some o→h'.get? b=some o)→(∃ o,h'.get? e=some o∧o.cls=.type "StopIteration")→E (.ref e) { s with heap:=h' }) :
  wpAny (model prog w) A (newExc (.type "StopIteration") [] >>= fun e=>(raiseNew e:Sem α)) Q E s:=by
 refine wpAny_bind ?_
 simp only [newExc,newTuple]
 (refine wpAny_bind (wpAny_newObj_type ?_ (by size_fits)))
 (refine wpAny_bind (m:=firstArgMember _ _) (wpAny_of_eq (a:=Value.none) (by first | rfl | (simp only [firstArgMember]; rfl)) ?_))
 (refine wpAny_newObj_type ?_ (by size_fits))
 simp only [raiseNew]
 (refine wpAny_bind (wpAny_handled ?_))
 rw [hh]
 (refine wpAny_bind (wpAny_pure (wpAny_throw ?_)))
 exact q _ _ (fun b o e=>Heap.get?_push_of_some _ (Heap.get?_push_of_some _ e)) ⟨_,Heap.get?_push_size _ rfl,rfl⟩
theorem step_v {b I:Addr} {es:Array (Int × Value)} {ep i:Nat} {t:SetTable} {f:Nat→Value} {nw:List (Addr × Obj)} {ys:List Value} {v:Value} {Q:Option Value→Shared→Prop} (y:Way w b es ep t f nw ys) (g:Gd w t) (ft:t.fits es.size=true)
  (hI:s.heap.get? I=some (oIt (f i) i b es.size ep)) (hb:s.heap.get? b=some (oSet es ep t)) (hn:∀ p ∈ nw,s.heap.get? p.1=some p.2) (hv:ys[i]? = some v)
  (q:∀ h',h'.get? I=some (oIt (f (i + 1)) (i + 1) b es.size ep)→Heap.SameBut I s.heap h'→Q (some v) { s with heap:=h' }):wpAny (model prog w) A (pyNext (.ref I)) Q E s:=by
 have ty:s.TypeIs (.ref I) "set_iterator" := ⟨_,hI,rfl⟩
 unfold pyNext
 refine wpAny_bind (wpAny_attempt (wpAny_callSpecial?_slot (name:=Str.ofString "__next__") ty sl_next (wpAny_call_entry sl_next ty Zls ?_ (Zl5 _))))
 unfold Builtin.«set_iterator.__next__»
 refine wpAny_bind (m:=slotArgs "__next__" 0 _) (wpAny_pure ?_)
 refine wpAny_bind (wpAny_fieldsOf hI rfl ?_)
 dsimp only
 refine wpAny_bind (wpAny_setEntries_of hb rfl ft ?_)
 rw [if_neg (by simp)]
 have hps:t.place.size=es.size:=by
  unfold SetTable.fits at ft
  simp only [Bool.and_eq_true,beq_iff_eq] at ft
  exact ft.1
 cases y with
 | text ht=>
  simp only [Int.toNat_natCast]
  rw [List.getElem?_map,Array.getElem?_toList] at hv
  obtain ⟨e,he,rfl⟩:=Option.map_eq_some_iff.mp hv
  refine wpAny_bind (Zf6 hb ft (fun _=>?_) (fun hf=>by rw [ht] at hf; cases hf))
  rw [he]
  refine wpAny_bind (wpAny_setField_rec hI (by simp) fun h1 o1 b1=>wpAny_bind (wpAny_setField_rec o1 (by simp) fun h2 o2 b2=>wpAny_pure ⟨e.2,rfl,wpAny_pure (q h2 o2 (b1.trans b2))⟩))
 | slots hf hd=>
  simp only [Int.toNat_natCast]
  rw [List.getElem?_map,Array.getElem?_toList] at hv
  obtain ⟨e,he,rfl⟩:=Option.map_eq_some_iff.mp hv
  have hi:=(Array.getElem?_eq_some_iff.mp he).1
  have ep2:t.place[i]? = some t.place[i]:=Array.getElem?_eq_getElem (by lia)
  refine wpAny_bind (Zf6 hb ft (fun ht=>by rw [ht] at hf; cases hf) (fun _=>⟨hd,by rw [g.led,hf]; rfl,?_⟩))
  rw [Zg7 g.rs (by lia),he,ep2]
  refine wpAny_bind (wpAny_setField_rec hI (by simp) fun h1 o1 b1=>wpAny_bind (wpAny_setField_rec o1 (by simp) fun h2 o2 b2=>wpAny_pure ⟨e.2,rfl,wpAny_pure (q h2 ?_ (b1.trans b2))⟩))
  have e3:Zgc t (i + 1)=t.place[i] + 1:=by
   show t.place.getD i 0 + 1=_
   simp [Array.getD,show i < t.place.size by lia]
  show h2.get? I=some (oIt (.int ((Zgc t (i + 1):Nat):Int) 0) (i + 1) b es.size ep)
  rw [e3]
  exact o2
 | drawn T ps hf hp=>
  simp only [Int.toNat_natCast]
  rw [List.getElem?_map] at hv
  obtain ⟨p,hpi,rfl⟩:=Option.map_eq_some_iff.mp hv
  have hpl:p < es.size:=List.mem_range.mp (hp.mem_iff.mp (List.mem_of_getElem? hpi))
  refine wpAny_bind (wpAny_seqItems (hn (T,oPl ps) (List.mem_singleton.mpr rfl)) rfl ?_)
  dsimp only
  have e1:(ps.map fun (i:Nat)=>rawInt i).toArray[i]? = some (Value.int p 0):=by
   rw [List.getElem?_toArray,List.getElem?_map,hpi]
   rfl
  rw [e1]
  dsimp only
  have e2:es[p]? = some es[p]:=Array.getElem?_eq_getElem hpl
  refine wpAny_bind (m:=setNextDrawn b _ _) ?_
  unfold setNextDrawn
  refine wpAny_bind (wpAny_setState_of hb rfl ft ?_)
  dsimp only
  simp only [Int.toNat_natCast,bne_self_eq_false,Bool.false_eq_true,↓reduceIte,e2]
  refine wpAny_pure (wpAny_bind (wpAny_setField_rec hI (by simp) fun h1 o1 b1=>wpAny_pure ⟨_,rfl,wpAny_pure ?_⟩))
  have z:=q h1 o1 b1
  rw [e2] at z
  exact z
theorem step_0 {b I:Addr} {es:Array (Int × Value)} {ep:Nat} {t:SetTable} {f:Nat→Value} {nw:List (Addr × Obj)} {ys:List Value} {Q:Option Value→Shared→Prop} (hh:A.handled=none) (y:Way w b es ep t f nw ys) (g:Gd w t) (ft:t.fits es.size=true)
  (hI:s.heap.get? I=some (oIt (f es.size) es.size b es.size ep)) (hb:s.heap.get? b=some (oSet es ep t)) (hn:∀ p ∈ nw,s.heap.get? p.1=some p.2)
  (q:∀ h',(∀ c o,c ≠ I→s.heap.get? c=some o→h'.get? c=some o)→Q none { s with heap:=h' }):wpAny (model prog w) A (pyNext (.ref I)) Q E s:=by
 have ty:s.TypeIs (.ref I) "set_iterator" := ⟨_,hI,rfl⟩
 unfold pyNext
 refine wpAny_bind (wpAny_attempt (wpAny_callSpecial?_slot (name:=Str.ofString "__next__") ty sl_next (wpAny_call_entry sl_next ty Zls ?_ (Zl5 _))))
 unfold Builtin.«set_iterator.__next__»
 refine wpAny_bind (m:=slotArgs "__next__" 0 _) (wpAny_pure ?_)
 refine wpAny_bind (wpAny_fieldsOf hI rfl ?_)
 dsimp only
 refine wpAny_bind (wpAny_setEntries_of hb rfl ft ?_)
 rw [if_neg (by simp)]
 have hps:t.place.size=es.size:=by
  unfold SetTable.fits at ft
  simp only [Bool.and_eq_true,beq_iff_eq] at ft
  exact ft.1
 have fin:∀ (h1:Heap) (F:Fin→Shared→Prop),Heap.SameBut I s.heap h1→wpAny (model prog w) A.in1 (newExc (.type "StopIteration") [] >>= fun e=>(raiseNew e:Sem Fin)) F (fun e s'=>wpAny (model prog w) A (do
    let c ← isInstance e (Value.type "StopIteration")
    if c=true then pure none else throw e) Q E s') { s with heap:=h1 }:=by
  intro h1 F b1
  refine stop_iter hh fun h2 e k2 z=>?_
  obtain ⟨o,ho,hc⟩:=z
  exact wpAny_bind (wpAny_isInstance (T := "StopIteration") (b:=true) ⟨o,ho,hc⟩ isSubtype_stop (wpAny_pure (q _ fun c o c1 e=>k2 _ _ (b1.extBut _ _ c1 e))))
 cases y with
 | text ht=>
  simp only [Int.toNat_natCast]
  have he:(pickOrder (w.params.setOrder b ep) es)[es.size]? = none:=by
   refine Array.getElem?_eq_none ?_
   have:=(Zij (w.params.setOrder b ep) es).length_eq
   simp only [Array.length_toList] at this
   lia
  refine wpAny_bind (Zf6 hb ft (fun _=>?_) (fun hf=>by rw [ht] at hf; cases hf))
  rw [he]
  exact wpAny_bind (wpAny_setField_rec hI (by simp) fun h1 o1 b1=>fin h1 _ b1)
 | slots hf hd=>
  simp only [Int.toNat_natCast]
  refine wpAny_bind (Zf6 hb ft (fun ht=>by rw [ht] at hf; cases hf) (fun _=>⟨hd,by rw [g.led,hf]; rfl,?_⟩))
  rw [Zg7 g.rs (by lia),Array.getElem?_eq_none (Nat.le_refl _)]
  exact wpAny_bind (wpAny_setField_rec hI (by simp) fun h1 o1 b1=>fin h1 _ b1)
 | drawn T ps hf hp=>
  simp only [Int.toNat_natCast]
  refine wpAny_bind (wpAny_seqItems (hn (T,oPl ps) (List.mem_singleton.mpr rfl)) rfl ?_)
  dsimp only
  have e1:(ps.map fun (i:Nat)=>rawInt i).toArray[es.size]? = none:=by
   refine Array.getElem?_eq_none ?_
   have:=hp.length_eq
   simp at this ⊢
   lia
  rw [e1]
  dsimp only
  exact wpAny_bind (wpAny_setField_rec hI (by simp) fun h1 o1 b1=>wpAny_bind (wpAny_setField_rec o1 (by simp) fun h2 o2 b2=>fin h2 _ (b1.trans b2)))
end
end SG
namespace SG
open PySem
theorem Zk0:Slot "set_iterator" "__iter__" "set_iterator.__iter__" := .of (owner := "set_iterator") (n := "__iter__") (by rw [typeLookup_type,builtinLookup_eq_fast]; kernel_rfl)
 (by decide +kernel) (by decide +kernel) (by decide +kernel) (by first | exact .inl (by decide +kernel) | exact .inr (by decide +kernel))
 (by rw [isSubtype_type]; kernel_rfl)
theorem en_self:entryFor table "set_iterator.__iter__" = some Builtin.«dict_keyiterator.__iter__»:=entryFor_alias (id' := "dict_keyiterator.__iter__") (by kernel_rfl) rfl (by decide +kernel) (by kernel_rfl)
theorem ar_self (v:Value):argsOk "set_iterator.__iter__" ⟨[v],[]⟩:=by unfold argsOk; kernel_rfl
theorem ln_set:typeLookup (.type "set") "__len__" = pure (some (.builtin "set.__len__")):=by rw [typeLookup_type,builtinLookup_eq_fast]; kernel_rfl
section
variable {prog:Program} {w:World} {A:Around} {E:Value→Shared→Prop} {s:Shared}
theorem walks {b I:Addr} {es:Array (Int × Value)} {ep:Nat} {t:SetTable} {f:Nat→Value} {nw:List (Addr × Obj)} {ys:List Value} (hh:A.handled=none) (y:Way w b es ep t f nw ys) (g:Gd w t) (ft:t.fits es.size=true) (hl:ys.length=es.size) (n1:b ≠ I) (n2:∀ p ∈ nw,p.1 ≠ I) :
  WalksS prog w A I (I :: b :: nw.map (·.1)) [I] (fun x z=>x=z) es.size (fun i v=>ys[i]? = some v)
   (fun i s=>s.heap.get? I=some (oIt (f i) i b es.size ep)∧s.heap.get? b=some (oSet es ep t)∧∀ p ∈ nw,s.heap.get? p.1=some p.2) where
 sub:=fun c hc=>by rw [List.mem_singleton.mp hc]; exact List.mem_cons_self
 grefl:=fun _=>rfl
 gtrans:=fun _ _ _ a b=>a.trans b
 frame:=fun i s h' tk st _ k=>⟨k I List.mem_cons_self _ st.1,k b (List.mem_cons_of_mem _ List.mem_cons_self) _ st.2.1,fun p hp=>k p.1 (List.mem_cons_of_mem _ (List.mem_cons_of_mem _ (List.mem_map_of_mem hp))) _ (st.2.2 p hp)⟩
 item:=fun i s Q E hi st q=>by
  refine step_v (v:=ys[i]'(by lia)) y g ft st.1 st.2.1 st.2.2 (List.getElem?_eq_getElem _) fun h' o1 b1=>?_
  refine q _ _ (List.getElem?_eq_getElem _) ⟨o1,b1.extBut _ _ n1 st.2.1,fun p hp=>b1.extBut _ _ (n2 p hp) (st.2.2 p hp)⟩ ⟨fun c o hc e=>b1.extBut _ _ (fun z=>hc (by rw [z]; exact List.mem_singleton.mpr rfl)) e,rfl,rfl,rfl,Nat.le_refl _⟩
 done:=fun s Q E st q=>step_0 hh y g ft st.1 st.2.1 st.2.2 fun h' k=>q _ ⟨fun c o hc e=>k c o (fun z=>hc (by rw [z]; exact List.mem_singleton.mpr rfl)) e,rfl,rfl,rfl,Nat.le_refl _⟩
 self:=fun i s Q E st q=>by
  have ty:s.TypeIs (.ref I) "set_iterator" := ⟨_,st.1,rfl⟩
  refine wpAny_pyIter_slot ty Zk0 (wpAny_call_entry Zk0 ty en_self ?_ (ar_self _))
  show wpAny _ _ (ret (.ref I)) _ _ s
  exact wpAny_pure ⟨_,rfl, "set_iterator",_,ty,sl_next.lookup,q⟩
theorem iter_set {b:Addr} {es:Array (Int × Value)} {ep:Nat} {t:SetTable} {Q:Value→Shared→Prop} (g:Gd w t) (ft:t.fits es.size=true) (hz:es.size ≤ 1000) (hb:s.heap.get? b=some (oSet es ep t))
  (q:∀ (h':Heap) (d:Drawn) (I:Addr) (f:Nat→Value) (nw:List (Addr × Obj)) (ys:List Value),Way w b es ep t f nw ys→s.heap.objs.size ≤ I→(∀ p ∈ nw,s.heap.objs.size ≤ p.1∧p.1 ≠ I∧h'.get? p.1=some p.2)→h'.get? I=some (oIt (f 0) 0 b es.size ep) →
   (∀ c o,s.heap.get? c=some o→h'.get? c=some o)→Q (.ref I) { s with heap:=h',drawn:=d }):wpAny (model prog w) A (pyIter (.ref b)) Q E s:=by
 have ty:s.TypeIs (.ref b) "set" := ⟨_,hb,rfl⟩
 refine wpAny_pyIter_slot ty F.slot_set_iter (wpAny_call_entry F.slot_set_iter ty en_iter ?_ (F.args_set_iter_1 _))
 unfold Builtin.«frozenset.__iter__»
 refine wpAny_bind (m:=Builtin.Frozenset.slot0 "__iter__" _) (wpAny_pure ?_)
 refine wpAny_bind (m:=Builtin.Frozenset.sizeOf b) (wpAny_bind (wpAny_setEntries_of hb rfl ft (wpAny_pure ?_)))
 dsimp only
 have made:∀ (f:Nat→Value) (nw:List (Addr × Obj)) (ys:List Value) (h1:Heap) (d:Drawn),Way w b es ep t f nw ys→(∀ p ∈ nw,s.heap.objs.size ≤ p.1∧h1.get? p.1=some p.2)→(∀ c o,s.heap.get? c=some o→h1.get? c=some o)→s.heap.objs.size ≤ h1.objs.size →
   wpAny (model prog w) A.in1 (do
    let z ← setEpoch b
    let u ← newFields "set_iterator" [f 0,rawInt 0,.ref b,rawInt es.size,rawInt z]
    ret u) (fun fin s'=>∃ v,fin=Fin.done (Flow.ret v)∧∃ T' r,s'.TypeIs v T'∧typeLookup (.type T') "__next__" = pure (some r)∧Q v s') E { s with heap:=h1,drawn:=d }:=by
  intro f nw ys h1 d y n1 k le
  refine wpAny_bind (wpAny_setEpoch_of (k _ _ hb) rfl ft ?_)
  refine wpAny_bind (wpAny_newObj_type (wpAny_pure ⟨_,rfl, "set_iterator",_,⟨_,Heap.get?_push_size _ rfl,rfl⟩,sl_next.lookup,?_⟩))
  exact q _ d _ f nw ys y le (fun p hp=>⟨(n1 p hp).1,Nat.ne_of_lt (Heap.lt_size (n1 p hp).2),Heap.get?_push_of_some _ (n1 p hp).2⟩) (Heap.get?_push_size _ rfl) fun c o e=>Heap.get?_push_of_some _ (k c o e)
 refine wpAny_bind (m:=setDrawn b) ?_
 unfold setDrawn setsByText
 refine wpAny_bind (wpAny_setState_of hb rfl ft ?_)
 dsimp only
 refine wpAny_bind (wpAny_bind (wpAny_askSetting (wpAny_pure (wpAny_pure ?_))))
 split
 ·rename_i c
  have c2:(!w.params.followText "set-order" && (!t.plain && decide (es.size > 1)))=true:=c
  have hf:w.params.followText "set-order" = false:=by
   cases hq:w.params.followText "set-order" with
   | false=>rfl
   | true=>rw [hq] at c2; cases c2
  refine wpAny_bind (Ziz es.size (List.range es.size) List.length_range _ _ fun ps d pm=>?_)
  have lp:(ps.map fun (i:Nat)=>rawInt i).length ≤ sizeLine:=by
   have h1:=pm.length_eq
   have h2:sizeLine=16777216:=sizeLine_eq
   rw [List.length_range] at h1
   rw [List.length_map]
   lia
  refine wpAny_bind (wpAny_newTuple ?_ lp)
  refine made (fun _=>.ref s.heap.objs.size) [(s.heap.objs.size,oPl ps)] _ _ d (.drawn _ ps hf pm) (fun p hp=>?_) (fun c o e=>Heap.get?_push_of_some _ e) (by rw [Heap.size_push]; exact Nat.le_succ _)
  rw [List.mem_singleton.mp hp]
  exact ⟨Nat.le_refl _,Heap.get?_push_size _ rfl⟩
 ·rename_i c
  refine wpAny_bind (wpAny_pure ?_)
  cases hq:w.params.followText "set-order" with
  | true=>exact made (fun _=>.int 0 0) [] _ s.heap s.drawn (.text hq) (fun p hp=>nomatch hp) (fun _ _ e=>e) (Nat.le_refl _)
  | false=>
   have c2:¬ (!w.params.followText "set-order" && (!t.plain && decide (es.size > 1)))=true:=c
   rw [hq] at c2
   exact made (fun i=>.int (Zgc t i) 0) [] _ s.heap s.drawn (.slots hq (Bool.eq_false_iff.mpr c2)) (fun p hp=>nomatch hp) (fun _ _ e=>e) (Nat.le_refl _)
theorem hint_set {b:Addr} (ty:s.TypeIs (.ref b) "set") {Q:Bool→Shared→Prop} (h:Q false s):wpAny (model prog w) A (Builtin.List.listLengthHint (.ref b)) Q E s:=by
 (unfold Builtin.List.listLengthHint)
 refine wpAny_bind (wpAny_specialOf ty ln_set ?_)
 generalize hid:("set.__len__" : String)=id0
 wp_delta
 rw [show splitId id0=some ("set", "__len__") from by subst hid; decide +kernel]
 subst hid
 refine wpAny_bind (wpAny_isInstance (T := "set") (b:=true) ty (by rw [isSubtype_type]; kernel_rfl) ?_)
 rw [if_neg (by decide)]
 split
 ·exact wpAny_bind (wpAny_typeOf ty (wpAny_pure h))
 ·rename_i c
  exact absurd (by decide +kernel) c
theorem collect_set {b:Addr} {es:Array (Int × Value)} {ep:Nat} {t:SetTable} {R:List Value→Shared→Prop} (hh:A.handled=none) (g:Gd w t) (ft:t.fits es.size=true) (hz:es.size ≤ 1000) (hb:s.heap.get? b=some (oSet es ep t))
  (q:∀ (h':Heap) (d:Drawn) (tk:Nat) (ys:List Value),ys.Perm (es.toList.map (·.2))→s.heap.objs.size ≤ h'.objs.size→(∀ c o,s.heap.get? c=some o→h'.get? c=some o)→R ys { s with heap:=h',drawn:=d,toks:=tk }):wpAny (model prog w) A (collect (.ref b)) R E s:=by
 have hlb:b < s.heap.objs.size:=Heap.lt_size hb
 unfold collect
 (refine wpAny_bind (wpAny_runValue (codeAny_builtin F.entry_proto_collect ?_)))
 (rw [Around.under_plainId F.plain_proto_collect _])
 show wpAny _ A.in1 (newList [] >>= fun l=>again (.builtin "list.__iadd__" ⟨[l,.ref b],[]⟩)) _ _ _
 refine wpAny_bind (wpAny_newObj_type (wpAny_pure ⟨plainId_quiet F.plain_list_iadd _,codeAny_builtin F.entry_list_iadd ?_⟩))
 (rw [Around.under_plainId F.plain_list_iadd _])
 show wpAny _ A.in1 (Builtin.List.listExtendWith (.ref s.heap.objs.size) (.ref b) (.ref s.heap.objs.size)) _ _ _
 have hb1:(s.heap.push { cls:=.type "list",data:=.seq ([]:List Value).toArray }).get? b=some (oSet es ep t):=Heap.get?_push_of_some _ hb
 have ty:Shared.TypeIs { s with heap:=s.heap.push { cls:=.type "list",data:=.seq ([]:List Value).toArray } } (.ref b) "set" := ⟨_,hb1,rfl⟩
 (unfold Builtin.List.listExtendWith)
 refine wpAny_bind (wpAny_typeOf ty ?_)
 have e1:Builtin.List.listSameRef (.ref s.heap.objs.size) (.ref b)=false:=by
  simp [Builtin.List.listSameRef,Nat.ne_of_gt hlb]
 have e2:(Value.type "set" == Value.type "list")=false:=by decide
 have e3:(Value.type "set" == Value.type "tuple")=false:=by decide
 simp only [e1,e2,e3,Bool.or_false,Bool.false_eq_true,if_false]
 have sz:(s.heap.push { cls:=.type "list",data:=.seq ([]:List Value).toArray }).objs.size=s.heap.objs.size + 1:=Heap.size_push ..
 refine wpAny_bind (iter_set g ft hz hb1 fun h' d I f nw ys y hI hn oI k=>?_)
 rw [sz] at hI hn
 have ty2:Shared.TypeIs { s with heap:=h',drawn:=d } (.ref b) "set" := ⟨_,k _ _ hb1,rfl⟩
 refine wpAny_bind (wpAny_holding (hint_set ty2 ?_))
 have hS:h'.get? s.heap.objs.size=some { cls:=.type "list",data:=.seq ([]:List Value).toArray }:=k _ _ (Heap.get?_push_size _ rfl)
 have hl:ys.length=es.size:=by have:=y.perm.length_eq; simpa using this
 have W:=walks (prog:=prog) (A:=A.in1) (I:=I) hh y g ft hl (fun z=>Nat.lt_irrefl _ (Nat.lt_of_lt_of_le (z ▸ hlb:I < s.heap.objs.size) (Nat.le_of_succ_le hI))) (fun p hp=>(hn p hp).2.1)
 have hSf:s.heap.objs.size ∉ I :: b :: nw.map (·.1):=by
  intro z
  rcases (List.mem_cons.mp z) with z | z
  ·exact Nat.lt_irrefl _ (Nat.lt_of_lt_of_le (Nat.lt_succ_self _) (z ▸ hI))
  ·rcases (List.mem_cons.mp z) with z | z
   ·exact Nat.lt_irrefl _ (z ▸ hlb)
   ·obtain ⟨p,hp,z⟩:=List.mem_map.mp z
    have:=(hn p hp).1
    lia
 have run:∀ (h2:Heap) (c:Nat) (Rr:Result→Shared→Prop),(∀ b o,b ≠ s.heap.objs.size→h'.get? b=some o→h2.get? b=some o)→h2.get? s.heap.objs.size=some { cls:=.type "list",data:=.seq ([]:List Value).toArray c } →
   (∀ (h3:Heap) (tk c':Nat) (acc:Array Value),h3.get? s.heap.objs.size=some { cls:=.type "list",dict:=none,data:=.seq acc c',slots:=#[] }→acc.toList=ys→(∀ c o,s.heap.get? c=some o→h3.get? c=some o)→Rr (.ok (.ret (.ref s.heap.objs.size))) { s with heap:=h3,drawn:=d,toks:=tk }) →
   codeAny (model prog w) A (.builtin "list.extend.loop" ⟨[.ref s.heap.objs.size,.ref I,.ref s.heap.objs.size],[]⟩) Rr { s with heap:=h2,drawn:=d }:=by
  intro h2 c Rr k2 hS2 fin
  have neI:I ≠ s.heap.objs.size:=Nat.ne_of_gt hI
  refine codeAny_extend_loopS W (by rw [sizeLine_eq]; lia) _ hSf _ es.size 0 _ _ _ rfl (Nat.zero_le _) ⟨k2 _ _ neI oI,k2 _ _ (Nat.ne_of_lt hlb) (k _ _ hb1),fun p hp=>k2 _ _ (Nat.ne_of_gt (hn p hp).1) (hn p hp).2.2⟩ hS2 (ItemsOf.nil _) fun s3 acc c' hm hS3 it=>?_
  obtain ⟨h3,g3,d3,tk3,os3⟩:=s3
  obtain ⟨m1,m2,m3,m4,m5⟩:=hm
  have eg:s.gens=g3:=m2
  have ed:d3=d:=m3
  have es':os3=s.os:=m4
  subst eg ed es'
  refine fin h3 tk3 c' acc hS3 ?_ fun c o e=>m1 c o ?_ (k2 c o (Nat.ne_of_lt (Heap.lt_size e)) (k c o (Heap.get?_push_of_some _ e)))
  ·refine List.ext_getElem (by rw [Array.length_toList,it.1,hl]) fun i h1 h2=>?_
   have e:ys[i]? = some acc.toList[i]:=it.2 i acc.toList[i] (by rw [← Array.getElem?_toList]; exact List.getElem?_eq_getElem h1)
   rw [List.getElem?_eq_getElem h2] at e
   exact (Option.some.inj e).symm
  ·have lc:c < s.heap.objs.size:=Heap.lt_size e
   intro z
   rcases (List.mem_cons.mp z) with z | z
   ·exact Nat.lt_irrefl _ (z ▸ lc)
   ·exact Nat.lt_irrefl _ (Nat.lt_trans lc (Nat.lt_of_succ_le ((List.mem_singleton.mp z) ▸ hI)))
 have last:∀ (h3:Heap) (tk c':Nat) (acc:Array Value),h3.get? s.heap.objs.size=some { cls:=.type "list",dict:=none,data:=.seq acc c',slots:=#[] }→acc.toList=ys→(∀ c o,s.heap.get? c=some o→h3.get? c=some o) →
   R acc.toList { s with heap:=h3,drawn:=d,toks:=tk }:=fun h3 tk c' acc o3 e k3=>by
  rw [e]
  exact q h3 d tk ys y.perm (Nat.le_of_lt (Heap.lt_size o3)) k3
 split
 ·refine wpAny_bind (wpAny_rule (wpAny_bind ?_))
  (show wpAny _ A.in1 (updateSeq s.heap.objs.size (·.push .none) >>= fun _=>updateSeq s.heap.objs.size (·.pop)) _ _ _)
  (refine wpAny_bind (wpAny_updateSeq hS rfl ?_))
  have hS2:=Heap.get?_update_self (Obj.mapSeq (·.push Value.none)) hS rfl
  refine wpAny_updateSeq hS2 rfl ?_
  have hS3:=Heap.get?_update_self (Obj.mapSeq (·.pop)) hS2 rfl
  refine wpAny_pure ⟨plainId_quiet F.plain_extend_loop _,run _ _ _ (fun b o hb e=>(Heap.get?_update_other _ _ (Ne.symm hb)).trans ((Heap.get?_update_other _ _ (Ne.symm hb)).trans e)) hS3 fun h3 tk c' acc o3 e k3=>?_⟩
  (show wpAny _ A (load s.heap.objs.size >>= _) _ _ _)
  exact wpAny_bind (wpAny_load o3 (wpAny_pure (last h3 tk c' acc o3 e k3)))
 ·refine wpAny_pure ⟨plainId_quiet F.plain_extend_loop _,run _ _ _ (fun _ _ _ e=>e) hS fun h3 tk c' acc o3 e k3=>?_⟩
  (show wpAny _ A (load s.heap.objs.size >>= _) _ _ _)
  exact wpAny_bind (wpAny_load o3 (wpAny_pure (last h3 tk c' acc o3 e k3)))
end
end SG
namespace SG
open PySem PyProof.Rows
section
variable {prog:Program} {w:World} {A:Around} {E:Value→Shared→Prop} {s:Shared}
noncomputable def iv:Value→Int
 | .int i _=>i
 | _=>0
theorem Zlk:∀ {vs:List Value},(∀ v ∈ vs,∃ t,v=.int (iv v) t)→IntsAre vs (vs.map iv)
 | [],_=>.nil
 | v :: r,h=>by
  obtain ⟨t,e⟩:=h v List.mem_cons_self
  rw [e]
  exact .cons _ t (Zlk fun x hx=>h x (List.mem_cons_of_mem _ hx))
theorem sorted_set {b:Addr} {es:Array (Int × Value)} {ep:Nat} {t:SetTable} {Q:Value→Shared→Prop} (hh:A.handled=none) (g:Gd w t) (ft:t.fits es.size=true) (hz:es.size < 64) (hb:s.heap.get? b=some (oSet es ep t)) (hi:∀ e ∈ es.toList,∃ t,e.2=.int (iv e.2) t)
  (q:∀ (h':Heap) (d:Drawn) (tk e D:Nat) (out:Array Value) (ns:List Int),IntsAre out.toList ns→ns.Perm (es.toList.map fun e=>iv e.2)→ns.Pairwise (· ≤ ·)→h'.get? D=some (seqObj "list" out e)→s.heap.objs.size ≤ D→(∀ c o,s.heap.get? c=some o→h'.get? c=some o) →
   Q (.ref D) { s with heap:=h',drawn:=d,toks:=tk }):wpAny (model prog w) A (call (.builtin "sorted") [.ref b]) Q E s:=by
 (refine Calls.call_function_entry kind_sorted plain_sorted entry_sorted (args_sorted1 _) ?_)
 unfold Builtin.«sorted»
 (refine wpAny_bind (m:=checkCount "sorted" 1 1 _) (wpAny_pure ?_))
 refine wpAny_bind (collect_set (A:=A.in1) hh g ft (by lia) hb fun h1 d tk ys pm lb k1=>?_)
 have hl:ys.length=es.size:=by have:=pm.length_eq; simpa using this
 (refine wpAny_bind (wpAny_newList ?_ (by rw [sizeLine_eq]; lia)))
 have ai:∀ v ∈ ys,∃ t,v=.int (iv v) t:=fun v hv=>by
  obtain ⟨e,he,rfl⟩:=List.mem_map.mp (pm.mem_iff.mp hv)
  exact hi e he
 have pi:(ys.map iv).Perm (es.toList.map fun e=>iv e.2):=by
  have:=pm.map iv
  rw [List.map_map] at this
  exact this
 have oL:(h1.push { cls:=.type "list",data:=.seq ys.toArray }).get? h1.objs.size=some (seqObj "list" ys.toArray 0):=Heap.get?_push_size _ rfl
 refine wpAny_bind (wpAny_holding (wpAny_call_entry slot_list_sort ⟨_,oL,rfl⟩ entry_list_sort (list_sort_tree oL (Zlk ai) (by lia) fun out ns a1 a2 a3=>⟨_,rfl,?_⟩) (args_list_sort _)))
 obtain ⟨e,he⟩:=sortedHeap_at (out:=out) oL
 refine wpAny_pure ⟨_,rfl,q _ d tk e _ out ns a1 (a2.trans pi) a3 he lb fun c o z=>?_⟩
 have lc:=Heap.lt_size (k1 c o z)
 rw [sortedHeap_old (Nat.ne_of_lt lc) (by rw [size_push']; exact Nat.lt_succ_of_lt lc)]
 exact Heap.get?_push_of_some _ (k1 c o z)
end
end SG
namespace SG
open PySem PyProof.Rows
section
variable {prog:Program} {w:World} {κ:Type} [DecidableEq κ] {knd:KeyKind prog w κ} {A:Around} {R:Result→Shared→Prop} {I:Addr} {fp wr:List Addr} {G:Array GenState→Array GenState→Prop} {n:Nat} {P:Nat→Value→Prop} {St:Nat→Shared→Prop}
theorem kept {S:Addr} {h h':Heap} {f:κ→Bool} {m:Nat} (q:SetG knd h S f m) (e:∀ o,h.get? S=some o→h'.get? S=some o):SetG knd h' S f m:=by
 obtain ⟨es,ep,t,ho,r⟩:=q
 exact ⟨es,ep,t,e _ ho,r⟩
theorem Zki {S:Addr} {h:Heap} {f g:κ→Bool} {m k:Nat} (q:SetG knd h S f m) (e:∀ x,f x=g x) (em:m=k):SetG knd h S g k:=by
 have:f=g:=funext e
 subst this em
 exact q
theorem fill (W:WalksS prog w A.in1 I fp wr G n P St) (S:Addr) (nS:S ∉ fp) (val:Nat→κ) (hv:∀ i v,P i v→knd.is (val i) v=true∧v.scannable=true) (hb:n + 1 < scanBound) :
  ∀ (k i:Nat) (s:Shared),n - i=k→i ≤ n→St i s→SetG knd s.heap S (fun x=>decide (x ∈ SK.dd val i)) (SK.dd val i).length →
   (∀ s',Moved (S :: wr) G s s'→SetG knd s'.heap S (fun x=>decide (x ∈ SK.dd val n)) (SK.dd val n).length→R (.ok (.ret .none)) s') →
   (codeAny (model prog w) A (.builtin "set.update.loop" ⟨[.ref S,.ref I],[]⟩) R s):=by
 have nw:S ∉ wr:=fun h=>nS (W.sub _ h)
 have sub:∀ b ∈ wr,b ∈ S :: wr:=fun b z=>List.mem_cons_of_mem _ z
 intro k
 induction k with
 | zero=>
  intro i s hk hi st hS fin
  obtain rfl:i=n:=by lia
  refine codeAny_builtin PyProof.Rows.F.entry_set_update_loop ?_
  rw [Around.under_plainId PyProof.Rows.F.plain_set_update_loop _]
  refine wpAny_bind (m:=pyNext (.ref I)) (W.done s _ _ st fun s1 hm=>?_)
  exact wpAny_pure (fin s1 (hm.mono sub) (kept hS fun o e=>hm.heap S o nw e))
 | succ k ih=>
  intro i s hk hi st hS fin
  have lt:i < n:=by lia
  refine codeAny_builtin PyProof.Rows.F.entry_set_update_loop ?_
  rw [Around.under_plainId PyProof.Rows.F.plain_set_update_loop _]
  refine wpAny_bind (m:=pyNext (.ref I)) (W.item i s _ _ lt st fun v s1 hP st1 hm=>?_)
  obtain ⟨key,sc⟩:=hv i v hP
  refine wpAny_bind (m:=holding [v] (setAdd S v)) (wpAny_holding ?_)
  unfold setAdd
  refine wpAny_holding (wpAny_bind (knd.pyHash (k:=val i) key ?_))
  have room:(SK.dd val i).length + 1 < scanBound:=by have:=SK.dd_le (val:=val) i; lia
  refine add (knd:=knd) (s:={ s1 with toks:=s1.toks + 1 }) key sc (kept hS fun o e=>hm.heap S o nw e) room fun h2 sb hS2=>?_
  have hS3:SetG knd h2 S (fun x=>decide (x ∈ SK.dd val (i + 1))) (SK.dd val (i + 1)).length:=Zki hS2 (fun x=>(SK.dd_step i x).symm) (SK.dd_size i).symm
  have oth:∀ b o,b ≠ S→s1.heap.get? b=some o→h2.get? b=some o:=fun b o z e=>(sb.2 b z).trans e
  refine wpAny_pure ⟨plainId_quiet PyProof.Rows.F.plain_set_update_loop _,ih (i + 1) _ (by lia) lt (W.frame _ s1 h2 (s1.toks + 1) st1 (Nat.le_succ _) fun b hb o e=>oth b o (fun z=>nS (z ▸ hb)) e) hS3 fun s2 hm2 q=>?_⟩
  refine fin s2 (Moved.trans W.gtrans ((hm.mono sub).then_heap (Nat.le_succ _) fun b o hb e=>oth b o (fun z=>hb (z ▸ List.mem_cons_self)) e) hm2) q
end
section
variable {prog:Program} {w:World} {κ:Type} [DecidableEq κ] {knd:KeyKind prog w κ} {A:Around} {E:Value→Shared→Prop} {s:Shared}
noncomputable abbrev ledW (w:World):Bool:=!w.params.followText "set-order"
noncomputable abbrev fset (led:Bool):Obj:={ cls:=.type "set",dict:=none,data:=.set #[] 0 (.fresh 0 0 led) }
theorem code_new (v:Value) {Q1:Value→Shared→Prop} (q:Q1 (.ref s.heap.objs.size) { s with heap:=s.heap.push (fset (ledW w)) }) :
  codeAny (model prog w) A (.call (.builtin "set.__new__") ⟨[.type "set",v],[]⟩) (wants Q1 E) s:=by
 refine codeAny_of_tree ?_
 show wpAny _ A.in1 (do checkBuiltinCall "set.__new__" ⟨[.type "set",v],[]⟩; again (.builtin "set.__new__" ⟨[.type "set",v],[]⟩)) _ _ s
 refine wpAny_bind (wpAny_of_eq (PySem.F.newCall_set_1 v) (wpAny_pure ⟨plainId_quiet PySem.F.plain_set_new _,codeAny_builtin PySem.F.entry_set_new ?_⟩))
 rw [Around.under_plainId PySem.F.plain_set_new _]
 (unfold Builtin.«set.__new__» Builtin.Frozenset.newClass)
 have hsub:=sub_set_self
 obtain ⟨hp,gs,d,tk,os⟩:=s
 dsimp only
 wp_walk
 (refine wpAny_askSetting (wpAny_pure ?_))
 dsimp only
 simp only [newObj]
 exact wpAny_bind (wpAny_alloc (wpAny_pure (wpAny_pure q)))
theorem make {l:Addr} {items:Array Value} {val:Nat→κ} {Q:Value→Shared→Prop} (hh:A.handled=none) (hl:s.heap.IsList l items) (hv:∀ i v,items[i]? = some v→knd.is (val i) v=true∧v.scannable=true) (hb:items.size + 1 < scanBound)
  (q:∀ (h':Heap) (tk:Nat),SetG knd h' s.heap.objs.size (fun x=>decide (x ∈ SK.dd val items.size)) (SK.dd val items.size).length→(∀ b o,s.heap.get? b=some o→h'.get? b=some o)→Q (.ref s.heap.objs.size) { s with heap:=h',toks:=tk }) :
  (wpAny (model prog w) A (call (.type "set") [.ref l]) Q E s):=by
 obtain ⟨c,tl,hmro⟩:=PySem.F.called_set.mro
 have hmade:=PySem.F.called_set.made
 have hsub:=PySem.F.called_set.sub
 refine wpAny_call (codeAny_of_tree (show wpAny _ _ (callAny (.type "set") _) _ _ _ from ?_))
 refine wpAny_pure ⟨Code.quiet_builtin _ (by decide +kernel),codeAny_builtin PySem.F.entry_type_call ?_⟩
 (rw [Around.under_plain (weight_type_call_type "set" [.ref l] []) rfl])
 have h1:=PySem.F.called_set.notType
 have h2:=PySem.F.called_set.canCreate
 have hct:=PySem.F.typeCall_set_1 (.ref l)
 (repeat (any_goals (first | assumption | wp_step)))
 refine codeAny_mono (code_new (.ref l) (E:=E) (Q1:=fun ob s1=>∃ led:Bool,led=ledW w∧ob=.ref s.heap.objs.size∧s1={ s with heap:=s.heap.push (fset led) }) ⟨_,rfl,rfl,rfl⟩) fun r s1 hr=>?_
 cases r with
 | error e=>exact hr
 | ok fl=>
  cases fl with
  | ret ob=>
   obtain ⟨led,hled,rfl,rfl⟩:=hr
   have hS:(s.heap.push (fset led)).get? s.heap.objs.size=some (fset led):=Heap.get?_push_size _ rfl
   have hT:Shared.TypeIs { s with heap:=s.heap.push (fset led) } (.ref s.heap.objs.size) "set" := ⟨_,hS,rfl⟩
   have hli:=PySem.F.called_set.init.lookup
   have hbi:=PySem.F.called_set.init.bind (.ref s.heap.objs.size)
   (repeat (any_goals (first | assumption | wp_step)))
   refine codeAny_mono (codeAny_call_builtin (R:=wants (fun r s2=>r=.none∧∃ h' tk,s2={ s with heap:=h',toks:=tk }∧SetG knd h' s.heap.objs.size (fun x=>decide (x ∈ SK.dd val items.size)) (SK.dd val items.size).length ∧
     (∀ b o,s.heap.get? b=some o→h'.get? b=some o)) E) PySem.F.called_set.init.plain PySem.F.entry_set_init (check_set_init_1 hT ?_)) fun r2 s2 hr2=>?_
   ·obtain ⟨⟨ocls,odict,odata,oslots⟩,hol,hcl,nl,hdl⟩:=hl
    simp only at hcl hdl
    subst hcl hdl
    have hol':(s.heap.push (fset led)).get? l=some { cls:=.type "list",dict:=odict,data:=.seq items nl,slots:=oslots }:=Heap.get?_push_of_some _ hol
    have x1:=PySem.F.sub_list_set
    have x2:=PySem.F.sub_list_frozenset
    have x3:(Value.type "list" == Value.type "dict")=false:=by decide
    have hl1:(s.heap.push (fset led)).IsList l items:=⟨_,hol',rfl,nl,rfl⟩
    (unfold Builtin.«set.__init__» noKeywords Builtin.Frozenset.updateFrom)
    generalize hPI:pyIter=PI
    wp_walk
    subst hPI
    (refine wpAny_pyIter_list hl1 ?_)
    (refine wpAny_bind (wpAny_runValue ?_))
    have lt:l < s.heap.objs.size:=Heap.lt_size hol
    have sz:(s.heap.push (fset led)).objs.size=s.heap.objs.size + 1:=Heap.size_push ..
    (have hh3:A.in1.in1.in1.handled=none:=by simp [hh])
    have ne1:l ≠ (s.heap.push (fset led)).objs.size:=by rw [sz]; exact Nat.ne_of_lt (Nat.lt_succ_of_lt lt)
    have nS:s.heap.objs.size ∉ [(s.heap.push (fset led)).objs.size,l]:=by
     rw [sz]
     simp only [List.mem_cons,List.not_mem_nil,or_false,not_or]
     exact ⟨Nat.ne_of_lt (Nat.lt_succ_self _),Nat.ne_of_gt lt⟩
    refine fill (knd:=knd) ((Walks.list hh3 _ l ne1 items).toS) s.heap.objs.size nS val hv hb (items.size - 0) 0 _ (by lia) (Nat.zero_le _) ⟨⟨_,Heap.get?_push_size _ rfl,rfl,rfl⟩,hl1.push _⟩ ?_ fun s3 hm q3=>?_
    ·have g:=Heap.get?_push_of_some ({ cls:=.type "list_iterator",data:=.fields #[.ref l,.int 0 0] }:Obj) hS
     exact ⟨_,_,_,g,fun e he=>by simp at he,fun x=>by simp [SK.dd],by decide,by rfl,rfl,rs_nil,hled⟩
    ·obtain ⟨h3,g3,d3,tk3,os3⟩:=s3
     obtain ⟨m1,m2,m3,m4,m5⟩:=hm
     have eg:g3=s.gens:=m2
     have ed:d3=s.drawn:=m3
     have es:os3=s.os:=m4
     subst eg ed es
     refine wpAny_pure (wpAny_pure ⟨rfl,h3,tk3,rfl,q3,fun b o e=>m1 b o ?_ (Heap.get?_push_of_some _ (Heap.get?_push_of_some _ e))⟩)
     have lb:b < s.heap.objs.size:=Heap.lt_size e
     rw [sz]
     simp only [List.mem_cons,List.not_mem_nil,or_false,not_or]
     exact ⟨Nat.ne_of_lt lb,Nat.ne_of_lt (Nat.lt_succ_of_lt lb)⟩
   ·cases r2 with
    | error e=>exact hr2
    | ok fl2=>
     cases fl2 with
     | ret r=>
      obtain ⟨rfl,h',tk,rfl,a1,a2⟩:=hr2
      (repeat (any_goals (first | assumption | wp_step)))
      exact q _ _ a1 a2
     | _=>exact hr2.elim
  | _=>exact hr.elim
end
end SG
namespace L2
open PySem PyProof.Rows
section
variable {X:Cx}
theorem Inv.dr {pins:List (Addr × Obj)} {σ:St} {H:Hp} {s:Shared} (d:Drawn) (I:Inv X pins σ H s):Inv X pins σ H { s with drawn:=d }:=⟨I.ok,I.os,I.bare,I.base,I.loc,I.cell,I.free,I.freeC,I.pin,I.hok,I.len⟩
noncomputable def memB {κ:Type} [DecidableEq κ] (ks:List κ) (x:κ):Bool:=decide (x ∈ ks)
theorem memB_iff {κ:Type} [DecidableEq κ] {ks:List κ} {x:κ}:memB ks x=true ↔ x ∈ ks:=decide_eq_true_iff
noncomputable def setG (P:Program) (w:World) (a:Addr) (ks:List Key):HO:=.ext fun h=>SG.SetG (Za2 P w) h a (memB ks) ks.length
theorem call_setG (hc:X.calm=true):Zdc X (.type "set") (fun xs H Q=>∃ p ks,xs=[.ref p]∧SqL X.K H p (ks.map kV)∧ks.length ≤ 1000∧∀ a,H a=none→Q (.ref a) (upd H a (setG X.prog X.w a (SK.dd (kAt ks) ks.length)))):=by
 intro pins s σ H xs us Q I r h
 obtain ⟨p,ks,rfl,hp,hk,q⟩:=h
 obtain ⟨u,rfl,ru⟩:=Ze1 r
 cases ru
 obtain ⟨its,rv,pl,hz⟩:=I.list hp
 have hlen:=rv.length
 rw [List.length_map] at hlen
 refine SG.make (knd:=Za2 X.prog X.w) (val:=kAt ks) (I.ok.hd hc) pl.isList (fun i v hv=>?_) (by rw [List.size_toArray]; unfold scanBound; lia) fun h' tk hS kp=>?_
 ·have hi:its[i]? = some v:=by simpa using hv
  have hib:i < ks.length:=by
   have:=(List.getElem?_eq_some_iff.mp hi).1
   lia
  obtain ⟨u',hu',ru⟩:=rv.get (i:=i) (x:=kV ks[i]) (by simp [hib])
  rw [hi] at hu'
  cases hu'
  have e:kAt ks i=ks[i]:=by simp [kAt,List.getD,hib]
  rw [e]
  refine ⟨Ziu ru,?_⟩
  cases hkk:ks[i] with
  | inl j=>rw [hkk] at ru; obtain ⟨t,rfl⟩:=ru; rfl
  | inr y=>rw [hkk] at ru; obtain ⟨t,rfl⟩:=ru; rfl
 ·have es:its.toArray.size=ks.length:=by simp [hlen]
  rw [es] at hS
  refine ⟨.ref _,_,I.laid (a:=s.heap.objs.size) (o:=setG X.prog X.w s.heap.objs.size (SK.dd (kAt ks) ks.length)) kp (Nat.le_refl _) ⟨hS,?_,fun h1 h2 f1 e=>SG.kept f1 e⟩,rfl,q _ (I.hok.fresh (Nat.le_refl _))⟩
  obtain ⟨es,_,_,e,_⟩:=hS
  exact ⟨_,e⟩
theorem Zg4:∀ {ns:List Int} {us:List Value},IntsAre us ns→Vals (ns.map V.int) us
 | _,_,.nil=>.nil
 | _,_,.cons _ t r=>.cons ⟨t,rfl⟩ (Zg4 r)
theorem call_sortedG (hc:X.calm=true):Zdc X (.builtin "sorted") (fun xs H Q=>∃ (a:Addr) (ns:List Int),xs=[.ref a]∧H a=some (setG X.prog X.w a (ns.map Sum.inl))∧ns.Nodup∧ns.length < 64∧∀ (l:Addr) (zs:List Int),H l=none→zs.Perm ns→zs.Pairwise (· ≤ ·)→Q (.ref l) (upd H l (.lst (zs.map V.int)))):=by
 intro pins s σ H xs us Q I r h
 obtain ⟨a,ns,rfl,ha,nd,hz,q⟩:=h
 obtain ⟨u,rfl,ru⟩:=Ze1 r
 cases ru
 obtain ⟨⟨es,ep,t,ho,i⟩,_,_⟩:=I.hok a _ ha
 have sz:=i.sz
 rw [List.length_map] at sz
 have key:∀ e ∈ es.toList,∃ n t,n ∈ ns∧e.2=.int n t:=fun e he=>by
  obtain ⟨⟨k,hk,_⟩,_⟩:=i.el e he
  have hm:=memB_iff.mp ((i.me k).mpr ⟨e,he,hk⟩)
  obtain ⟨n,hn,rfl⟩:=List.mem_map.mp hm
  rcases Za3 (show Zgw (.inl n) e.2=true from hk) with ⟨j,t,e1,e2⟩ | ⟨y,t,e1,e2⟩
  ·cases e1
   exact ⟨n,t,hn,e2⟩
  ·cases e1
 have pm:(es.toList.map fun e=>SG.iv e.2).Perm ns:=by
  refine SG.perm_of nd (fun x hx=>?_) (by rw [List.length_map,Array.length_toList]; lia)
  obtain ⟨e,he,hk⟩:=(i.me (.inl x)).mp (memB_iff.mpr (List.mem_map_of_mem hx))
  rcases Za3 (show Zgw (.inl x) e.2=true from hk) with ⟨j,t,e1,e2⟩ | ⟨y,t,e1,e2⟩
  ·cases e1
   exact List.mem_map.mpr ⟨e,he,by rw [e2]; rfl⟩
  ·cases e1
 refine SG.sorted_set (I.ok.hd hc) i.gd i.ft (by lia) ho (fun e he=>?_) fun h' d tk c D out zs a1 a2 a3 a4 a5 a6=>?_
 ·obtain ⟨n,t,_,e2⟩:=key e he
  exact ⟨t,by rw [e2]; rfl⟩
 ·have pz:=a2.trans pm
  have hl:=pz.length_eq
  have hs:sizeLine=16777216:=sizeLine_eq
  refine ⟨.ref _,_,(I.laid (a:=D) (o:=.lst (zs.map V.int)) (t':=tk) a6 a5 ⟨by rw [List.length_map]; lia,out.toList,c,Zg4 a1,by simpa using a4⟩).dr d,rfl,q _ _ (I.hok.fresh a5) pz a3⟩
theorem mt_bitlen:MtR X "int.bit_length" (fun x xs H Q=>∃ i,x=.int i∧xs=[]∧Q (.int (Builtin.Int.intBits i)) H):=by
 intro pins s σ H x xs v us Q I rx rv h
 obtain ⟨i,rfl,rfl,q⟩:=h
 obtain ⟨t,rfl⟩:=rx
 cases rv
 exact call_int_bit_length ⟨.int _,H,I.tok _,⟨_,rfl⟩,q⟩
theorem op_neLD (hu:X.A.units + 64 < cLine):OpR X (compareOp .NotEq) (fun x y H Q=>∃ (a b:Addr) (us vs:List V) (ds es:List PyData),x=.ref a∧y=.ref b∧H a=some (.lst us)∧H b=some (.lst vs)∧RdVs H us ds∧RdVs H vs es ∧
  PySem.SeqAt.shaped (.list ds)=true∧PySem.SeqAt.shaped (.list es)=true∧Q (.bl (!PyData.eqv (.list ds) (.list es))) H):=by
 intro pins s σ H x y v u Q I rx ry h
 obtain ⟨a,b,us,vs,ds,es,rfl,rfl,ha,hb,rd,re,h1,h2,q⟩:=h
 cases rx
 cases ry
 obtain ⟨as,ra⟩:=Zjx I.hok ha rd
 obtain ⟨bs,rb⟩:=Zjx I.hok hb re
 exact PySem.SeqAt.compareNe_shaped ra rb h1 h2 hu ⟨.bl _,H,I,rfl,q⟩
theorem Zl3:bootBuiltins "max" = some (.builtin "max"):=by decide +kernel
end
end L2
namespace L2
open PySem PyProof.Rows
section
variable {X:Cx}
noncomputable def Zdd (v a:Addr):HO:=.ext fun h=>h.IsItemsView v a
theorem mt_items:MtR X "dict.items" (fun x xs H Q=>∃ a kvs,x=.ref a∧xs=[]∧H a=some (.dK kvs)∧∀ v,H v=none→Q (.ref v) (upd H v (Zdd v a))):=by
 intro pins s σ H x xs v us Q I rx rv h
 obtain ⟨a,kvs,rfl,rfl,ha,q⟩:=h
 cases rx
 cases rv
 obtain ⟨hz,hm,vs,hkv,hd⟩:=Zl6 I.hok ha
 refine call_meetsIn PySem.F.slot_dict_items hd.typeIs PySem.F.entry_dict_items (PySem.F.args_dict_items_1 _) (meets_dict_items (Za2 X.prog X.w) a hm) ⟨⟨vs,hd⟩,?_⟩
 refine ⟨.ref s.heap.objs.size,_,I.laid (t':=s.toks) (o:=Zdd s.heap.objs.size a) (fun b o e=>Heap.get?_push_of_some _ e) (Nat.le_refl _) ⟨⟨_,Heap.get?_push_size _ rfl,rfl,rfl⟩,⟨_,Heap.get?_push_size _ rfl⟩,fun h1 h2 f e=>?_⟩,rfl,q _ (I.hok.fresh (Nat.le_refl _))⟩
 obtain ⟨o,ho,r⟩:=f
 exact ⟨o,e o ho,r⟩
noncomputable def Iti (a:Addr) (o:Obj) (kvs:List (Key × V)):It:=
 ⟨fun i H=>i < kvs.length∧H a=some (.frz o (.dK kvs)),fun i H x H'=>∃ p k v,x=.ref p∧H p=none∧H'=upd H p (.tup [kV k,v])∧kvs[i]? = some (k,v),fun i H=>kvs.length ≤ i∧H a=some (.frz o (.dK kvs))⟩
theorem Zg5 {P:Program} {w:World} {K:PySem.W.Frag} {elts:List Expr} {x1} {tp:Pos} (it a:Addr) (o:Obj) (kvs:List (Key × V)) (es:Array DictEntry) (ep:Nat) (hd:o.data=.dict es ep) :
  Turn P w K (.Tuple elts x1 tp) (Iti a o kvs) [it] it (fun i h=>∃ ok ov,IsItemIter h it a i kvs.length ep ok ov) where
 mem:=by simp
 obj:=fun i h st b hb=>by
  have e:b=it:=by simpa using hb
  subst e
  obtain ⟨_,_,st⟩:=st
  exact ⟨_,st,fun v z=>nomatch z⟩
 keep:=fun i h h' st k=>by
  obtain ⟨ok,ov,st⟩:=st
  exact ⟨ok,ov,k it (by simp) _ st⟩
 item:=by
  intro X hP hw hK hc i pins s σ H E I hf st hg
  subst hP hw hK
  obtain ⟨hi,ha⟩:=hg
  obtain ⟨ok,ov,st⟩:=st
  obtain ⟨vs,hkv,hat⟩:=Zlu I ha hd
  have hl:=hkv.length
  have hx:kvs[i]? = some (kvs[i].1,kvs[i].2):=List.getElem?_eq_getElem hi
  obtain ⟨u,hu,ru⟩:=KV.get2 hkv hx
  rw [hl] at st
  have tz:s.heap.objs.size ≠ it:=Nat.ne_of_gt (Heap.lt_size st)
  refine wpAny_pyNext_items_item (knd:=Za2 X.prog X.w) st hat hu fun key h' hk hout ht hsz kk=>?_
  refine ⟨_,rfl,wpAny_letOwnedTupleGo_items (s:={ s with heap:=h' }) hout fun h'' g6 sb=>?_⟩
  have rk:RelV (kV kvs[i].1) key:=by
   rcases Za3 (show Zgw kvs[i].1 key=true from hk) with ⟨j,t,e1,e2⟩ | ⟨y,t,e1,e2⟩
   ·rw [e1,e2]; exact ⟨t,rfl⟩
   ·rw [e1,e2]; exact ⟨t,rfl⟩
  have kall:∀ c o,c ∉ [it]→s.heap.get? c=some o→h''.get? c=some o:=fun c o hc e=>by
   have hc':c ≠ it:=fun z=>hc (by rw [z]; exact List.mem_singleton.mpr rfl)
   exact sb.extBut _ _ hc' (kk c o hc' e)
  have new:ObjOk X.prog X.w (upd H s.heap.objs.size (.tup [kV kvs[i].1,kvs[i].2])) h'' s.heap.objs.size (.tup [kV kvs[i].1,kvs[i].2]):=
   ⟨by show 2 ≤ sizeLine; decide,[key,u],.cons rk (.cons ru .nil),_,sb.extBut _ _ tz ht,rfl,0,rfl⟩
  have fr:H s.heap.objs.size=none:=I.hok.fresh (Nat.le_refl _)
  rw [← hl] at g6
  refine ⟨.ref s.heap.objs.size,_,I.stepN (t':=s.toks) hf kall new,rfl,⟨_,_,_,rfl,fr,rfl,hx⟩,⟨_,_,g6⟩,fun c hc=>?_⟩
  have e:c=it:=by simpa using hc
  rw [Zak (by rw [e]; exact tz.symm)]
  exact (hf c hc).1
 done:=by
  intro X hP hw hK hc i pins s σ H E I hf st hg
  subst hP hw hK
  obtain ⟨hi,ha⟩:=hg
  obtain ⟨ok,ov,st⟩:=st
  obtain ⟨vs,hkv,hat⟩:=Zlu I ha hd
  have hl:=hkv.length
  rw [hl] at st
  exact wpAny_pyNext_items_end (knd:=Za2 X.prog X.w) (I.ok.hd hc) st hat (List.getElem?_eq_none (by lia)) fun h' eb=>⟨rfl,I.stepL (t':=s.toks) hf fun c o hc e=>eb c o (fun z=>hc (by rw [z]; exact List.mem_singleton.mpr rfl)) e⟩
 self:=fun _ _ _ _ _ st h=>by
  obtain ⟨ok,ov,st⟩:=st
  refine wpAny_pyIter_slot ⟨_,st,rfl⟩ PySem.F.slot_dict_itemiterator_iter (wpAny_call_entry PySem.F.slot_dict_itemiterator_iter ⟨_,st,rfl⟩ PySem.W.kcp_entry ?_ (PySem.F.args_dict_itemiterator_iter_1 _))
  show wpAny _ _ (ret (.ref it)) _ _ _
  exact wpAny_pure ⟨_,rfl, "dict_itemiterator",_,⟨_,st,rfl⟩,PySem.F.slot_dict_itemiterator_next.lookup,h⟩
end
end L2
namespace EN
open PySem PyProof.Rows
theorem draws {prog:Program} {w:World} {A:Around} (hh:A.handled=none) (it l:Addr) (hne:l ≠ it) (items:Array Value) :
  Draws prog w A it [it,l] items.size (fun i v=>items[i]? = some v) (fun i h=>h.IsTupleIter it l i∧h.IsTuple l items) where
 live:=fun _ _ st=>by
  obtain ⟨⟨o,ho,_⟩,_⟩:=st
  exact ⟨o,ho⟩
 frame:=fun _ _ _ st hk=>by
  obtain ⟨⟨o,ho,r⟩,o2,ho2,r2⟩:=st
  exact ⟨⟨o,hk it (by simp) o ho,r⟩,o2,hk l (by simp) o2 ho2,r2⟩
 item:=fun i s Q E hi st hq=>by
  refine ZT.next_item st.1 st.2 (v:=items[i]) (by simp [hi]) fun h' hit' hs'=>?_
  exact hq _ h' s.toks (by simp [hi]) ⟨hit',st.2.extBut hs'.extBut hne⟩ hs'
 done:=fun s Q E st hE=>ZT.next_end hh st.1 st.2 (by simp) hE
noncomputable abbrev oE (it:Addr):Obj:={ cls:=.type "enumerate",data:=.fields #[.none,.bool false,.ref it,rawInt 0,.none,.none] }
theorem make (l:Addr) (items:Array Value) :
  Meets (Builtin.«enumerate.__new__» ⟨[.type "enumerate",.ref l],[]⟩) (fun _ R s=>s.heap.IsTuple l items ∧
   R (.ok (.ret (.ref (s.heap.push (ZT.zI l)).objs.size))) { s with heap:=(s.heap.push (ZT.zI l)).push (oE s.heap.objs.size) }):=
 .of_wp fun prog w A R s h=>by
  (obtain ⟨hp,g,d,tk,os⟩:=s)
  obtain ⟨hl,h⟩:=h
  have hsub:=sub_enumerate
  have hT:Heap.IsTuple (Shared.heap ⟨hp,g,d,tk,os⟩) l items:=hl
  obtain ⟨⟨c,dct,dt,sl⟩,ho,hc,n,hd⟩:=id hl
  replace hc:c=.type "tuple" := hc
  replace hd:dt=.seq items n:=(hd)
  subst hc hd
  wp_walk using AutoSeq1.wpAny_loadPart' ho
  (refine wpAny_stack_any fun st=>wpAny_pure ?_)
  split
  ·rename_i c _ _ _ _ _
   cases ((c == Value.type "enumerate"))
   ·wp_walk using AutoSeq1.wpAny_loadPart' ho,wpAny_pyIter_tuple hT
    exact ⟨_,rfl,h⟩
   ·wp_walk using AutoSeq1.wpAny_loadPart' ho,wpAny_pyIter_tuple hT
    exact ⟨_,rfl,h⟩
  ·wp_walk using AutoSeq1.wpAny_loadPart' ho,wpAny_pyIter_tuple hT
   exact ⟨_,rfl,h⟩
end EN
namespace L2
open PySem PyProof.Rows
section
variable {X:Cx}
noncomputable def Ite (K:PySem.W.Frag) (a:Addr):It:=
 ⟨fun i H=>∃ xs x,SqT K H a xs∧xs[i]? = some x,
  fun i H v H'=>∃ p x,v=.ref p∧H p=none∧H'=upd H p (.tup [.int (i:Nat),x])∧∀ xs,SqT K H a xs→xs[i]? = some x,
  fun i H=>∃ xs,SqT K H a xs∧xs.length=i⟩
theorem turn_enum {P:Program} {w:World} {K:PySem.W.Frag} {elts:List Expr} {x1} {tp:Pos} (e it a:Addr) (hne:e ≠ it):Turn P w K (.Tuple elts x1 tp) (Ite K a) [e,it] e (fun i h=>(∃ old,IsEnum h e it (i:Nat) old)∧h.IsTupleIter it a i) where
 mem:=by simp
 obj:=fun n h st c hc=>by
  obtain ⟨⟨old,h1⟩,o4,e4,_,d4⟩:=st
  simp only [List.mem_cons,List.not_mem_nil,or_false] at hc
  rcases hc with rfl | rfl
  ·exact ⟨_,h1,fun v e=>nomatch e⟩
  ·exact ⟨_,e4,fun v e=>by rw [d4] at e; cases e⟩
 keep:=fun n h h' st k=>by
  obtain ⟨⟨old,h1⟩,o4,e4,r4⟩:=st
  exact ⟨⟨old,k e (by simp) _ h1⟩,o4,k it (by simp) _ e4,r4⟩
 item:=by
  intro X hP hw hK hc n pins s σ H E I hf st hg
  subst hP hw hK
  obtain ⟨xs,x,qa,hx⟩:=hg
  obtain ⟨⟨old,h1⟩,h4⟩:=st
  obtain ⟨its,rv,pa,_⟩:=I.tuple qa
  obtain ⟨u,hu,ru⟩:=rv.get hx
  have off:∀ c ∈ [e,it],a ≠ c:=fun c hc z=>I.fpT qa (z ▸ hf c hc)
  have ne1:=off e (by simp)
  have ne2:=off it (by simp)
  have hl:n < its.toArray.size:=by
   have:=(List.getElem?_eq_some_iff.mp hu).1
   simpa using this
  have tz:s.heap.objs.size ≠ e:=Nat.ne_of_gt (Heap.lt_size h1)
  refine wpAny_pyNext_enum_itemD (EN.draws (A:=X.A.in1) (show X.A.in1.handled=none from I.ok.hd hc) it a ne2 its.toArray) h1 ⟨h4,(show s.heap.IsTuple a its.toArray from pa)⟩ hl hne (by simp only [List.mem_cons,List.not_mem_nil,or_false,not_or]; exact ⟨hne,ne1.symm⟩) fun y h' tk hP hout hst' ht hsz kk=>?_
  have hy:y=u:=by
   have h2:its[n]? = some y:=by simpa using hP
   rw [hu] at h2
   exact (Option.some.inj h2).symm
  subst hy
  refine ⟨_,rfl,wpAny_letOwnedTupleGo_enum (s:={ s with heap:=h',toks:=tk + 1 }) hout fun h'' g6 sb=>?_⟩
  have kall:∀ c o,c ∉ [e,it]→s.heap.get? c=some o→h''.get? c=some o:=fun c o hc z=>by
   simp only [List.mem_cons,List.not_mem_nil,or_false,not_or] at hc
   exact sb.extBut _ _ hc.1 (kk c o hc.1 hc.2 z)
  have new:ObjOk X.prog X.w (upd H s.heap.objs.size (.tup [.int (n:Nat),x])) h'' s.heap.objs.size (.tup [.int (n:Nat),x]):=
   ⟨by show 2 ≤ sizeLine; decide,[.int n tk,y],.cons ⟨tk,rfl⟩ (.cons ru .nil),_,sb.extBut _ _ tz ht,rfl,0,rfl⟩
  have fr:H s.heap.objs.size=none:=I.hok.fresh (Nat.le_refl _)
  obtain ⟨oi,ei,ri⟩:=hst'.1
  have lt2:it < s.heap.objs.size:=by
   obtain ⟨o4,e4,_⟩:=h4
   exact Heap.lt_size e4
  refine ⟨.ref s.heap.objs.size,_,I.stepN (t':=tk + 1) hf kall new,rfl,⟨_,x,rfl,fr,rfl,fun zs hz=>by rw [I.tuple_inj hz qa]; exact hx⟩,⟨⟨_,by simpa using g6⟩,oi,sb.extBut _ _ hne.symm ei,ri⟩,fun c hc=>?_⟩
  have hcn:c ≠ s.heap.objs.size:=by
   simp only [List.mem_cons,List.not_mem_nil,or_false] at hc
   rcases hc with rfl | rfl
   ·exact tz.symm
   ·exact Nat.ne_of_lt lt2
  rw [Zak hcn]
  exact (hf c hc).1
 done:=by
  intro X hP hw hK hc n pins s σ H E I hf st hg
  subst hP hw hK
  obtain ⟨xs,qa,hx⟩:=hg
  obtain ⟨⟨old,h1⟩,h4⟩:=st
  obtain ⟨its,rv,pa,_⟩:=I.tuple qa
  have hl:=rv.length
  have hsz:its.toArray.size=n:=by simp; lia
  have off:∀ c ∈ [e,it],a ≠ c:=fun c hc z=>I.fpT qa (z ▸ hf c hc)
  refine wpAny_pyNext_enum_endD (EN.draws (A:=X.A.in1) (show X.A.in1.handled=none from I.ok.hd hc) it a (off it (by simp)) its.toArray) h1 ⟨by rw [hsz]; exact h4,(show s.heap.IsTuple a its.toArray from pa)⟩ fun h' eb=>⟨rfl,I.stepL (t':=s.toks) hf fun c o hc z=>eb c o (fun q=>hc (by rw [q]; simp)) z⟩
 self:=fun _ _ _ _ _ st h=>by
  obtain ⟨⟨old,h1⟩,_⟩:=st
  exact wpAny_pyIter_enum h1 h
noncomputable def iEnum (K:PySem.W.Frag) (ta:TA):TI:=fun σ H R=>ta σ H fun vs H1=>∃ a,vs=[.ref a]∧(∃ xs,SqT K H1 a xs)∧R (Ite K a) H1
theorem Zji {a:Expr} {ta:TA} {p pos tp:Pos} {elts:List Expr} {x1} (hg:Gl X "enumerate") (hm:X.mg "enumerate" = none) (hv:bootBuiltins "enumerate" = some (.type "enumerate")) (ha:PA X [a] ta)
  (hs:starEach [a] X.env=[(false,eval a X.env)]:=by rfl):PI X (.Tuple elts x1 tp) (.Call (.Name "enumerate" p) [a] [] pos) (iEnum X.K ta):=by
 intro pins s σ H R I h
 refine Call_ (Zgu I hg hm hv (PyProof.Rows.callWith_type1 (thn (ha pos pins s σ H _ I h) fun us s1 hp0=>?_) (by rw [hs]; rfl) (by rfl)))
 obtain ⟨vs,H1,I1,r1,q1⟩:=hp0
 obtain ⟨x,rfl,⟨xs,qa⟩,q⟩:=q1
 obtain ⟨u,rfl,ru⟩:=Ze1 r1
 cases ru
 obtain ⟨its,r2,pa,_⟩:=I1.tuple qa
 refine callType_new F.called_enumerate (by decide) (F.typeCall_enumerate_1 _) (F.newCall_enumerate_1 _) (fun obj=>F.args_object_init_2 obj _) F.entry_enumerate_new (EN.make x its.toArray) ⟨show s1.heap.IsTuple x its.toArray from pa,?_⟩
 have e1:(s1.heap.push (ZT.zI x)).objs.size=s1.heap.objs.size + 1:=Heap.size_push ..
 have g2:((s1.heap.push (ZT.zI x)).push (EN.oE s1.heap.objs.size)).get? (s1.heap.push (ZT.zI x)).objs.size=some _:=Heap.get?_push_size _ rfl
 have g1:((s1.heap.push (ZT.zI x)).push (EN.oE s1.heap.objs.size)).get? s1.heap.objs.size=some _:=Heap.get?_push_of_some _ (Heap.get?_push_size _ rfl)
 have kept:∀ c o,s1.heap.get? c=some o→((s1.heap.push (ZT.zI x)).push (EN.oE s1.heap.objs.size)).get? c=some o:=fun c o e=>Heap.get?_push_of_some _ (Heap.get?_push_of_some _ e)
 show _∧_
 refine ⟨⟨_,g2,rfl⟩,wpAny_pyIter_enum (i:=0) (old:=.none) g2 ⟨_,[_,_],_,_,H1,rfl,I1.kept (t':=s1.toks) kept,turn_enum _ s1.heap.objs.size x (by rw [e1]; exact Nat.ne_of_gt (Nat.lt_succ_self _)),⟨⟨_,g2⟩,_,g1,rfl,rfl⟩,fun c hc=>?_,q⟩⟩
 have hc':s1.heap.objs.size ≤ c:=by
  simp only [List.mem_cons,List.not_mem_nil,or_false] at hc
  rcases hc with e | e <;> (rw [e]; show @LE.le Nat _ _ _; lia)
 exact I1.fpOk hc' (I1.hok.fresh hc')
end
end L2
namespace L2
open PySem PyProof.Rows
end L2
namespace DP
open PySem PyProof.Rows
theorem lk_keys:typeLookup (.type "list") "keys" = pure none:=by rw [typeLookup_type,builtinLookup_eq_fast]; kernel_rfl
theorem Zlt:entryFor table "dict.update.loop" = some Builtin.«dict.update.loop»:=entryFor_of_fast (by kernel_rfl)
theorem Zhp:plainId "dict.update.loop" = true:=by decide +kernel
section
variable {prog:Program} {w:World} {A:Around} {E:Value→Shared→Prop} {s:Shared}
theorem keys_none {a:Addr} {its:Array Value} {n:Nat} {Q:Option Value→Shared→Prop} (hh:A.handled=none) (ho:s.heap.get? a=some { cls:=.type "list",dict:=none,data:=.seq its n,slots:=#[] })
  (q:∀ h' t',(∀ b u,s.heap.get? b=some u→h'.get? b=some u)→Q none { s with heap:=h',toks:=t' }):wpAny (model prog w) A (getAttr? (.ref a) "keys") Q E s:=by
 (obtain ⟨hp,g,d,tk,os⟩:=s)
 have ty:∀ k,(⟨hp,g,d,k,os⟩:Shared).TypeIs (.ref a) "list" := fun _=>⟨_,ho,rfl⟩
 have f1:=sub_AttributeError
 (have f3:=F.slot_list_getattribute.lookup)
 (have f4:=F.slot_list_getattribute.bind (.ref a))
 (have f5:=am_list_getattr_none)
 (unfold getAttr? getAttrBy? getAttrBy)
 repeat (any_goals (first | assumption | exact ty _ | ((with_reducible show wpAny _ _ (call (Value.builtin "list.__getattribute__") _ _) _ _ _); refine call_meets F.slot_list_getattribute (ty _) am_entry_list_getattribute (F.args_list_getattribute_2 _ _) (meets_getattribute_miss_list a its n #[] "keys" _ lk_keys (by decide +kernel) (by rw [sizeLine_eq]; decide +kernel)) ⟨ho,hh,fun h9 k9 e9 x9=>?_⟩) | wp_step))
 obtain ⟨t8,u8,he⟩:=x9.there
 have kp:=x9.of
 (show wpAny _ _ (getattributeRaised _ _ _ _ _ _ _) _ _ _)
 unfold getattributeRaised
 (repeat (any_goals (first | assumption | wp_step)))
 exact q _ _ x9.keeps
end
section
variable {prog:Program} {w:World} {κ:Type} [DecidableEq κ] {knd:KeyKind prog w κ} {A:Around} {R:Result→Shared→Prop}
noncomputable def put (kvs:List (κ × Value)):List (κ × Value):=kvs.foldl (fun acc p=>stored acc p.1 p.2) []
theorem put_snoc (kvs:List (κ × Value)) (p:κ × Value):put (kvs ++ [p])=stored (put kvs) p.1 p.2:=by
 unfold put
 rw [List.foldl_append]
 rfl
theorem stored_len (kvs:List (κ × Value)) (k:κ) (v:Value):(stored kvs k v).length ≤ kvs.length + 1:=by
 unfold stored
 split
 ·rw [List.length_map]; lia
 ·rw [List.length_append]; exact Nat.le_refl _
theorem put_len:∀ kvs:List (κ × Value),(put kvs).length ≤ kvs.length:=by
 have go:∀ (kvs acc:List (κ × Value)),(kvs.foldl (fun acc p=>stored acc p.1 p.2) acc).length ≤ acc.length + kvs.length:=by
  intro kvs
  induction kvs with
  | nil=>exact fun acc=>Nat.le_refl _
  | cons p r ih=>
   intro acc
   have h1:=ih (stored acc p.1 p.2)
   have h2:=stored_len acc p.1 p.2
   (rw [List.foldl_cons,List.length_cons])
   lia
 intro kvs
 have:=go kvs []
 rw [List.length_nil,Nat.zero_add] at this
 exact this
theorem loop {I l D:Addr} {items:Array Value} {kvs:List (κ × Value)} {h0:Heap} (hh:A.in1.handled=none) (n1:l ≠ I) (n2:D ≠ I) (n3:D ≠ l) (hz:kvs.length ≤ 1000000) (hl:items.size=kvs.length)
  (tup:∀ (i:Nat) (k:κ) (v:Value),kvs[i]? = some (k,v)→∃ t key n o,items[i]? = some (.ref t)∧t ≠ D∧t ≠ I∧knd.is k key=true∧h0.get? t=some o∧o.cls=.type "tuple" ∧ o.data=.seq #[key,v] n) :
  ∀ (m i:Nat) (s:Shared),kvs.length - i=m→i ≤ kvs.length→s.heap.IsListIter I l i→s.heap.IsList l items→s.heap.DictOf knd D (put (kvs.take i))→(∀ b o,b ≠ D→b ≠ I→h0.get? b=some o→s.heap.get? b=some o) →
   (∀ (h':Heap) (t':Nat),h'.DictOf knd D (put kvs)→(∀ b o,b ≠ D→b ≠ I→s.heap.get? b=some o→h'.get? b=some o)→R (.ok (.ret .none)) { s with heap:=h',toks:=t' }) →
   codeAny (model prog w) A (.builtin "dict.update.loop" ⟨[.ref D,.ref I,.int (i:Nat) 0,.none],[]⟩) R s:=by
 intro m
 induction m with
 | zero=>
  intro i s hm hi st hL hd kp fin
  obtain rfl:i=kvs.length:=by lia
  rw [List.take_length] at hd
  refine codeAny_builtin Zlt ?_
  rw [Around.under_plainId Zhp _]
  refine wpAny_bind (m:=pyNext (.ref I)) (wpAny_pyNext_list_end hh st hL (by simp [hl]) fun h1 e1=>?_)
  show wpAny _ _ (Builtin.Dict.addKeywords D [] >>= fun _=>ret Value.none) _ _ _
  refine wpAny_bind (m:=Builtin.Dict.addKeywords D []) (wpAny_pure (wpAny_pure (fin h1 s.toks ?_ fun b o c1 c2 e=>e1 b o c2 e)))
  exact hd.extBut e1 n2
 | succ m ih=>
  intro i s hm hi st hL hd kp fin
  have lt:i < kvs.length:=by lia
  obtain ⟨t,key,n,o,hit,td,tI,hk,ht,hcl,hdt⟩:=tup i kvs[i].1 kvs[i].2 (List.getElem?_eq_getElem lt)
  have ht1:=kp t _ td tI ht
  refine codeAny_builtin Zlt ?_
  rw [Around.under_plainId Zhp _]
  refine wpAny_bind (m:=pyNext (.ref I)) (wpAny_pyNext_list_item st hL hit fun h1 st1 sb=>?_)
  have ht2:=sb.extBut _ _ tI ht1
  have e1:put (kvs.take (i + 1))=stored (put (kvs.take i)) kvs[i].1 kvs[i].2:=by rw [List.take_succ_eq_append_getElem lt,put_snoc]
  have hln:=put_len (kvs.take i)
  rw [List.length_take] at hln
  refine wpAny_bind (wpAny_holding (wpAny_bind (wpAny_tryCatch ?_)))
  unfold Builtin.Dict.pairItems
  refine wpAny_bind (wpAny_typeOf (T := "tuple") ⟨_,ht2,hcl⟩ ?_)
  rw [if_pos (by decide)]
  refine wpAny_bind (wpAny_seqItems ht2 hdt (wpAny_pure ?_))
  refine wpAny_holding (wpAny_dictSet_pairs (s:={ s with heap:=h1 }) hk (hd.sameBut sb n2) (fun h2 hd2 sb2=>?_) (by rw [sizeLine_eq]; lia))
  rw [← e1] at hd2
  refine wpAny_pure ⟨plainId_quiet Zhp _,ih (i + 1) _ (by lia) lt (st1.extBut sb2.extBut n2.symm) ((hL.extBut sb.extBut n1).extBut sb2.extBut n3.symm) hd2 (fun b o c1 c2 e=>sb2.extBut _ _ c1 (sb.extBut _ _ c2 (kp b o c1 c2 e))) fun h3 t3 d3 k3=>fin h3 t3 d3 fun b o c1 c2 e=>k3 b o c1 c2 (sb2.extBut _ _ c1 (sb.extBut _ _ c2 e))⟩
end
section
variable {prog:Program} {w:World} {κ:Type} [DecidableEq κ] {knd:KeyKind prog w κ} {A:Around} {E:Value→Shared→Prop} {s:Shared}
theorem make {l:Addr} {items:Array Value} {n:Nat} {kvs:List (κ × Value)} {Q:Value→Shared→Prop} (hh:A.handled=none) (ho:s.heap.get? l=some { cls:=.type "list",dict:=none,data:=.seq items n,slots:=#[] }) (hz:kvs.length ≤ 1000000) (hl:items.size=kvs.length)
  (tup:∀ (i:Nat) (k:κ) (v:Value),kvs[i]? = some (k,v)→∃ t key n o,items[i]? = some (.ref t)∧knd.is k key=true∧s.heap.get? t=some o∧o.cls=.type "tuple" ∧ o.data=.seq #[key,v] n)
  (q:∀ (h':Heap) (tk:Nat),h'.DictOf knd s.heap.objs.size (put kvs)→(∀ b o,s.heap.get? b=some o→h'.get? b=some o)→Q (.ref s.heap.objs.size) { s with heap:=h',toks:=tk }) :
  wpAny (model prog w) A (call (.type "dict") [.ref l]) Q E s:=by
 refine callType_codes (Q₁:=fun obj s1=>obj=.ref s.heap.objs.size∧s1={ s with heap:=s.heap.push { cls:=.type "dict",data:=.dict #[] } }) F.kt_called_dict (F.kt_typeCall_dict_1 _) F.entry_dict_init (kt_code_dict_new _ ⟨rfl,rfl⟩) ?_
 rintro obj s1 ⟨rfl,rfl⟩
 (have hnew:(s.heap.push { cls:=.type "dict",data:=.dict #[] }).DictOf knd s.heap.objs.size []:=Heap.DictOf.new s.heap)
 (refine ⟨hnew.typeIs,F.args_dict_init_2 _ _,?_⟩)
 (unfold Builtin.«dict.__init__»)
 refine wpAny_bind ?_
 (unfold Builtin.Dict.selfAndRest)
 (refine wpAny_bind (wpAny_notOrdered_dict hnew.typeIs ?_))
 show wpAny _ _ (pure (s.heap.objs.size,[Value.ref l])) _ _ _
 refine wpAny_pure ?_
 show wpAny _ _ (Builtin.Dict.updateFrom "dict.__init__" s.heap.objs.size (.ref l) [] .none) _ _ _
 (unfold Builtin.Dict.updateFrom)
 have ho1:(s.heap.push { cls:=.type "dict",data:=.dict #[] }).get? l=some { cls:=.type "list",dict:=none,data:=.seq items n,slots:=#[] }:=Heap.get?_push_of_some _ ho
 refine wpAny_bind (wpAny_typeOf (T := "list") ⟨_,ho1,rfl⟩ ?_)
 rw [if_pos (by decide)]
 refine wpAny_bind (keys_none (show A.in1.in1.handled=none from hh) ho1 fun h2 t2 k2=>?_)
 rw [if_pos (show (none:Option Value).isNone=true from rfl)]
 refine wpAny_bind (wpAny_rule ?_)
 have hL2:h2.IsList l items:=⟨_,k2 _ _ ho1,rfl,n,rfl⟩
 refine wpAny_bind (wpAny_pyIter_list hL2 ?_)
 have lD:s.heap.objs.size < h2.objs.size:=by
  obtain ⟨od,_,_,hod,_⟩:=hnew
  exact Heap.lt_size (k2 _ _ hod)
 have ll:l < s.heap.objs.size:=Heap.lt_size ho
 have kp:∀ b o,s.heap.get? b=some o→(h2.push { cls:=.type "list_iterator",data:=.fields #[.ref l,.int 0 0] }).get? b=some o:=fun b o e=>Heap.get?_push_of_some _ (k2 _ _ (Heap.get?_push_of_some _ e))
 have hd2:(h2.push { cls:=.type "list_iterator",data:=.fields #[.ref l,.int 0 0] }).DictOf knd s.heap.objs.size []:=by
  obtain ⟨od,es,ep,hod,r⟩:=hnew
  exact ⟨od,es,ep,Heap.get?_push_of_some _ (k2 _ _ hod),r⟩
 refine wpAny_pure ⟨plainId_quiet Zhp _,loop (knd:=knd) (kvs:=kvs) (h0:=s.heap) (I:=h2.objs.size) (l:=l) (D:=s.heap.objs.size) (items:=items) (show A.in1.in1.handled=none from hh) (Nat.ne_of_lt (Nat.lt_trans ll lD)) (Nat.ne_of_lt lD) (Nat.ne_of_gt ll) hz hl (fun i k v e=>?_) (kvs.length - 0) 0 _ rfl (Nat.zero_le _) ⟨_,Heap.get?_push_size _ rfl,rfl,rfl⟩ (hL2.push _) hd2 (fun b o _ _ e=>kp b o e) fun h3 t3 d3 k3=>⟨rfl,q h3 t3 d3 fun b o e=>k3 b o (Nat.ne_of_lt (Heap.lt_size e)) (Nat.ne_of_lt (Nat.lt_trans (Heap.lt_size e) lD)) (kp b o e)⟩⟩
 obtain ⟨t,key,n,o,a1,a2,a3,a4,a5⟩:=tup i k v e
 exact ⟨t,key,n,o,a1,Nat.ne_of_lt (Heap.lt_size a3),Nat.ne_of_lt (Nat.lt_trans (Heap.lt_size a3) lD),a2,a3,a4,a5⟩
end
end DP
namespace L2
open PySem PyProof.Rows
section
variable {X:Cx}
noncomputable def putAll (kvs:List (Key × V)):List (Key × V):=kvs.foldl (fun acc p=>putK acc p.1 p.2) []
theorem KV.putAll:∀ {kvs:List (Key × V)} {vs:List (Key × Value)},KV kvs vs→KV (L2.putAll kvs) (DP.put vs):=by
 have go:∀ {kvs:List (Key × V)} {vs:List (Key × Value)} {a:List (Key × V)} {b:List (Key × Value)},KV kvs vs→KV a b→KV (kvs.foldl (fun acc p=>putK acc p.1 p.2) a) (vs.foldl (fun acc p=>stored acc p.1 p.2) b):=by
  intro kvs
  induction kvs with
  | nil=>
   intro vs a b r ra
   cases r
   exact ra
  | cons p r ih=>
   intro vs a b rr ra
   cases rr with
   | cons h t=>
    rw [List.foldl_cons,List.foldl_cons,← h.1]
    exact ih t (ra.put _ h.2)
 intro kvs vs r
 exact go r .nil
theorem Zh9:∀ {ts:List Addr} {us:List Value},Vals (ts.map V.ref) us→us=ts.map Value.ref
 | [],_,r=>by
  cases r
  rfl
 | t :: ts,_,r=>by
  cases r with
  | cons h q=>
   cases h
   rw [Zh9 q]
   rfl
theorem putAll_len (kvs:List (Key × V)):(L2.putAll kvs).length ≤ kvs.length:=by
 have go:∀ (kvs a:List (Key × V)),(kvs.foldl (fun acc p=>putK acc p.1 p.2) a).length ≤ a.length + kvs.length:=by
  intro kvs
  induction kvs with
  | nil=>exact fun a=>Nat.le_refl _
  | cons p r ih=>
   intro a
   have h1:=ih (putK a p.1 p.2)
   have h2:=Zc1 a p.1 p.2
   (rw [List.foldl_cons,List.length_cons])
   lia
 have:=go kvs []
 rw [List.length_nil,Nat.zero_add] at this
 exact this
theorem Zjy {P:Program} {w:World} {H:Hp} {h:Heap} (ok:HOk P w H h):∀ (ts:List Addr) (kvs:List (Key × V)),ts.length=kvs.length→(∀ (i:Nat) (t:Addr) (k:Key) (v:V),ts[i]? = some t→kvs[i]? = some (k,v)→H t=some (.tup [kV k,v])) →
  ∃ vs:List (Key × Value),KV kvs vs∧∀ (i:Nat) (k:Key) (v:Value),vs[i]? = some (k,v)→∃ t key n o,ts[i]? = some t∧(Za2 P w).is k key=true∧h.get? t=some o∧o.cls=.type "tuple" ∧ o.data=.seq #[key,v] n
 | [],[],_,_=>⟨[],.nil,fun i k v e=>by simp at e⟩
 | [],_ :: _,hl,_=>by cases hl
 | _ :: _,[],hl,_=>by cases hl
 | t :: ts,(k,v) :: kvs,hl,hh=>by
  obtain ⟨vs,r,q⟩:=Zjy ok ts kvs (Nat.succ.inj hl) fun i t' k' v' h1 h2=>hh (i + 1) t' k' v' (by simpa using h1) (by simpa using h2)
  obtain ⟨z,its,rv,o,ho,hc,n,hd⟩:=ok t _ (hh 0 t k v rfl rfl)
  obtain ⟨uk,uv,rfl,rk,rv'⟩:=Zjc rv
  refine ⟨(k,uv) :: vs,.cons ⟨rfl,rv'⟩ r,fun i k' v' e=>?_⟩
  cases i with
  | zero=>
   cases e
   exact ⟨t,uk,n,o,rfl,Ziu rk,ho,hc,hd⟩
  | succ i=>
   obtain ⟨t',key,n',o',b1,b2⟩:=q i k' v' (by simpa using e)
   exact ⟨t',key,n',o',by simpa using b1,b2⟩
theorem Zhf (hc:X.calm=true):Zdc X (.type "dict") (fun xs H Q=>∃ (p:Addr) (ts:List Addr) (kvs:List (Key × V)),xs=[.ref p]∧H p=some (.lst (ts.map V.ref))∧ts.length=kvs.length∧kvs.length ≤ 1000 ∧
  (∀ (i:Nat) (t:Addr) (k:Key) (v:V),ts[i]? = some t→kvs[i]? = some (k,v)→H t=some (.tup [kV k,v]))∧∀ d,H d=none→Q (.ref d) (upd H d (.dK (putAll kvs)))):=by
 intro pins s σ H xs us Q I r h
 obtain ⟨p,ts,kvs,rfl,hp,hl,hz,ht,q⟩:=h
 obtain ⟨u,rfl,ru⟩:=Ze1 r
 cases ru
 obtain ⟨z,its,n,rv,hlen,e⟩:=I.lstM hp
 obtain ⟨vs,rk,at'⟩:=Zjy I.hok ts kvs hl ht
 have ei:=Zh9 rv
 subst ei
 have hlv:=rk.length
 rw [List.length_map] at hlen
 refine DP.make (knd:=Za2 X.prog X.w) (kvs:=vs) (I.ok.hd hc) e (by lia) (by rw [List.size_toArray,List.length_map]; lia) (fun i k v ev=>?_) fun h' tk hd kp=>?_
 ·obtain ⟨t,key,n',o,b1,b2,b3,b4,b5⟩:=at' i k v ev
  exact ⟨t,key,n',o,by rw [List.getElem?_toArray,List.getElem?_map,b1]; rfl,b2,b3,b4,b5⟩
 ·have hp2:=putAll_len kvs
  have hs:sizeLine=16777216:=sizeLine_eq
  have big:=I.big
  refine ⟨.ref _,_,I.laid (a:=s.heap.objs.size) (o:=.dK (putAll kvs)) (t':=tk) kp (Nat.le_refl _) ⟨by lia,?_,_,KV.putAll rk,hd⟩,rfl,q _ (I.hok.fresh (Nat.le_refl _))⟩
  exact beq_eq_false_iff_ne.mpr (Nat.ne_of_gt big)
end
end L2
namespace LP
open PySem PyProof.Rows
section
variable {prog:Program} {w:World} {A:Around} {E:Value→Shared→Prop} {s:Shared}
theorem store {l:Addr} {its:Array Value} {n:Nat} {k:Int} {t:Tok} {v:Value} {Q:Unit→Shared→Prop} (ho:s.heap.get? l=some { cls:=.type "list",data:=.seq its n }) (h0:0 ≤ k) (hz:k < 2 ^ 63) (hn:k < its.size)
  (q:Q () { s with heap:=s.heap.update l (Obj.mapSeq (·.setIfInBounds k.toNat v)) }):wpAny (model prog w) A (setItem (.ref l) (.int k t) v) Q E s:=by
 have ty:s.TypeIs (.ref l) "list" := ⟨_,ho,rfl⟩
 unfold setItem
 try with_reducible refine wpAny_holding ?_
 first | refine wpAny_bind (wpAny_pure ?_) | skip
 refine wpAny_bind (wpAny_sequenceKey ty (by decide) ?_)
 refine wpAny_bind (wpAny_callSpecial?_slot (name:=Str.ofString "__setitem__") ty slot_list_setitem (wpAny_call_entry slot_list_setitem ty entry_list_setitem ?_ (args_list_setitem _ _ _)))
 (show wpAny _ _ (Builtin.List.listSubscript? (.int k t) >>= _) _ _ s)
 refine wpAny_bind (wpAny_listSubscript_int (fitsIndex_of h0 hz) ?_)
 clear hz
 (obtain ⟨j,rfl⟩:=Int.eq_ofNat_of_zero_le h0)
 have hj:j < its.size:=by lia
 have e1:its[j]? = some its[j]:=Array.getElem?_eq_getElem hj
 (show wpAny _ _ ((seqItemAt l j >>= fun r=>pure (r.map (j,·))) >>= _) _ _ s)
 (refine wpAny_bind (wpAny_bind (wpAny_seqItemAt ho rfl (wpAny_pure ?_))))
 rw [e1]
 (show wpAny _ _ (setSeqItemAt l j v >>= _) _ _ s)
 (refine wpAny_bind (wpAny_setSeqItemAt ho rfl ?_))
 first
  | exact wpAny_bind (wpAny_pure (wpAny_pure ⟨.none,rfl,wpAny_pure q⟩))
  | exact wpAny_pure ⟨.none,rfl,wpAny_pure q⟩
end
end LP
namespace L2
open PySem PyProof.Rows
section
variable {X:Cx}
theorem Vals.setAt:∀ {xs:List V} {us:List Value} (j:Nat) {y:V} {u:Value},Vals xs us→RelV y u→Vals (xs.set j y) (us.set j u)
 | [],_,j,_,_,r,_=>by
  cases r
  exact .nil
 | x :: xs,_,j,y,u,r,ry=>by
  cases r with
  | cons h t=>
   cases j with
   | zero=>exact .cons ry t
   | succ j=>exact .cons h (Vals.setAt j t ry)
noncomputable def sLPut (tl ti tv:TE):TS:=fun D σ H=>tv σ H fun v H1=>tl σ H1 fun x H2=>ti σ H2 fun y H3=>∃ (a:Addr) (xs:List V) (j:Nat),x=.ref a∧y=.int (j:Nat)∧H3 a=some (.lst xs)∧j < xs.length∧D.nx σ (upd H3 a (.lst (xs.set j v)))
theorem ps_lput {o i value:Expr} {pos' pos:Pos} {tl ti tv:TE} (ho:PE X o tl) (hi:PE X i ti) (hv:PE X value tv) (hs:swapsWith value (some (.Subscript o i pos')) pos.line X.env=pure false):PS X (.Assign [.Subscript o i pos'] value pos) (sLPut tl ti tv):=by
 intro pins s σ H D I h
 refine wpAny_Assign_Subscript (thn (hv pins s σ H _ I h) fun r s1 hp0=>?_) hs
 obtain ⟨v,H1,I1,rv,q1⟩:=hp0
 refine thn (ho pins s1 σ H1 _ I1 q1) fun u s2 hp1=>?_
 obtain ⟨x,H2,I2,rx,q2⟩:=hp1
 refine thn (hi pins s2 σ H2 _ I2 q2) fun iv s3 hp2=>?_
 obtain ⟨y,H3,I3,ry,q3⟩:=hp2
 obtain ⟨a,xs,j,rfl,rfl,ha,hj,q⟩:=q3
 cases rx
 obtain ⟨t,rfl⟩:=ry
 obtain ⟨z,its,n,r2,hl,e⟩:=I3.lstM ha
 have hsl:sizeLine=16777216:=sizeLine_eq
 refine LP.store e (Int.natCast_nonneg j) (by lia) (by rw [List.size_toArray]; lia) ?_
 exact ⟨σ,_,I3.lset (its':=its.set j r) (t':=s3.toks) ha e (by simp) (r2.setAt j rv) (by rw [List.length_set]; exact z),q⟩
end
end L2
namespace SI
open PySem PySem.W PyProof.Rows
noncomputable def run {α:Type} (f:Nat→Nat→Bool):KasT α→α
 | .ret a=>a
 | .ask i j k=>run f (k (f i j))
noncomputable def good {α:Type} (n:Nat):KasT α→Bool
 | .ret _=>true
 | .ask i j k=>(decide (i < n) && decide (j < n) && decide (i ≠ j)) && (good n (k true) && good n (k false))
theorem Zlm {α:Type} {n:Nat} {k:Bool→KasT α} (h:(good n (k true) && good n (k false))=true) (b:Bool):good n (k b)=true:=by
 rw [Bool.and_eq_true] at h
 cases b with
 | true=>exact h.1
 | false=>exact h.2
theorem Zmg {α:Type} {n:Nat} {f:Nat→Nat→Bool} {cmp:Nat→Nat→(Bool→Shared→Prop)→Shared→Prop} {Q:α→Shared→Prop} {s:Shared} (hc:∀ i j (C:Bool→Shared→Prop),i < n→j < n→i ≠ j→C (f i j) s→cmp i j C s) :
  ∀ t:KasT α,good n t=true→Q (run f t) s→t.kasWp cmp Q s
 | .ret _,_,h=>h
 | .ask i j k,g,h=>by
  unfold good at g
  rw [Bool.and_eq_true,Bool.and_eq_true,Bool.and_eq_true] at g
  have g2:=g.2
  exact hc i j _ (of_decide_eq_true g.1.1.1) (of_decide_eq_true g.1.1.2) (of_decide_eq_true g.1.2) (Zmg hc (k (f i j)) (Zlm g2 _) h)
theorem Zgd {α:Type} {n:Nat} {f g:Nat→Nat→Bool} (hc:∀ i j,i < n→j < n→i ≠ j→f i j=g i j):∀ t:KasT α,good n t=true→run f t=run g t
 | .ret _,_=>rfl
 | .ask i j k,q=>by
  unfold good at q
  rw [Bool.and_eq_true,Bool.and_eq_true,Bool.and_eq_true] at q
  have g2:=q.2
  show run f (k (f i j))=run g (k (g i j))
  rw [hc i j (of_decide_eq_true q.1.1.1) (of_decide_eq_true q.1.1.2) (of_decide_eq_true q.1.2)]
  exact Zgd hc _ (Zlm g2 _)
theorem good2:good 2 (kas_sort 2)=true:=by decide +kernel
theorem good3:good 3 (kas_sort 3)=true:=by decide +kernel
noncomputable def f3 (a b c:Bool):Nat→Nat→Bool
 | 0,1=>a
 | 1,0=>!a
 | 0,2=>b
 | 2,0=>!b
 | 1,2=>c
 | 2,1=>!c
 | _,_=>false
noncomputable def Ze2 (f:Nat→Nat→Bool) (p:List Nat) (n:Nat):Bool:=decide (p.Perm (List.range n)) && (p.zip p.tail).all fun q=>f q.1 q.2
theorem s2:∀ a:Bool,Ze2 (f3 a false false) (run (f3 a false false) (kas_sort 2)).toList 2=true:=by decide +kernel
theorem s3:∀ a b c:Bool,(!(a && c && !b) && !(!a && !c && b))=true→Ze2 (f3 a b c) (run (f3 a b c) (kas_sort 3)).toList 3=true:=by decide +kernel
section
variable {prog:Program} {w:World} {A:Around} {E:Value→Shared→Prop} {s:Shared}
theorem sort_walk {f:Nat→Nat→Bool} {a:Addr} {vs:List Value} {n:Nat} {P:PySem.Fin→Shared→Prop} (ho:s.heap.get? a=some (seqObj "list" vs.toArray n)) (h3:vs.length ≤ 3)
  (ask:2 ≤ vs.length→∀ h',(∀ b o,b ≠ a→s.heap.get? b=some o→h'.get? b=some o)→wpAny (model prog w) A (keyKind' vs.toArray) (fun κ s'=>s'={ s with heap:=h' }∧∀ i j (C:Bool→Shared→Prop),i < vs.length→j < vs.length→i ≠ j→C (f i j) s'→kas_ask prog w A κ vs i j C s') (fun _ _=>False) { s with heap:=h' })
  (fin:∀ h' c (p:List Nat),p.length=vs.length→(2 ≤ vs.length→p=(run f (kas_sort vs.length)).toList)→(vs.length < 2→p=List.range vs.length)→(∀ b o,b ≠ a→s.heap.get? b=some o→h'.get? b=some o)→h'.get? a=some (seqObj "list" (p.map fun i=>vs.getD i Value.none).toArray c)→P (.done (.ret .none)) { s with heap:=h' }) :
  (wpAny (model prog w) A (Builtin.«list.sort» ⟨[.ref a],[]⟩) P E s):=by
 (have ha:a < s.heap.objs.size:=Heap.lt_size ho)
 have o1:=Heap.SameBut.update s.heap a (Obj.mapSeq fun _=>(#[]:Array Value))
 (obtain ⟨e1,ho1⟩:∃ e1,(s.heap.update a (Obj.mapSeq fun _=>(#[]:Array Value))).get? a=some (seqObj "list" #[] e1):=⟨_,get?_update_seq ho fun _=>#[]⟩)
 rw [list_sort_plain]
 (refine wpAny_bind (listItems_at ho rfl ?_))
 (refine wpAny_bind (listUpdate_at ho rfl ?_ (by rw [List.size_toArray,sizeLine_eq]; lia) (Nat.zero_le _)))
 (refine wpAny_bind (seqEpoch_at ho1 rfl ?_))
 (refine wpAny_bind (wpAny_newTuple ?_ (by show vs.length ≤ _; rw [sizeLine_eq]; lia)))
 (refine wpAny_bind (wpAny_newList ?_ (Nat.zero_le _)))
 refine wpAny_holding ?_
 have keep:∀ b o,b ≠ a→s.heap.get? b=some o→(((s.heap.update a (Obj.mapSeq fun _=>(#[]:Array Value))).push (seqObj "tuple" vs.toArray 0)).push (seqObj "list" #[] 0)).get? b=some o:=fun b o hb e=>Heap.get?_push_of_some _ (Heap.get?_push_of_some _ ((o1.2 b hb).trans e))
 have hoa:(((s.heap.update a (Obj.mapSeq fun _=>(#[]:Array Value))).push (seqObj "tuple" vs.toArray 0)).push (seqObj "list" #[] 0)).get? a=some (seqObj "list" #[] e1):=Heap.get?_push_of_some _ (Heap.get?_push_of_some _ ho1)
 (show wpAny (model prog w) A _ P E { s with heap:=((s.heap.update a (Obj.mapSeq fun _=>(#[]:Array Value))).push (seqObj "tuple" vs.toArray 0)).push (seqObj "list" #[] 0) })
 generalize ((s.heap.update a (Obj.mapSeq fun _=>(#[]:Array Value))).push (seqObj "tuple" vs.toArray 0)).push (seqObj "list" #[] 0)=h1 at keep hoa ⊢
 dsimp only
 by_cases h2:vs.length < 2
 ·have hn2:vs.toArray.size < 2:=by rw [List.size_toArray]; exact h2
  rw [if_pos hn2,if_pos hn2]
  refine wpAny_bind (wpAny_pure ?_)
  refine wpAny_bind (wpAny_of_eq (a:=((),SortSt.mk' general' (vs.toArray.zip vs.toArray) #[] 7 none)) rfl ?_)
  dsimp only
  have hout:(arrOf (SortSt.mk' general' (vs.toArray.zip vs.toArray) #[] 7 none)).map (·.2)=((List.range vs.length).map fun i=>vs.getD i Value.none).toArray:=by
   show ((vs.toArray.zip vs.toArray).map (·.2))=_
   apply Array.toList_inj.mp
   rw [Array.toList_map,Array.toList_zip,List.toList_toArray,List.map_snd_zip (Nat.le_refl _)]
   refine List.ext_getElem (by simp) fun k h1 h2=>?_
   simp [List.getD_eq_getElem?_getD,h1]
  rw [hout]
  have hp:(List.range vs.length).length=vs.length:=List.length_range
  have o2:=Heap.SameBut.update h1 a (Obj.mapSeq fun _=>((List.range vs.length).map fun i=>vs.getD i Value.none).toArray)
  obtain ⟨c2,hc2⟩:∃ c2,(h1.update a (Obj.mapSeq fun _=>((List.range vs.length).map fun i=>vs.getD i Value.none).toArray)).get? a=some (seqObj "list" ((List.range vs.length).map fun i=>vs.getD i Value.none).toArray c2):=⟨_,get?_update_seq hoa fun _=>((List.range vs.length).map fun i=>vs.getD i Value.none).toArray⟩
  refine wpAny_bind (seqEpoch_at hoa rfl ?_)
  refine wpAny_bind (listUpdate_at hoa rfl ?_ (Nat.zero_le _) (by rw [List.size_toArray,List.length_map,sizeLine_eq]; lia))
  show wpAny _ _ (if (e1 != e1)=true then _ else _) _ _ _
  rw [if_neg (by simp)]
  exact wpAny_pure (fin _ c2 _ hp (fun z=>absurd h2 (by lia)) (fun _=>rfl) (fun b o hb e=>(o2.2 b hb).trans (keep b o hb e)) hc2)
 ·have hn2:¬ vs.toArray.size < 2:=by rw [List.size_toArray]; exact h2
  rw [if_neg hn2,if_neg hn2]
  refine wpAny_bind (wpAny_mono (ask (by lia) h1 keep) (fun κ s0 hk=>?_) fun _ _ x=>x.elim)
  obtain ⟨rfl,hk⟩:=hk
  refine wpAny_bind (wpAny_mono (kat_run (Q:=fun st' s'=>s'={ s with heap:=h1 }∧∃ p:Array Nat,p.size=vs.length∧arrOf st'=p.map (kas_item (vs.toArray.zip vs.toArray))∧failedOf st'=none∧p=run f (kas_sort vs.length)) (G:=fun p s'=>s'={ s with heap:=h1 }∧p=run f (kas_sort vs.length))
   rfl (by lia) (by lia) (fun p st' s' a1 a2 a3 a4=>⟨a4.1,p,a1,a2,a3,a4.2⟩) (Zmg hk _ ?_ ⟨rfl,rfl⟩)) ?_ fun _ _ e=>e)
  ·rcases (by lia:vs.length=2 ∨ vs.length=3) with e | e
   ·rw [e]; exact good2
   ·rw [e]; exact good3
  rintro ⟨⟨⟩,st'⟩ s' ⟨rfl,p,hp,har,hf,hpe⟩
  dsimp only
  have hout:=kat_snds rfl har
  have hp':p.toList.length=vs.length:=by rw [Array.length_toList]; exact hp
  rw [hout]
  have o2:=Heap.SameBut.update h1 a (Obj.mapSeq fun _=>(p.toList.map fun i=>vs.getD i Value.none).toArray)
  obtain ⟨c2,hc2⟩:∃ c2,(h1.update a (Obj.mapSeq fun _=>(p.toList.map fun i=>vs.getD i Value.none).toArray)).get? a=some (seqObj "list" (p.toList.map fun i=>vs.getD i Value.none).toArray c2):=⟨_,get?_update_seq hoa fun _=>(p.toList.map fun i=>vs.getD i Value.none).toArray⟩
  refine wpAny_bind (seqEpoch_at hoa rfl ?_)
  refine wpAny_bind (listUpdate_at hoa rfl ?_ (Nat.zero_le _) (by rw [List.size_toArray,List.length_map,sizeLine_eq]; lia))
  rw [hf]
  (simp only [bne_self_eq_false,Bool.false_eq_true,if_false])
  exact wpAny_pure (fin _ c2 _ hp' (fun _=>by rw [hpe]) (fun z=>absurd z h2) (fun b o hb e=>(o2.2 b hb).trans (keep b o hb e)) hc2)
noncomputable def Zh7 (h:Heap) (as:List Addr) (ks:List Str):Prop:=as.length=ks.length∧∀ (i:Nat) a k,as[i]? = some a→ks[i]? = some k→∃ t x,h.get? a=some { cls:=.type "tuple",data:=.seq #[.str k t,x] }
noncomputable def lt (ks:List Str) (i j:Nat):Bool:=decide ((ks.getD i Str.empty).cps.toList < (ks.getD j Str.empty).cps.toList)
theorem Zkx {h:Heap}:∀ {as:List Addr} {ks:List Str},Zh7 h as ks→∃ fs:List Value,KatTups h (as.map Value.ref) fs∧fs.length=ks.length∧∀ v ∈ fs,∃ k t,v=.str k t
 | [],[],_=>⟨[],.nil,rfl,fun v hv=>nomatch hv⟩
 | [],_ :: _,h=>by have:=h.1; simp at this
 | _ :: _,[],h=>by have:=h.1; simp at this
 | a :: as,k :: ks,hp=>by
  obtain ⟨t,x,e⟩:=hp.2 0 a k rfl rfl
  obtain ⟨fs,f1,f2,f3⟩:=Zkx (as:=as) (ks:=ks) ⟨by have:=hp.1; simpa using this,fun i b l hb hl=>hp.2 (i + 1) b l (by simpa using hb) (by simpa using hl)⟩
  refine ⟨.str k t :: fs,.cons e rfl rfl rfl f1,by simp [f2],fun v hv=>?_⟩
  rcases (List.mem_cons.mp hv) with e | e
  ·exact ⟨k,t,e⟩
  ·exact f3 v e
theorem tup_ask {as:List Addr} {ks:List Str} (hp:Zh7 s.heap as ks) (nd:ks.Nodup) (h2:2 ≤ as.length) :
  wpAny (model prog w) A (keyKind' (as.map Value.ref).toArray) (fun κ s'=>s'=s∧∀ i j (C:Bool→Shared→Prop),i < (as.map Value.ref).length→j < (as.map Value.ref).length→i ≠ j→C (lt ks i j) s'→kas_ask prog w A κ (as.map Value.ref) i j C s') E s:=by
 obtain ⟨fs,f1,f2,f3⟩:=Zkx hp
 have hl:=hp.1
 refine kat_kind (T:=.type "str") f1 (by lia) (fun v hv A' Q' E' s' _ q=>?_) (by decide) ⟨rfl,fun i j C hi hj hij hC=>?_⟩
 ·obtain ⟨k,t,rfl⟩:=f3 v hv
  exact wpAny_typeOf (T := "str") rfl q
 ·rw [List.length_map] at hi hj
  obtain ⟨t,x,e1⟩:=hp.2 i as[i] (ks[i]'(by lia)) (List.getElem?_eq_getElem hi) (List.getElem?_eq_getElem (by lia))
  obtain ⟨u,y,e2⟩:=hp.2 j as[j] (ks[j]'(by lia)) (List.getElem?_eq_getElem hj) (List.getElem?_eq_getElem (by lia))
  have hne:ks[i]'(by lia) ≠ ks[j]'(by lia):=fun z=>hij ((List.getElem_inj nd).mp z)
  unfold kas_ask
  have g1:(as.map Value.ref).getD i Value.none=.ref as[i]:=by simp [List.getD_eq_getElem?_getD,hi]
  have g2:(as.map Value.ref).getD j Value.none=.ref as[j]:=by simp [List.getD_eq_getElem?_getD,hj]
  rw [g1,g2]
  refine kat_lt e1 rfl e2 rfl ?_
  show KatLex prog w A true _ C [(.str _ t,.str _ u),(x,y)] 0 s
  refine kat_cons (wpAny_eqBool_str ?_)
  rw [decide_eq_false hne]
  refine kat_no ?_
  have hC':C (decide ((ks[i]'(by lia)).cps.toList < (ks[j]'(by lia)).cps.toList)) s:=by
   unfold lt at hC
   rw [show ks.getD i Str.empty=ks[i]'(by lia) by simp [List.getD_eq_getElem?_getD,(by lia:i < ks.length)],show ks.getD j Str.empty=ks[j]'(by lia) by simp [List.getD_eq_getElem?_getD,(by lia:j < ks.length)]] at hC
   exact hC
  exact oneLt_str hC'
end
theorem Ze5 {ks:List Str} {i j:Nat} (nd:ks.Nodup) (hi:i < ks.length) (hj:j < ks.length) (hij:i ≠ j):lt ks j i=!lt ks i j:=by
 have gi:ks.getD i Str.empty=ks[i]:=by simp [List.getD_eq_getElem?_getD,hi]
 have gj:ks.getD j Str.empty=ks[j]:=by simp [List.getD_eq_getElem?_getD,hj]
 have hne:ks[i] ≠ ks[j]:=fun z=>hij ((List.getElem_inj nd).mp z)
 unfold lt
 rw [gi,gj]
 generalize ks[i]=a at hne
 generalize ks[j]=b at hne
 by_cases h1:a.cps.toList < b.cps.toList
 ·have h2:¬ b.cps.toList < a.cps.toList:=List.lt_asymm h1
  rw [decide_eq_true h1,decide_eq_false h2]
  rfl
 ·have h2:b.cps.toList < a.cps.toList:=by
   refine Decidable.byContradiction fun h2=>hne ?_
   have e:a.cps.toList=b.cps.toList:=List.le_antisymm (List.not_lt.mp h2) (List.not_lt.mp h1)
   have e2:a.cps=b.cps:=Array.toList_inj.mp e
   cases a
   cases b
   cases e2
   rfl
  rw [decide_eq_false h1,decide_eq_true h2]
  rfl
theorem Zis {ks:List Str} {i j k:Nat} (h1:lt ks i j=true) (h2:lt ks j k=true):lt ks i k=true:=decide_eq_true (List.lt_trans (of_decide_eq_true h1) (of_decide_eq_true h2))
theorem sorted_run {ks:List Str} (nd:ks.Nodup) (h2:2 ≤ ks.length) (h3:ks.length ≤ 3):Ze2 (lt ks) (run (lt ks) (kas_sort ks.length)).toList ks.length=true:=by
 have cong:∀ (g:Nat→Nat→Bool) (n:Nat) (p:List Nat),(∀ i j,i < n→j < n→i ≠ j→lt ks i j=g i j)→Ze2 g p n=true→Ze2 (lt ks) p n=true:=fun g n p hg hs=>by
  unfold Ze2 at hs ⊢
  rw [Bool.and_eq_true] at hs ⊢
  refine ⟨hs.1,?_⟩
  have hperm:=of_decide_eq_true hs.1
  rw [List.all_eq_true] at hs ⊢
  have hsd:=hs.2
  intro q hq
  have hq2:=hsd q hq
  have m1:q.1 ∈ p:=(List.of_mem_zip hq).1
  have m2:q.2 ∈ p:=List.mem_of_mem_tail (List.of_mem_zip hq).2
  have hndp:p.Nodup:=hperm.nodup_iff.mpr List.nodup_range
  have hne:q.1 ≠ q.2:=fun e=>by
   obtain ⟨k,hk⟩:=List.getElem?_of_mem hq
   rw [List.getElem?_zip_eq_some,List.getElem?_tail] at hk
   obtain ⟨l1,e1⟩:=List.getElem?_eq_some_iff.mp hk.1
   obtain ⟨l2,e2⟩:=List.getElem?_eq_some_iff.mp hk.2
   have:=(List.getElem_inj hndp).mp (e1.trans (e.trans e2.symm))
   lia
  rw [hg q.1 q.2 (List.mem_range.mp (hperm.mem_iff.mp m1)) (List.mem_range.mp (hperm.mem_iff.mp m2)) hne]
  exact hq2
 rcases (by lia:ks.length=2 ∨ ks.length=3) with e | e
 ·rw [e]
  have hg:∀ i j,i < 2→j < 2→i ≠ j→lt ks i j=f3 (lt ks 0 1) false false i j:=fun i j hi hj hij=>by
   rcases (by lia:(i=0∧j=1) ∨ (i=1∧j=0)) with ⟨rfl,rfl⟩ | ⟨rfl,rfl⟩
   ·rfl
   ·exact Ze5 nd (by lia) (by lia) (by lia)
  rw [Zgd hg _ good2]
  exact cong _ 2 _ hg (s2 _)
 ·rw [e]
  have hg:∀ i j,i < 3→j < 3→i ≠ j→lt ks i j=f3 (lt ks 0 1) (lt ks 0 2) (lt ks 1 2) i j:=fun i j hi hj hij=>by
   rcases (by lia:(i=0∧j=1) ∨ (i=1∧j=0) ∨ (i=0∧j=2) ∨ (i=2∧j=0) ∨ (i=1∧j=2) ∨ (i=2∧j=1)) with ⟨rfl,rfl⟩ | ⟨rfl,rfl⟩ | ⟨rfl,rfl⟩ | ⟨rfl,rfl⟩ | ⟨rfl,rfl⟩ | ⟨rfl,rfl⟩
   ·rfl
   ·exact Ze5 nd (by lia) (by lia) (by lia)
   ·rfl
   ·exact Ze5 nd (by lia) (by lia) (by lia)
   ·rfl
   ·exact Ze5 nd (by lia) (by lia) (by lia)
  rw [Zgd hg _ good3]
  refine cong _ 3 _ hg (s3 _ _ _ ?_)
  have f10:=Ze5 (i:=0) (j:=1) nd (by lia) (by lia) (by lia)
  have f20:=Ze5 (i:=0) (j:=2) nd (by lia) (by lia) (by lia)
  have f21:=Ze5 (i:=1) (j:=2) nd (by lia) (by lia) (by lia)
  have t1:=@Zis ks 0 1 2
  have t2:=@Zis ks 2 1 0
  rw [f10,f20,f21] at t2
  revert t1 t2
  cases lt ks 0 1 <;> cases lt ks 0 2 <;> cases lt ks 1 2 <;> simp
section
variable {prog:Program} {w:World} {A:Around} {E:Value→Shared→Prop} {s:Shared}
theorem items_sorted {κ:Type} [DecidableEq κ] {knd:PySem.KeyKind prog w κ} {kvs:List (κ × Value)} {ep:Nat} {r d:Addr} {ks:List Str} {Q:Value→Shared→Prop} (hh:A.handled=none) (hv:s.heap.IsItemsView r d) (hm:s.heap.DictAt knd d kvs ep) (hn:kvs.length ≤ 3) (hks:ks.length=kvs.length)
  (hkey:∀ (j:Nat) k x key,kvs[j]? = some (k,x)→knd.is k key=true→∃ y t,ks[j]? = some y∧key=.str y t) (nd:ks.Nodup)
  (h:∀ (h1 h':Heap) (tk:Nat) (as:List Addr) (p:List Nat) (c:Nat),(∀ b o,s.heap.get? b=some o→h1.get? b=some o)→as.length=kvs.length→KdxG knd kvs s.heap.objs.size h1 as→p.Perm (List.range kvs.length)→((p.zip p.tail).all fun q=>lt ks q.1 q.2)=true→(∀ b o,h1.get? b=some o→h'.get? b=some o) →
   h'.get? h1.objs.size=some (seqObj "list" (p.map fun i=>(as.map Value.ref).getD i Value.none).toArray c)→Q (.ref h1.objs.size) { s with heap:=h',toks:=tk }):wpAny (model prog w) A (call (.builtin "sorted") [.ref r]) Q E s:=by
 have e0:=args_sorted1 (.ref r)
 refine Calls.call_function_entry kind_sorted plain_sorted entry_sorted e0 ?_
 unfold Builtin.«sorted»
 (refine wpAny_bind (m:=checkCount "sorted" 1 1 _) (wpAny_pure ?_))
 have hsl:sizeLine=16777216:=sizeLine_eq
 refine wpAny_bind (kdx_collect (A:=A.in1) (knd:=knd) (kvs:=kvs) (ep:=ep) hh hv hm (by lia) fun h1 tk as hk hl hG=>?_)
 refine wpAny_bind (wpAny_newList ?_ (by rw [List.length_map]; lia))
 have hoB:(h1.push (seqObj "list" (as.map Value.ref).toArray 0)).get? h1.objs.size=some (seqObj "list" (as.map Value.ref).toArray 0):=Heap.get?_push_size _ rfl
 have pa:Zh7 h1 as ks:=⟨by rw [hl,hks],fun i a k ha hk'=>by
  obtain ⟨key,k2,x,e1,e2,e3⟩:=hG.pairs i a ha
  obtain ⟨y,t,e4,rfl⟩:=hkey i k2 x key e1 e2
  rw [hk'] at e4
  cases e4
  exact ⟨t,x,e3⟩⟩
 have inA:∀ a ∈ as,a ≠ h1.objs.size:=fun a ha=>Nat.ne_of_lt (hG.there ha)
 refine wpAny_bind (wpAny_holding (wpAny_call_entry slot_list_sort ⟨_,hoB,rfl⟩ entry_list_sort ?_ (args_list_sort _)))
 refine sort_walk (f:=lt ks) (s:={ s with heap:=h1.push (seqObj "list" (as.map Value.ref).toArray 0),toks:=tk }) hoB (by rw [List.length_map]; lia) (fun h2 h' kk=>?_) (fun h' c p hp p2 p1 kk hB=>?_)
 ·rw [List.length_map] at h2
  have pa':Zh7 h' as ks:=⟨pa.1,fun i a k ha hk'=>by
   obtain ⟨t,x,e⟩:=pa.2 i a k ha hk'
   exact ⟨t,x,kk a _ (inA a (List.mem_of_getElem? ha)) (Heap.get?_push_of_some _ e)⟩⟩
  exact tup_ask (s:={ s with heap:=h',toks:=tk }) pa' nd h2
 ·rw [List.length_map] at hp p2 p1
  have ext:∀ b o,h1.get? b=some o→h'.get? b=some o:=fun b o e=>kk b o (Nat.ne_of_lt (Heap.lt_size e)) (Heap.get?_push_of_some _ e)
  have key:p.Perm (List.range kvs.length)∧((p.zip p.tail).all fun q=>lt ks q.1 q.2)=true:=by
   by_cases h2:2 ≤ kvs.length
   ·have e:=p2 (by lia)
    have hs:=sorted_run nd (by lia) (by lia)
    rw [hks,← hl,← e] at hs
    unfold Ze2 at hs
    rw [Bool.and_eq_true] at hs
    rw [← hl]
    exact ⟨of_decide_eq_true hs.1,hs.2⟩
   ·have e:=p1 (by lia)
    rw [e,hl]
    refine ⟨.refl _,?_⟩
    rcases (by lia:kvs.length=0 ∨ kvs.length=1) with z | z <;> (rw [z]; rfl)
  exact ⟨_,rfl,wpAny_pure ⟨_,rfl,h h1 h' tk as p c hk hl hG key.1 key.2 ext hB⟩⟩
end
end SI
namespace L2
open PySem PySem.W PyProof.Rows
section
variable {X:Cx} {pins:List (Addr × Obj)} {σ:St}
noncomputable def PrAt (H:Hp) (as:List Addr) (ps:List (Str × V)):Prop:=as.length=ps.length∧∀ (i:Nat) a p,as[i]? = some a→ps[i]? = some p→H a=some (.tup [.str p.1,p.2])
theorem FpOk.off {H:Hp} {a b:Addr} {o:HO} (h:FpOk X pins H a) (n:a ≠ b):FpOk X pins (upd H b o) a:=⟨by rw [Zak n]; exact h.1,h.2⟩
theorem Zgb {s:Shared}:∀ (as:List Addr) (ps:List (Str × V)) (H:Hp),Inv X pins σ H s→as.Nodup→as.length=ps.length→(∀ a ∈ as,FpOk X pins H a) →
  (∀ (i:Nat) a p,as[i]? = some a→ps[i]? = some p→∃ u t,RelV p.2 u∧s.heap.get? a=some { cls:=.type "tuple",data:=.seq #[.str p.1 t,u] })→∃ H',Inv X pins σ H' s∧Same H H'∧PrAt H' as ps
 | [],[],H,I,_,_,_,_=>⟨H,I,Same.refl _,rfl,fun i a p h=>by simp at h⟩
 | [],_ :: _,_,_,_,h,_,_=>by simp at h
 | _ :: _,[],_,_,_,h,_,_=>by simp at h
 | a :: as,p :: ps,H,I,nd,hl,hf,hp=>by
  obtain ⟨u,t,ru,e⟩:=hp 0 a p rfl rfl
  have fa:=hf a List.mem_cons_self
  have nd':=List.nodup_cons.mp nd
  have I1:Inv X pins σ (upd H a (.tup [.str p.1,p.2])) s:=I.trackF fa ⟨by show 2 ≤ sizeLine; decide,[.str p.1 t,u],.cons ⟨t,rfl⟩ (.cons ru .nil),_,e,rfl,0,rfl⟩
  obtain ⟨H',I',s',pr⟩:=Zgb as ps _ I1 nd'.2 (by simpa using hl) (fun b hb=>(hf b (List.mem_cons_of_mem _ hb)).off fun z=>nd'.1 (z ▸ hb)) (fun i b q hb hq=>hp (i + 1) b q (by simpa using hb) (by simpa using hq))
  refine ⟨H',I',(Zhk fa.1).trans s',hl,fun i b q hb hq=>?_⟩
  cases i with
  | zero=>
   cases hb
   cases hq
   exact s' _ _ Zac
  | succ i=>exact pr.2 i b q (by simpa using hb) (by simpa using hq)
noncomputable def ltP (zs:List (Str × V)):Bool:=(zs.zip zs.tail).all fun q=>decide (q.1.1.cps.toList < q.2.1.cps.toList)
theorem call_sortedI (hc:X.calm=true):Zdc X (.builtin "sorted") (fun xs H Q=>∃ (v d:Addr) (ps:List (Str × V)),xs=[.ref v]∧H v=some (Zdd v d)∧H d=some (.dK (ps.map fun p=>(Sum.inr p.1,p.2)))∧ps.length ≤ 3 ∧
  ∀ (l:Addr) (as:List Addr) (zs:List (Str × V)) (H':Hp),Same H H'→H l=none→zs.Perm ps→ltP zs=true→H' l=some (.lst (as.map V.ref))→PrAt H' as zs→Q (.ref l) H'):=by
 intro pins s σ H xs us Q I r h
 obtain ⟨v,d,ps,rfl,hv,hd,h3,q⟩:=h
 obtain ⟨u,rfl,ru⟩:=Ze1 r
 cases ru
 obtain ⟨hz,hm,vs,hkv,o,es,ep,ho,ex,hdd,hK,hP,hnd⟩:=Zl6 I.hok hd
 have hat:s.heap.DictAt (Za2 X.prog X.w) d vs ep:=⟨o,es,ho,ex,hdd,hK,hP,hnd⟩
 obtain ⟨view,_,_⟩:=I.hok v _ hv
 have hl':=hkv.length
 rw [List.length_map] at hl'
 have hsl:sizeLine=16777216:=sizeLine_eq
 have at':∀ (j:Nat) k x,vs[j]? = some (k,x)→∃ p,ps[j]? = some p∧k=Sum.inr p.1∧RelV p.2 x:=fun j k x hj=>by
  have hjl:=(List.getElem?_eq_some_iff.mp hj).1
  have hjp:j < ps.length:=by lia
  obtain ⟨u,hu,ru⟩:=KV.get2 (i:=j) hkv (show (ps.map fun p=>((Sum.inr p.1:Key),p.2))[j]? = some (Sum.inr (ps[j]).1,(ps[j]).2) by rw [List.getElem?_map,List.getElem?_eq_getElem hjp]; rfl)
  rw [hj] at hu
  cases hu
  exact ⟨ps[j],List.getElem?_eq_getElem hjp,rfl,ru⟩
 refine SI.items_sorted (knd:=Za2 X.prog X.w) (ks:=ps.map (·.1)) (I.ok.hd hc) view hat (by lia) (by rw [List.length_map]; lia) (fun j k x key hj hk=>?_) ?_ fun h1 h' tk as p c ext1 hl hG hp hs ext hB=>?_
 ·obtain ⟨pp,e1,e2,_⟩:=at' j k x hj
  subst e2
  rcases Za3 (show Zgw (Sum.inr pp.1) key=true from hk) with ⟨i,t,e1',e2⟩ | ⟨y,t,e1',e2⟩
  ·cases e1'
  ·cases e1'
   exact ⟨_,t,by rw [List.getElem?_map,e1]; rfl,e2⟩
 ·have ek:=hkv.keys
  rw [← ek,List.map_map] at hnd
  have e:ps.map ((fun x:Key × V=>x.1) ∘ fun p=>((Sum.inr p.1:Key),p.2))=(ps.map (·.1)).map Sum.inr:=by rw [List.map_map]; rfl
  rw [e] at hnd
  exact List.Pairwise.of_map Sum.inr (fun a b h z=>h (by rw [z])) hnd
 ·have I1:Inv X pins σ H { s with heap:=h1,toks:=tk }:=I.kept (t':=tk) ext1
  have hf:∀ a ∈ as,FpOk X pins H a:=fun a ha=>I.fpOk (Nat.le_of_lt (hG.above a ha)) (I.hok.fresh (Nat.le_of_lt (hG.above a ha)))
  obtain ⟨H2,I2,s2,pr⟩:=Zgb as ps H I1 (hG.rise.imp fun z=>Nat.ne_of_lt z) (by lia) hf (fun i a pp ha hpp=>by
   obtain ⟨key,k,x,e1,e2,e3⟩:=hG.pairs i a ha
   obtain ⟨p2,f1,f2,f3⟩:=at' i k x e1
   rw [hpp] at f1
   cases f1
   subst f2
   rcases Za3 (show Zgw (Sum.inr pp.1) key=true from e2) with ⟨i',t,g1,g2⟩ | ⟨y,t,g1,g2⟩
   ·cases g1
   ·cases g1
    rw [g2] at e3
    exact ⟨x,t,f3,e3⟩)
  have hpr:∀ i ∈ p,i < as.length:=fun i hi=>by
   have:=List.mem_range.mp (hp.mem_iff.mp hi)
   lia
  have hplen:p.length=as.length:=by rw [hp.length_eq,List.length_range,hl]
  have vals:∀ q:List Nat,(∀ i ∈ q,i < as.length)→Vals ((q.map fun i=>as.getD i 0).map V.ref) (q.map fun i=>(as.map Value.ref).getD i Value.none):=fun q=>by
   induction q with
   | nil=>exact fun _=>.nil
   | cons i q ih=>
    intro hq
    have hi:=hq i List.mem_cons_self
    refine .cons ?_ (ih fun j hj=>hq j (List.mem_cons_of_mem _ hj))
    have e1:as.getD i 0=as[i]:=by simp [List.getD_eq_getElem?_getD,hi]
    have e2:(as.map Value.ref).getD i Value.none=.ref as[i]:=by simp [List.getD_eq_getElem?_getD,hi]
    show RelV (.ref (as.getD i 0)) ((as.map Value.ref).getD i Value.none)
    rw [e1,e2]
    rfl
  have fr2:H2 h1.objs.size=none:=I2.hok.fresh (Nat.le_refl _)
  have I3:Inv X pins σ (upd H2 h1.objs.size (.lst ((p.map fun i=>as.getD i 0).map V.ref))) { s with heap:=h',toks:=tk }:=
   I2.laid (t':=tk) (a:=h1.objs.size) (o:=.lst ((p.map fun i=>as.getD i 0).map V.ref)) ext (Nat.le_refl _) ⟨by rw [List.length_map,List.length_map]; lia,_,c,vals p hpr,hB⟩
  refine ⟨.ref h1.objs.size,_,I3,rfl,q _ (p.map fun i=>as.getD i 0) (p.map fun i=>ps.getD i (Str.empty,.non)) _ (s2.trans (Zhk fr2)) (I1.hok.fresh (Nat.le_refl _)) ?_ ?_ Zac ⟨by rw [List.length_map,List.length_map],fun i a z ha hz=>?_⟩⟩
  ·refine (hp.map _).trans ?_
   have e:(List.range vs.length).map (fun i=>ps.getD i (Str.empty,.non))=ps:=by
    refine List.ext_getElem (by simp [hl']) fun k h1 h2=>?_
    simp [List.getD_eq_getElem?_getD,h2]
   rw [e]
  ·unfold ltP
   rw [← List.map_tail,List.zip_map,List.all_map]
   rw [List.all_eq_true] at hs ⊢
   intro x hx
   have:=hs x hx
   unfold SI.lt at this
   have eg:∀ i,(ps.map (·.1)).getD i Str.empty=(ps.getD i (Str.empty,.non)).1:=fun i=>by
    (rw [List.getD_eq_getElem?_getD,List.getD_eq_getElem?_getD,List.getElem?_map])
    cases ps[i]? <;> rfl
   rw [eg,eg] at this
   exact this
  ·rw [List.getElem?_map] at ha hz
   cases hk:p[i]? with
   | none=>rw [hk] at ha; cases ha
   | some k=>
    rw [hk] at ha hz
    have hka:=hpr k (List.mem_of_getElem? hk)
    have ea:as[k]? = some a:=by
     have e9:as.getD k 0=a:=Option.some.inj ha
     rw [← e9,List.getD_eq_getElem?_getD,List.getElem?_eq_getElem hka]
     rfl
    have ez:ps[k]? = some z:=by
     have e9:ps.getD k (Str.empty,.non)=z:=Option.some.inj hz
     rw [← e9,List.getD_eq_getElem?_getD,List.getElem?_eq_getElem (by lia)]
     rfl
    exact Zhk fr2 _ _ (pr.2 k a z ea ez)
end
end L2
namespace L2
open PySem PySem.Spec PyProof.Rows PySem.W
section
variable {M:Model} {A:Around} {env:Env} {E:Value→Shared→Prop} {s:Shared}
noncomputable def Zi1 (M:Model) (A:Around) (E:Value→Shared→Prop) (use:Option (Value→Sem Unit)) (Q:Value→Shared→Prop) (acc:Value) (ce:Env) (r:Result) (s':Shared):Prop:=
 match r with
 | .ok _=>(match use with
  | none=>∃ m,s'.heap.Ns ce.locals m∧∀ h',Heap.SameBut ce.locals s'.heap h'→Q acc { s' with heap:=h' }
  | some u=>wpAny M A (u acc) (fun _ t=>∃ m,t.heap.Ns ce.locals m∧∀ h',Heap.SameBut ce.locals t.heap h'→Q .none { t with heap:=h' }) E s')
 | .error x=>∃ m,s'.heap.Ns ce.locals m∧∀ h',Heap.SameBut ce.locals s'.heap h'→wpAny M A (passOn "comprehension.variables-let-go" x ce:Sem Value) (fun _ _=>False) E { s' with heap:=h' }
theorem comp_freeE {e:Expr} {scope:Scope} {pos:Pos} {newAcc first:Sem Value} {g:Comprehension} {gs:List Comprehension} {cl:List (Str × Addr)} {use:Option (Value→Sem Unit)} {Q:Value→Shared→Prop}
  (hcl:clausesOf e=g :: gs) (hs:∀ x,foldedSetIterable g.iter env x=pure x) (hclos:closureFor scope env=pure cl) (hkind:scope.kind=.function) (hnames:∀ x ∈ scope.names,x.2=.local→scope.names.lookup x.1=some .local)
  (h:wpAny M A first (fun x s1=>wpAny M A (pyIter x) (fun it s2=>wpAny M A newAcc (fun acc s3=>wpAny M A (newFunctionEnv scope env.globals cl [] env.qual none .none (some env)) (fun ce s4=>
    codeAny M A (.compStart e 0 it acc { ce with scope:=relabel scope env }) (Zi1 M A E use Q acc ce) s4) E s3) E s2) E s1) E s) :
  (wpAny M A (comprehension e scope env pos newAcc false first use) Q E s):=by
 unfold comprehension
 rw [hclos,hcl]
 refine wpAny_bind (thn h fun x s1 h1=>wpAny_bind (wpAny_standAt (wpAny_bind (wpAny_of_eq (hs x) (wpAny_bind (wpAny_holding (thn h1 fun it s2 h2=>
  wpAny_standIf (wpAny_bind (thn h2 fun acc s3 h3=>wpAny_bind (wpAny_pure (wpAny_bind (thn h3 fun ce s4 h4=>?_))))))))))))
 dsimp only
 have hv:∀ x ∈ (scope.names.filter fun x=>(x.2 == .local || x.2 == .cell) && x.1 != (".0" : Str)).reverse,x.2=.local→Env.kindOf { ce with scope:=relabel scope env } x.1=some .local:=fun x hx hl=>
  lookup_relabel_local (hnames x (List.mem_filter.mp (List.mem_reverse.mp hx)).1 hl)
 refine wpAny_holding (wpAny_bind (wpAny_attempt (wpAny_holding (wpAny_run (codeAny_mono h4 fun r s' hr=>?_)))))
 cases r with
 | ok f=>
  cases use with
  | none=>
   obtain ⟨m,hn,hr⟩:=hr
   exact wpAny_bind (wpAny_holding (wpAny_comp_letGo (cenv:={ ce with scope:=relabel scope env }) hkind _ s' m hv hn fun h' _ _ q=>wpAny_pure (hr h' q)))
  | some u=>
   refine wpAny_bind (wpAny_rule (wpAny_bind (wpAny_holding (thn hr fun _ t hr'=>?_))))
   obtain ⟨m,hn,hr'⟩:=hr'
   exact wpAny_bind (wpAny_comp_letGo (cenv:={ ce with scope:=relabel scope env }) hkind _ t m (fun x hx hl=>by
    rcases (List.mem_append.mp hx) with z1 | z1
    ·exact hv x (List.mem_of_mem_drop z1) hl
    ·exact hv x (List.mem_of_mem_take z1) hl) hn fun h' _ _ q=>wpAny_pure (hr' h' q))
 | error x=>
  obtain ⟨m,hn,hr'⟩:=hr
  exact wpAny_bind (wpAny_holding (wpAny_comp_letGo (cenv:={ ce with scope:=relabel scope env }) hkind _ s' m hv hn fun h' _ _ q=>wpAny_mono (hr' h' q) (fun _ _ f=>f.elim) fun _ _ y=>y))
theorem setFlight_heldE {base:Heap} {l:List Env} {e L:Addr} {cls a0:Value} {Q:Unit→Shared→Prop} (R:Heap.HeldW base l e cls a0 L s.heap)
  (h:∀ g,Heap.HeldW base l e cls a0 L g→s.heap.UpToSlots g→Q () { s with heap:=g }):wpAny M A (setFlight (.ref e) (some L)) Q E s:=by
 (obtain ⟨hkb,hen,hl,oe,vs,T,oT,ts,he,hcls,hd,h1,hnT,hTe,hT,hdT,h3⟩:=R)
 have z3:3 < ts.size:=(Array.getElem?_eq_some_iff.mp h3).1
 have other:∀ b,b ≠ T→(s.heap.update T (Obj.mapFields (·.setIfInBounds 3 ((some L).elim Value.none fun f=>rawInt f)))).get? b=s.heap.get? b:=fun b hb=>Heap.get?_update_other _ _ fun z=>hb z.symm
 have noT:∀ b o,s.heap.get? b=some o→(∀ vs,o.data ≠ .fields vs)→b ≠ T:=fun b o hb hnf q=>by
  rw [q,hT] at hb
  injection hb with hb
  subst hb
  exact hnf ts hdT
 unfold setFlight
 (refine wpAny_bind (wpAny_field he hd h1 ?_))
 rw [if_pos (by simp)]
 refine wpAny_setField hT hdT z3 (h _ ⟨fun b o hbo=>(other b fun q=>by
  rw [q,hnT] at hbo
  cases hbo).trans (hkb b o hbo),hen,hl.of_keeps fun b o hb hnf=>⟨o,(other b (noT b o hb hnf)).trans hb,rfl⟩,?_⟩ fun b o hb hnf=>⟨o.slots,(other b (noT b o hb hnf)).trans hb⟩)
 exact ⟨oe,vs,T,_,_,(other e fun z=>hTe z.symm).trans he,hcls,hd,h1,hnT,hTe,Heap.get?_update_self _ hT (Obj.isFreed_of_fields (Obj.data_mapFields hdT _)),Obj.data_mapFields hdT _,by simp [z3]⟩
theorem wpAny_passOnE {α:Type} {base:Heap} {l:List Env} {e L:Addr} {cls a0:Value} {what:String} {Q:α→Shared→Prop} (hf:env.frame=some L) (R:Heap.HeldW base l e cls a0 L s.heap)
  (h:∀ h',Heap.HeldW base l e cls a0 L h'→s.heap.UpToSlots h'→E (.ref e) { s with heap:=h' }):wpAny M A (passOn what (.ref e) env:Sem α) Q E s:=by
 have R':=R
 obtain ⟨_,_,_,oe,vs,T,_,_,he,_,hd,h1,_⟩:=R'
 unfold PySem.passOn
 (refine wpAny_bind (wpAny_field he hd h1 ?_))
 rw [if_neg (by simp),hf]
 exact wpAny_bind (setFlight_heldE R fun h' r u=>wpAny_throw (h h' r u))
theorem leaves_heldE {base:Heap} {outer:List Env} {L e:Addr} {cls a0:Value} {Q:Unit→Shared→Prop} (hf:env.frame=some L) (hh:Heap.HeldW base (env :: outer) e cls a0 L s.heap)
  (hQ:∀ g,Heap.FlyingW base outer e cls a0 g→s.heap.UpToSlots g→Q () { s with heap:=g }):wpAny M A (leaving env (.ref e)) Q E s:=by
 unfold leaving
 refine wpAny_bind (wpAny_noteFrame_againW hf hh.2.2.2 (wpAny_landsW hh fun h' hfl u=>?_))
 (obtain ⟨k1,k2,⟨_,_,k3⟩,k4⟩:=hfl)
 exact hQ h' ⟨k1,k2,k3,k4⟩ u
end
theorem Zfj {h h' base:Heap}:∀ {l:List Env},(∀ b ∈ frs l,h'.get? b=h.get? b)→h.FunFrames base l→h'.FunFrames base l
 | [],_,_=>trivial
 | env :: r,k,⟨hk,⟨L,o,hf,hn,ho,hd⟩,hr⟩=>by
  have e:frs (env :: r)=L :: frs r:=by unfold frs; rw [List.filterMap_cons,hf]
  rw [e] at k
  exact ⟨hk,⟨L,o,hf,hn,(k L List.mem_cons_self).trans ho,hd⟩,Zfj (fun b hb=>k b (List.mem_cons_of_mem _ hb)) hr⟩
theorem fly_onE {X:Cx} {pins:List (Addr × Obj)} {σ:St} {H H':Hp} {s s':Shared} {a C D:Addr} {B h':Heap} {env:Env} {outer:List Env} (I:Inv X pins σ H s) (hex:X.ex=[]) (hst:X.stack=env :: outer) (hout:X.outer=outer) (hf:env.frame=some X.env.locals)
  (F:Fly X.prog X.w X.stack H s a H' B s') (hD:H' D=none) (hD2:X.s₀.heap.objs.size ≤ D) {t:Addr} (hfl:Heap.FlyingW (hideAll B [D]) outer a (.ref C) (.ref t) h')
  (ups:∀ b o,b ≠ D→s'.heap.get? b=some o→(∀ vs,o.data ≠ .fields vs)→∃ sl,h'.get? b=some { o with slots:=sl }):Fly X.prog X.w outer X.H₀ X.s₀ a H' (hideAll B [D]) { s' with heap:=h' }:=by
 subst hout
 have hsub:∀ b,b ∈ X.fs→b ∈ frs X.stack:=fun b hb=>by
  rw [hst]
  unfold frs
  rw [List.filterMap_cons,hf]
  exact List.mem_cons_of_mem _ hb
 have hold:∀ b o,X.s₀.heap.get? b=some o→b ≠ X.env.locals∧b ≠ D:=fun b o e=>⟨fun z=>absurd (Nat.lt_of_lt_of_le (z ▸ Heap.lt_size e) I.ok.above) (Nat.lt_irrefl _),fun z=>absurd (Nat.lt_of_lt_of_le (z ▸ Heap.lt_size e) hD2) (Nat.lt_irrefl _)⟩
 have nex:∀ b:Addr,b ∉ X.ex:=fun b z=>by rw [hex] at z; cases z
 have hout2:∀ b o,X.s₀.heap.get? b=some o→b ∉ X.fs→b ∉ frs X.stack:=fun b o e hb z=>by
  rw [hst] at z
  unfold frs at z
  rw [List.filterMap_cons,hf] at z
  rcases (List.mem_cons.mp z) with q | q
  ·exact (hold b o e).1 q
  ·exact hb q
 have back:∀ b o,b ≠ D→B.get? b=some o→(hideAll B [D]).get? b=some o:=fun b o n e=>hideAll_get _ e fun z=>by
  rcases (List.mem_cons.mp z) with q | q
  ·exact n q
  ·cases q
 have nD:∀ c,H' c ≠ none→c ≠ D:=fun c hc z=>hc (by rw [z]; exact hD)
 have k1:∀ b o,X.s₀.heap.get? b=some o→X.H₀ b=none→b ∉ X.fs→(hideAll B [D]).get? b=some o:=fun b o e n hb=>
  back b o (hold b o e).2 (F.k1 b o (I.base.keep b o e n hb (nex b)) (I.base.free b o e n (nex b)) (hout2 b o e hb))
 have k2:∀ c v,H' c ≠ none→s'.heap.get? c=some v→(hideAll B [D]).get? c=some v:=fun c v hc q=>back c v (nD c hc) (F.k2 c v hc q)
 have slot:∀ b o,X.s₀.heap.get? b=some o→X.H₀ b=none→b ∈ X.fs→∃ sl,h'.get? b=some { o with slots:=sl }:=fun b o e n hb=>by
  obtain ⟨sl,e1⟩:=I.base.slot b o e n hb (nex b)
  obtain ⟨sl2,e2⟩:=F.un.slot b _ e1 (I.base.free b o e n (nex b)) (hsub b hb) (by simp)
  obtain ⟨_,o',ho',hd⟩:=F.funs.mem (hsub b hb)
  rw [e2] at ho'
  cases ho'
  exact (ups b _ (hold b o e).2 e2 hd).imp fun _ z=>z
 have k3:∀ b o,X.s₀.heap.get? b=some o→b ∉ X.fs→∃ o',(hideAll B [D]).get? b=some o':=fun b o e hb=>by
  obtain ⟨o1,e1⟩:=I.base.there b o e (nex b)
  obtain ⟨o2,e2⟩:=F.k3 b o1 e1 (hout2 b o e hb)
  exact ⟨o2,back b o2 (hold b o e).2 e2⟩
 refine ⟨F.os.trans I.os,F.bare,⟨fun b o e n hb _=>hfl.1 b o (k1 b o e n hb),fun b o e n hb _=>slot b o e n hb,fun b o e n _=>?_,fun b o e _=>?_,fun b xs q=>F.un.tups b xs (I.base.tups b xs q),fun b o u q=>F.un.frzs b o u (I.base.frzs b o u q),fun b ps q=>?_⟩,
  fun b u e=>(F.hok b u e).stay (fun c v hc q=>hfl.1 c v (k2 c v (by
   rcases hc with z | z
   ·rw [z,e]; intro z; cases z
   ·rw [z]; intro z; cases z) q)) (fun _ q=>q) fun _ _ q=>q,hfl.2.2.1,F.new,?_,k1,fun c v hc q=>?_,k3⟩
 ·obtain ⟨sl,e1⟩:=I.base.any e n (nex b)
  exact F.un.free b _ e1 (I.base.free b o e n (nex b)) (by simp)
 ·by_cases hb:b ∈ X.fs
  ·obtain ⟨sl,q⟩:=slot b o e (I.ok.frf b hb) hb
   exact ⟨_,q⟩
  ·obtain ⟨o2,e2⟩:=k3 b o e hb
   exact ⟨o2,hfl.1 b o2 e2⟩
 ·obtain ⟨m1,q1⟩:=I.base.tbls b ps q
  obtain ⟨m2,q2⟩:=F.un.tbls b _ q1
  exact ⟨m1 ++ m2,by rw [q2,Array.append_assoc]⟩
 ·cases z:X.s₀.heap.get? a with
  | none=>rfl
  | some o=>
   obtain ⟨o',e'⟩:=I.base.there a o z (nex a)
   rw [F.fresh] at e'
   cases e'
 ·cases hu:H' c with
  | none=>exact absurd hu hc
  | some u=>
   obtain ⟨v',hv'⟩:=(F.hok c u hu).there
   have hB:=k2 c v' hc hv'
   have q':h'.get? c=some v:=q
   rw [hfl.1 c v' hB] at q'
   cases q'
   exact hB
theorem comp_flies {P:Program} {w:World} {K:PySem.W.Frag} {mg:Str→Option Value} {base:Heap} {N:List Str} {qual:Str} {scope:Scope} {f:Addr} {cd:Value} {A:Around} {outer:List Env} {s0:Shared} {H0:Hp} {E:XK} {X:Cx}
  (hX:X=cxOf (CXe P w) P w K mg base N qual scope f cd A outer s0 H0 E) {pins:List (Addr × Obj)} {σ:St} {H:Hp} {s s':Shared} {e:Value} {D:Addr} {m:Str→Option Value} {ce ce':Env} {Z:Value→Shared→Prop} (I:Inv X pins σ H s) (hD:s.heap.Ns D m) (fD:FpOk X pins H D)
  (h:CXe P w X.stack H s E e s') (hc:ce.frame=X.env.frame) (hc':ce'.frame=X.env.frame) :
  wpAny (model P w) X.A (noteFrame e ce) (fun _ t=>∃ m,t.heap.Ns D m∧∀ h',Heap.SameBut D t.heap h'→wpAny (model P w) X.A (PySem.passOn "comprehension.variables-let-go" e ce':Sem Value) (fun _ _=>False) X.xe { t with heap:=h' }) Z s':=by
 subst hX
 obtain ⟨a,C,t,H',B,rfl,F,hfl,q⟩:=h
 obtain ⟨f0,f1,f2,f3,f4,f5⟩:=fD
 obtain ⟨oD,es,ep,eD,rD⟩:=hD
 have nfr:D ∉ frs (cxOf (CXe P w) P w K mg base N qual scope f cd A outer s0 H0 E).stack:=fun z=>by
  rcases List.mem_cons.mp (I.stkSub D z) with q | q
  ·exact f1 q
  ·exact f2 q
 have hB:B.get? D=some oD:=F.k1 D oD eD f0 nfr
 have hD':H' D=none:=F.un.free D oD eD f0 (by simp)
 have hD2:s0.heap.objs.size ≤ D:=by
  rcases f3 with z | z
  ·cases z
  ·exact z
 have haD:a ≠ D:=fun z=>by
  have:=F.fresh
  rw [z,eD] at this
  cases this
 have hn:noteFrame (.ref a) ce=noteFrame (.ref a) (envOfC qual scope s0.heap.objs.size f cd):=by
  have e1:ce.frame=some s0.heap.objs.size:=hc
  have e2:PySem.frameOf ce=PySem.frameOf (envOfC qual scope s0.heap.objs.size f cd):=by
   unfold PySem.frameOf
   rw [e1]
   rfl
  unfold noteFrame
  rw [e1,e2]
  rfl
 rw [hn]
 refine wpAny_looks_onW (L:=s0.heap.objs.size) I.ok.frames rfl hfl fun h1 hh u1=>?_
 refine ⟨m,⟨oD,es,ep,hh.1 D oD hB,rD⟩,fun h2 sb=>?_⟩
 have st:(hideAll B [D]).StaysIn B:=fun b o q=>of_hideAll _ q
 have hh2:Heap.HeldW (hideAll B [D]) (envOfC qual scope s0.heap.objs.size f cd :: outer) a (.ref C) (.ref t) s0.heap.objs.size h2:=by
  obtain ⟨g1,g2,g3,oe,vs,T,oT,ts,a1,a2,a3,a4,a5,a6,a7,a8,a9⟩:=hh
  have hT:T ≠ D:=fun z=>by
   rw [z,hB] at a5
   cases a5
  refine ⟨fun b o q=>?_,fresh_of_stays st g2,Zfj (fun b hb=>sb.2 b fun z=>nfr (z ▸ hb)) (funFrames_base st g3),oe,vs,T,oT,ts,(sb.2 a haD).trans a1,a2,a3,a4,fresh_of_stays st a5,a6,(sb.2 T hT).trans a7,a8,a9⟩
  by_cases z:b=D
  ·rw [z,hideAll_none [D] List.mem_cons_self] at q
   cases q
  ·exact (sb.2 b z).trans (g1 b o (st b o q))
 refine wpAny_passOnE (L:=s0.heap.objs.size) hc' hh2 fun h3 hh3 u3=>?_
 refine leaves_heldE (L:=s0.heap.objs.size) rfl hh3 fun h4 fl4 u4=>?_
 refine ⟨a,C,t,H',_,rfl,fly_onE (s':=s') I rfl rfl rfl rfl F hD' hD2 fl4 fun b o n e2 hd=>?_,fl4,q⟩
 obtain ⟨x1,e3⟩:=u1 b o e2 hd
 obtain ⟨x2,e4⟩:=u3 b _ ((sb.2 b n).trans e3) hd
 obtain ⟨x3,e5⟩:=u4 b { o with slots:=x2 } e4 hd
 exact ⟨x3,e5⟩
noncomputable abbrev Zem (X:Cx) (N:List Str) (scope:Scope) (C:Addr) (s:Shared) (H:Hp) (fp:List Addr) (xe:Value→Shared→Prop):Cx:=(lcCx X N scope C s H fp).at' [] xe
theorem lc_loopE {prog:Program} {w:World} {A:Around} {R:Result→Shared→Prop} {s:Shared} {elt tg iter:Expr} {ifs:List Expr} {scope:Scope} {pos:Pos} {it acc:Value} {env:Env} (Z:Value→Shared→Prop) (hZ:∀ e t,Z e t→notedBy (model prog w) A env (fun e s'=>R (.error e) s') e t) (J:Nat→Shared→Prop)
  (turn:∀ n s,J n s→wpAny (model prog w) A (pyNext it) (fun r s1=>match r with
   | none=>R (.ok .next) s1
   | some v=>wpAny (model prog w) A (letOwnedTupleGo tg it v) (fun _ s2=>wpAny (model prog w) A (assign tg env v) (fun _ s3=>
     wpAny (model prog w) A (forIn ifs true fun c r=>if r=true then do let ok ← isTrue c env (eval c env); pure (ForInStep.yield ok) else pure (ForInStep.yield r)) (fun ok s4=>
      if ok=true then wpAny (model prog w) A (eval elt env) (fun x s5=>wpAny (model prog w) A (call (.builtin "list.append") [acc,x]) (fun _ s6=>∃ m,m < n∧J m s6) Z s5) Z s4
      else ∃ m,m < n∧J m s4) Z s3) Z s2) Z s1) Z s)
  (n:Nat) (h:J n s):codeAny (model prog w) A (.compLoop (.ListComp elt [⟨tg,iter,ifs,0⟩] scope pos) 0 it acc env) R s:=by
 refine codeAny_loop rfl J (fun n s hJ=>?_) n h
 show wpAny _ A ((compTurn (.ListComp elt [⟨tg,iter,ifs,0⟩] scope pos) 0 it acc env).onRaise (fun x=>do noteFrame x env; theTreesLotGoes x)) _ _ s
 refine wpAny_noted (wpAny_mono (E:=Z) ?_ (fun _ _ q=>q) hZ)
 rw [compTurn_list]
 refine wpAny_bind (wpAny_standAt (wpAny_bind (wpAny_mono (turn n s hJ) (fun r s1 h1=>?_) fun _ _ f=>f)))
 cases r with
 | none=>exact wpAny_pure h1
 | some v=>
  refine wpAny_bind (wpAny_mono h1 (fun _ s2 h2=>wpAny_bind (wpAny_mono h2 (fun _ s3 h3=>wpAny_bind (wpAny_mono h3 (fun ok s4 h4=>?_) fun _ _ f=>f)) fun _ _ f=>f)) fun _ _ f=>f)
  cases ok with
  | false=>exact wpAny_pure ⟨rfl,h4⟩
  | true=>
   exact wpAny_bind (wpAny_bind (wpAny_mono h4 (fun x s5 h5=>wpAny_bind (wpAny_mono h5 (fun _ s6 h6=>wpAny_pure (wpAny_pure ⟨rfl,h6⟩)) fun _ _ f=>f)) fun _ _ f=>f))
theorem lc_blockE {X:Cx} {N:List Str} {sc scope:Scope} {own fr:List Str} {js:List Nat} {pins:List (Addr × Obj)} {σ:St} {H:Hp} {s:Shared} {fp:List Addr} {tg iter elt:Expr} {ifs:List Expr} {pos:Pos} {J:It} {it:Addr} {tn:Nat→Heap→Prop}
  {g:TG} {tc:TT} {te:TE} {RR:Value→Env→Result→Shared→Prop} {E:Value→Shared→Prop} {EX:XK} {fin:Addr→Hp→Prop}
  (L:LcOk X N sc scope own fr js) (hc:X.calm=true) (I:Inv X pins σ H s) (T:Turn X.prog X.w X.K tg J fp it tn) (st:tn 0 s.heap) (hf:∀ b ∈ fp,FpOk X pins H b)
  (hg:∀ C s H fp xe,PG (Zem X N scope C s H fp xe) tg g) (hi:∀ C s H fp xe,PIf (Zem X N scope C s H fp xe) ifs tc) (he:∀ C s H fp xe,Zc7 (CXe X.prog X.w) (Zem X N scope C s H fp xe) EX→PE (Zem X N scope C s H fp xe) elt te)
  (h:∀ D,H D=none→∃ W:Nat→Nat→List V→Hp→Prop,(∃ m,W 0 m [] (upd H D (.lst [])))∧tLcB J D (caps own.length js σ) g tc te (fin D) W)
  (hRR:∀ D ce s' H',(∃ m,s'.heap.Ns ce.locals m)→Inv X pins σ H' s'→FpOk X pins H' ce.locals→fin D H'→RR (.ref D) ce (.ok .next) s')
  (hRE:∀ D ce ce' e s1 s' H',(∃ m,s1.heap.Ns ce.locals m)→Inv X pins σ H' s1→FpOk X pins H' ce.locals→CXe X.prog X.w X.stack H' s1 EX e s'→ce.frame=X.env.frame→ce'.frame=X.env.frame →
   wpAny (model X.prog X.w) X.A (noteFrame e ce') (fun _ t=>RR (.ref D) ce (.error e) t) (fun e t=>RR (.ref D) ce (.error e) t) s') :
  wpAny (model X.prog X.w) X.A (newList []) (fun acc s3=>wpAny (model X.prog X.w) X.A (newFunctionEnv scope X.env.globals (clos X.env.cells scope.names []) [] X.env.qual none .none (some X.env)) (fun cenv s4=>
   codeAny (model X.prog X.w) X.A (.compStart (.ListComp elt [⟨tg,iter,ifs,0⟩] scope pos) 0 (.ref it) acc { cenv with scope:=relabel scope X.env }) (RR acc cenv) s4) E s3) E s:=by
 have hlt:∀ b ∈ fp,b < s.heap.objs.size:=fun b hb=>by
  obtain ⟨o,e,_⟩:=T.obj 0 _ st b hb
  exact Heap.lt_size e
 refine wpAny_newObj_type (wpAny_newFunctionEnv L.nocell (fun _ z=>nomatch z) (fun h1 n1 b1=>?_) L.kind)
 dsimp only at n1 b1 ⊢
 have hsz:(s.heap.push { cls:=.type "list",dict:=none,data:=.seq ([]:List Value).toArray }).objs.size=s.heap.objs.size + 1:=Heap.size_push ..
 rw [hsz] at n1 b1
 rw [hsz]
 have kept:∀ b o,s.heap.get? b=some o→h1.get? b=some o:=fun b o e=>b1.extBut b o (Nat.ne_of_lt (Nat.lt_succ_of_lt (Heap.lt_size e))) (Heap.get?_push_of_some _ (Heap.get?_push_of_some _ e))
 have isl:h1.get? s.heap.objs.size=some { cls:=.type "list",data:=.seq ([]:List Value).toArray }:=b1.extBut _ _ (Nat.ne_of_lt (Nat.lt_succ_self _)) (Heap.get?_push_of_some _ (Heap.get?_push_size _ rfl))
 have IY:=Zkb (tk:=s.toks + ([]:List (Str × Value)).length) L I hf hlt n1 kept isl
 have fresh:H s.heap.objs.size=none:=I.hok.fresh (Nat.le_refl _)
 obtain ⟨W,⟨m0,w0⟩,turn⟩:=h s.heap.objs.size fresh
 obtain ⟨Z,eZ⟩:∃ Z:Value→Shared→Prop,Z=fun e s'=>∃ σ1 H1 s1,Inv (lcCx X N scope (s.heap.objs.size + 1) s H fp) [] σ1 H1 s1∧CXe X.prog X.w X.stack H1 s1 EX e s':=⟨_,rfl⟩
 have pZ:Zc7 (CXe X.prog X.w) (Zem X N scope (s.heap.objs.size + 1) s H fp Z) EX:=fun pins1 σ1 H1 s1 e s' I1 hx=>by
  show Z e s'
  rw [eZ]
  exact ⟨σ1,H1,s1,Inv.unat (pins:=[]) IY.ok I1,hx⟩
 have stat:∀ {H':Hp},(∀ b ∈ fp,H' b=none)→∀ b ∈ fp,FpOk (Zem X N scope (s.heap.objs.size + 1) s H fp Z) [] H' b:=fun hn b hb=>
  ⟨hn b hb,Nat.ne_of_lt (Nat.lt_succ_of_lt (hlt b hb)),fun z=>by
   rcases List.mem_cons.mp (I.stkSub b z) with q | q
   ·exact (hf b hb).2.1 q
   ·exact (hf b hb).2.2.1 q,.inl hb,fun x c e=>(hf b hb).2.2.2.2.1 x c (L.sub I.ok e),fun _ z=>nomatch z⟩
 have st1:tn 0 h1:=T.keep 0 _ _ st fun b _ o e=>kept b o e
 have loop:∀ ce:Env,ce.locals=s.heap.objs.size + 1→ce.frame=X.env.frame→∀ s2:Shared,s2={ s with heap:=h1,toks:=s.toks + ([]:List (Str × Value)).length } →
   codeAny (model X.prog X.w) X.A (.compLoop (.ListComp elt [⟨tg,iter,ifs,0⟩] scope pos) 0 (.ref it) (.ref s.heap.objs.size) (Zem X N scope (s.heap.objs.size + 1) s H fp Z).env) (RR (.ref s.heap.objs.size) ce) s2:=by
  rintro ce hl hfr s2 rfl
  refine lc_loopE Z (fun e t hz=>?_) (fun n s'=>∃ i ys H',Inv (Zem X N scope (s.heap.objs.size + 1) s H fp Z) [] (caps own.length js σ) H' s'∧tn i s'.heap∧(∀ b ∈ fp,H' b=none)∧W i n ys H') ?_ m0
   ⟨0,[],_,IY.at' Z,st1,fun b hb=>by rw [Zak (Nat.ne_of_lt (hlt b hb))]; exact (hf b hb).1,w0⟩
  ·rw [eZ] at hz
   obtain ⟨σ1,H1,s1,I1,hx⟩:=hz
   obtain ⟨m,hm,_⟩:=I1.loc
   exact hRE _ ce _ e s1 t H1 ⟨m,by rw [hl]; exact hm⟩ (I.call' (ch:=fp) I1.os I1.base I1.hok I1.bare fun b hb=>⟨(hf b hb).2.2.2.1,(hf b hb).2.1,(hf b hb).2.2.2.2.1,(hf b hb).2.2.2.2.2⟩) (by rw [hl]; exact I.fpOk (Nat.le_succ _) I1.free) hx hfr rfl
  rintro n s3 ⟨i,ys,H3,I3,st3,fr3,w3⟩
  rcases turn i n ys H3 w3 with ⟨stop,qn⟩ | ⟨go,Nx,hN,step⟩
  ·refine thn (T.done (Zem X N scope (s.heap.objs.size + 1) s H fp Z) rfl rfl rfl hc i [] s3 _ H3 _ I3 (stat fr3) st3 stop) fun r s4 hp0=>?_
   obtain ⟨hr,I4⟩:=hp0
   subst hr
   have IX:Inv X pins σ H3 s4:=I.call' (ch:=fp) I4.os I4.base I4.hok I4.bare fun b hb=>⟨(hf b hb).2.2.2.1,(hf b hb).2.1,(hf b hb).2.2.2.2.1,(hf b hb).2.2.2.2.2⟩
   obtain ⟨m,hm,_⟩:=I4.loc
   exact hRR _ ce s4 H3 ⟨m,by rw [hl]; exact hm⟩ IX (by rw [hl]; exact I.fpOk (Nat.le_succ _) I4.free) qn
  ·refine thn (T.item (Zem X N scope (s.heap.objs.size + 1) s H fp Z) rfl rfl rfl hc i [] s3 _ H3 _ I3 (stat fr3) st3 go) fun r s4 hp0=>?_
   obtain ⟨u,hr,h4⟩:=hp0
   subst hr
   refine thn h4 fun _ s5 hp0=>?_
   obtain ⟨x,H5,I5,r5,y5,st5,fr5⟩:=hp0
   have I5':=I5.pinned (stat fr5) (T.obj _ _ st5)
   refine thn (hg _ _ _ _ _ _ s5 _ H5 x u _ I5' r5 (step x H5 y5)) fun _ s6 hp0=>?_
   obtain ⟨σ6,H6,I6,⟨hl6,hs6⟩,q6⟩:=hp0
   have next:∀ {s7:Shared} {H7:Hp} {zs:List V},Inv (Zem X N scope (s.heap.objs.size + 1) s H fp Z) ([] ++ Zg9 fp s5.heap) σ6 H7 s7→Nx zs H7 →
     ∃ m,m < n∧∃ i ys H',Inv (Zem X N scope (s.heap.objs.size + 1) s H fp Z) [] (caps own.length js σ) H' s7∧tn i s7.heap∧(∀ b ∈ fp,H' b=none)∧W i m ys H':=fun {s7 H7 zs} I7 n7=>by
    obtain ⟨m',hm,w7⟩:=hN zs H7 n7
    refine ⟨m',hm,i + 1,zs,H7,I7.unpinned.weak hl6.symm hs6,T.keep _ _ _ st5 fun b hb o e=>(I7.pin (b,o) (List.mem_append_right _ (List.mem_append_right _ (Zcw hb e)))).1,fun b hb=>?_,w7⟩
    obtain ⟨o,e,d⟩:=T.obj _ _ st5 b hb
    exact (I7.pin (b,o) (List.mem_append_right _ (List.mem_append_right _ (Zcw hb e)))).2.1
   refine thn (hi _ _ _ _ _ _ s6 σ6 H6 _ I6 q6) fun ok s7 hp0=>?_
   obtain ⟨H7,I7,q7⟩:=hp0
   cases ok with
   | false=>
    rw [if_neg Bool.false_ne_true] at q7
    exact next I7 q7
   | true=>
    rw [if_pos rfl] at q7
    rw [if_pos rfl]
    refine thn (he _ _ _ _ _ pZ _ s7 σ6 H7 _ I7 q7) fun y s8 hp0=>?_
    obtain ⟨v8,H8,I8,r8,zs,hz,hzl,q8⟩:=hp0
    refine thn (Zb3 _ s8 σ6 H8 (.ref s.heap.objs.size) [v8] _ [y] (fun _ H9=>Nx (zs ++ [v8]) H9) I8 rfl (.cons r8 .nil) ⟨_,zs,v8,rfl,rfl,hz,hzl,q8⟩) fun _ s9 hp0=>?_
    obtain ⟨_,H9,I9,_,q9⟩:=hp0
    exact next I9 q9
 have go:=loop (newEnv scope (s.heap.objs.size + 1) X.env.globals (clos X.env.cells scope.names []) X.env.qual none Value.none (some X.env) builtinsNs) rfl rfl _ rfl
 exact codeAny_compStart_list go (T.self X.A 0 _ _ _ st1 go)
theorem pe_lcE {P:Program} {w:World} {K:PySem.W.Frag} {mg:Str→Option Value} {base:Heap} {N0:List Str} {qual:Str} {sc0:Scope} {f:Addr} {cd:Value} {A:Around} {outer:List Env} {s0:Shared} {H0:Hp} {EX:XK} {X:Cx} {N:List Str} {sc scope:Scope} {own fr:List Str} {js:List Nat} {tg iter elt:Expr} {ifs:List Expr} {pos:Pos} {wi:TI} {g:TG} {tc:TT} {te:TE}
  (hX:X=cxOf (CXe P w) P w K mg base N0 qual sc0 f cd A outer s0 H0 EX) (L:LcOk X N sc scope own fr js) (hc:X.calm=true) (hI:PI X tg iter wi)
  (hg:∀ C s H fp xe,PG (Zem X N scope C s H fp xe) tg g) (hi:∀ C s H fp xe,PIf (Zem X N scope C s H fp xe) ifs tc) (he:∀ C s H fp xe,Zc7 (CXe P w) (Zem X N scope C s H fp xe) EX→PE (Zem X N scope C s H fp xe) elt te)
  (hs:∀ x,foldedSetIterable iter X.env x=pure x:=by intro _; rfl):PE X (.ListComp elt [⟨tg,iter,ifs,0⟩] scope pos) (tLc wi own.length js g tc te):=by
 intro pins s σ H Q I h
 rw [eval_ListComp]
 refine comp_freeE (use:=none) rfl hs (Zds (L.cellAt I.ok)) L.kind L.loc ?_
 refine thn (hI pins s σ H _ I h) fun v s1 h1=>thn h1 fun itv s2 h2=>?_
 obtain ⟨it,fp,tn,J,H2,e,I2,T,st,f2,q⟩:=h2
 subst e
 refine lc_blockE (EX:=EX) (RR:=fun acc C=>Zi1 (model X.prog X.w) X.A X.xe none (EP X pins σ Q) acc C) (fin:=fun D H'=>Q (.ref D) H') L hc I2 T st f2 hg hi (by subst hX; exact he) q ?_ fun D ce ce' e s1 s' H' hm IX fC hx h1 h2=>?_
 ·intro D C s' H' hm IX fC q'
  obtain ⟨m,hm⟩:=hm
  obtain ⟨f0,f1,_,f3,f4,f5⟩:=fC
  exact ⟨m,hm,fun h' sb=>⟨.ref D,H',IX.turned (t':=s'.toks) (fun b o hb e=>(sb.2 b hb).trans e) f0 f1 f3 f4 f5,rfl,q'⟩⟩
 ·subst hX
  obtain ⟨m,hm⟩:=hm
  exact comp_flies rfl IX hm fC hx h2 h1
end L2
namespace L2
open PySem PySem.Spec PyProof.Rows PySem.W
section
variable {X:Cx}
noncomputable abbrev TJ:=Str→St→Hp→VK→Prop
noncomputable def PJ (X:Cx) (es:List Expr) (t:TJ):Prop:=∀ (pins:List (Addr × Obj)) (s:Shared) (σ:St) (H:Hp) (out:Str) (Q:VK),Inv X pins σ H s→out.length ≤ 500000→t out σ H Q →
 wpAny (model X.prog X.w) X.A (joinParts out (evalEach es X.env)) (EP X pins σ Q) X.xe s
theorem Zen (a b:Str):(a ++ b).length=a.length + b.length:=by
 (show (a.cps ++ b.cps).size=_)
 rw [Array.size_append]
 rfl
theorem pj_nil:PJ X [] (fun out _ H Q=>Q (.str out) H):=by
 intro pins s σ H out Q I hl h
 have hs:sizeLine=16777216:=sizeLine_eq
 exact joinParts_nil ⟨.str out,H,I.tok _,⟨_,rfl⟩,h⟩ (by lia)
theorem pj_str {a:Str} {j:Nat} {p:Pos} {r:List Expr} {t:TJ} (hr:PJ X r t):PJ X (.Constant (.str a) j p :: r) (fun out σ H Q=>(out ++ a).length ≤ 500000∧t (out ++ a) σ H Q):=by
 intro pins s σ H out Q I hl h
 have hs:sizeLine=16777216:=sizeLine_eq
 obtain ⟨h1,h2⟩:=h
 refine joinParts_cons (thn (Za1 (X:=X) (x:=a) (j:=j) (pos:=p) pins s σ H (fun v H1=>v=.str a∧H1=H) I ⟨rfl,rfl⟩) fun u s1 hp0=>?_)
 obtain ⟨v,H1,I1,r1,e1,e2⟩:=hp0
 subst e1 e2
 obtain ⟨t,rfl⟩:=r1
 exact ⟨by lia,hr pins s1 σ H1 _ Q I1 h1 h2⟩
theorem pe_joined {e1 e2:Expr} {r:List Expr} {pos:Pos} {t:TJ} (h:PJ X (e1 :: e2 :: r) t):PE X (.JoinedStr (e1 :: e2 :: r) pos) (fun σ H Q=>t Str.empty σ H Q):=by
 intro pins s σ H Q I hw
 exact JoinedStr_many (h pins s σ H Str.empty Q I (Nat.zero_le _) hw)
end
end L2
namespace L2
open PySem PyProof.Rows
section
variable {X:Cx}
theorem mt_itemsR:MtR X "dict.items" (fun x xs H Q=>∃ a kvs,x=.ref a∧xs=[]∧Rd H a (.dK kvs)∧∀ v,H v=none→Q (.ref v) (upd H v (Zdd v a))):=by
 intro pins s σ H x xs v us Q I rx rv h
 obtain ⟨a,kvs,rfl,rfl,ha,q⟩:=h
 cases rx
 cases rv
 obtain ⟨hz,hm,vs,hkv,hd⟩:=Zjo I.hok ha
 refine call_meetsIn PySem.F.slot_dict_items hd.typeIs PySem.F.entry_dict_items (PySem.F.args_dict_items_1 _) (meets_dict_items (Za2 X.prog X.w) a hm) ⟨⟨vs,hd⟩,?_⟩
 refine ⟨.ref s.heap.objs.size,_,I.laid (t':=s.toks) (o:=Zdd s.heap.objs.size a) (fun b o e=>Heap.get?_push_of_some _ e) (Nat.le_refl _) ⟨⟨_,Heap.get?_push_size _ rfl,rfl,rfl⟩,⟨_,Heap.get?_push_size _ rfl⟩,fun h1 h2 f e=>?_⟩,rfl,q _ (I.hok.fresh (Nat.le_refl _))⟩
 obtain ⟨o,ho,r⟩:=f
 exact ⟨o,e o ho,r⟩
noncomputable def tItems (to:TE):TE:=fun σ H Q=>to σ H fun x H1=>∃ a kvs,x=.ref a∧Rd H1 a (.dK kvs)∧∀ v,H1 v=none→Q (.ref v) (upd H1 v (Zdd v a))
theorem Zhs {o:Expr} {to:TE} {apos cpos:Pos} (ho:PE X o to) (hbase:attributeBase o "items" X.env (eval o X.env)=eval o X.env:=by rfl) (hline:(apos.endLine == cpos.line)=true:=by rfl):PE X (.Call (.Attribute o "items" apos) [] [] cpos) (tItems to):=by
 intro pins s σ H Q I h
 refine wpAny_Call_method0_late hbase hline (thn (ho pins s σ H _ I h) fun v s1 hp0=>?_)
 obtain ⟨x,H1,I1,r1,a,kvs,e,rd,q⟩:=hp0
 subst e
 cases r1
 obtain ⟨h1,h2,_⟩:=Zmv I1 (.inl ⟨_,rd⟩)
 exact ⟨"dict", "dict.items",PySem.F.plainAttrs_dict,PySem.F.slot_dict_items,PySem.F.type_dict_items,h1,h2,Calls.callWith_builtin rfl (PySem.evalArgs_none (mt_itemsR pins s1 σ H1 (.ref a) [] _ [] Q I1 rfl .nil ⟨a,kvs,rfl,rfl,rd,q⟩))⟩
noncomputable def iItemsR (tl:TE):TI:=fun σ H R=>tl σ H fun x H1=>∃ v a kvs,x=.ref v∧H1 v=some (Zdd v a)∧((H1 a=some (.dK kvs)∧∀ o,R (Iti a o kvs) (upd H1 a (.frz o (.dK kvs)))) ∨ ∃ o,H1 a=some (.frz o (.dK kvs))∧R (Iti a o kvs) H1)
theorem Zge {elts:List Expr} {x1} {tp:Pos} {l:Expr} {tl:TE} (hl:PE X l tl):PI X (.Tuple elts x1 tp) l (iItemsR tl):=by
 intro pins s σ H R I h
 refine thn (hl pins s σ H _ I h) fun u s1 hp0=>?_
 obtain ⟨x,H1,I1,r1,q1⟩:=hp0
 obtain ⟨v,a,kvs,rfl,hv,q⟩:=q1
 cases r1
 obtain ⟨view,_,_⟩:=I1.hok v _ hv
 rcases q with ⟨ha,q⟩ | ⟨o0,ha,q⟩
 ·obtain ⟨hz,hm,vs,hkv,o,es,ep,ho,ex,hd,r⟩:=Zl6 I1.hok ha
  have hat:s1.heap.DictAt (Za2 X.prog X.w) a vs ep:=⟨o,es,ho,ex,hd,r⟩
  have hl':=hkv.length
  refine wpAny_pyIter_items (knd:=Za2 X.prog X.w) view hat ⟨s1.heap.objs.size,[s1.heap.objs.size],_,_,upd H1 a (.frz o (.dK kvs)),rfl,(I1.freeze ha ho).kept (t':=s1.toks) (fun b o e=>Heap.get?_push_of_some _ e),Zg5 _ a o kvs es ep hd,⟨.none,.none,?_⟩,fun b hb=>?_,q o⟩
  ·rw [hl']
   exact Heap.get?_push_size _ rfl
  ·have e:b=s1.heap.objs.size:=by simpa using hb
   subst e
   exact (I1.freeze ha ho).fpOk (Nat.le_refl _) ((I1.freeze ha ho).hok.fresh (Nat.le_refl _))
 ·obtain ⟨ho,hz,hm,vs,hkv,o',es,ep,ho',ex,hd,r⟩:=I1.hok a _ ha
  rw [ho] at ho'
  cases ho'
  have hat:s1.heap.DictAt (Za2 X.prog X.w) a vs ep:=⟨o0,es,ho,ex,hd,r⟩
  have hl':=hkv.length
  refine wpAny_pyIter_items (knd:=Za2 X.prog X.w) view hat ⟨s1.heap.objs.size,[s1.heap.objs.size],_,_,H1,rfl,I1.kept (t':=s1.toks) (fun b o e=>Heap.get?_push_of_some _ e),Zg5 _ a o0 kvs es ep hd,⟨.none,.none,?_⟩,fun b hb=>?_,q⟩
  ·rw [hl']
   exact Heap.get?_push_size _ rfl
  ·have e:b=s1.heap.objs.size:=by simpa using hb
   subst e
   exact I1.fpOk (Nat.le_refl _) (I1.hok.fresh (Nat.le_refl _))
end
end L2
namespace L2
open PySem PySem.Spec PyProof.Rows PySem.W
section
variable {X:Cx}
noncomputable def rSlS:V→Option Int→Option Int→Hp→VK→Prop:=fun x lo hi H Q=>∃ z,x=.str z∧z.length ≤ sizeLine∧Q (.str (Txt.slice z lo hi)) H
theorem IsPart.ex {v:Value} {o:Option Int} (p:IsPart v o):∃ q:Option (Int × Tok),v=partValue q∧q.map (·.1)=o:=by
 cases p with
 | none=>exact ⟨none,rfl,rfl⟩
 | int i t=>exact ⟨some (i,t),rfl,rfl⟩
theorem Zme:SlR X rSlS:=by
 intro pins s σ H x v vl vu lo hi sl Q I rx hs pl pu h
 obtain ⟨z,rfl,hz,q⟩:=h
 obtain ⟨t,rfl⟩:=rx
 obtain ⟨ql,rfl,rfl⟩:=IsPart.ex pl
 obtain ⟨qu,rfl,rfl⟩:=IsPart.ex pu
 refine ⟨"str",_,F.slot_str_getitem.lookup,typeIs_str _ _ _,wpAny_getItem_str_slice (l:=ql) (u:=qu) (st:=none) hs rfl ?_⟩
 exact post_val_or_str ⟨Nat.le_trans (Txt.slice_le z _ _) hz,fun t' k=>⟨.str _,H,I.tok _,⟨_,rfl⟩,q⟩⟩
end
noncomputable def tTryN (len:Nat) (G:Addr) (tb:XK→TS) (th:TS):TS:=fun D σ H=>
 tb (fun e c H'=>∃ a,e=.ref a∧c=some G∧(H' a=none→th D (List.replicate len none) H')) D σ H
theorem ps_tryN {X:Cx} {G:Addr} {nG:String} {x:Str} {np hpos pos:Pos} {body:List Stmt} {b₀:Stmt} {suite:List Stmt} {tb:XK→TS} {th:TS} (hex:X.ex=[]) (hst:X.stack=X.env :: X.outer) (hfr:X.env.frame=some X.env.locals)
  (owG:excIn X.K G bmV nG=true) (hg:Gl X x) (hm:X.mg x=some (.ref G))
  (hb:∀ pn xe E',Zc7 (CXe X.prog X.w) (X.at' pn xe) E'→PSs (X.at' pn xe) body (tb E')) (hs:∀ a,PSs (X.held a fun _ _=>False) (b₀ :: suite) th) (hdb:(x == ("__debug__" : Str))=false:=by decide) :
  PS X (.Try body [.ExceptHandler (some (.Name x np)) none (b₀ :: suite) hpos] [] [] pos) (tTryN X.N.length G tb th):=by
 intro pins s σ H D I hw
 refine wpAny_Try_except (wpAny_mono (hb (X.pn ++ pins) (fun e s'=>∃ σ1 H1 s1,Inv X pins σ1 H1 s1∧CXe X.prog X.w X.stack H1 s1 _ e s') _ (fun pins1 σ1 H1 s1 e s' I1 h=>⟨σ1,H1,s1,I1.unat I.ok,h⟩) [] s σ H D (I.at' _) hw) (fun f s1 h1=>?_) (fun e s1 h1=>?_))
 ·cases f with
  | next=>obtain ⟨σ',H',I',q⟩:=h1; exact Zau pins s1 σ' H' D (I'.unat I.ok) q
  | brk=>obtain ⟨σ',H',I',q⟩:=h1; exact ⟨σ',H',I'.unat I.ok,q⟩
  | cont=>obtain ⟨σ',H',I',q⟩:=h1; exact ⟨σ',H',I'.unat I.ok,q⟩
  | ret u=>obtain ⟨v,σ',H',I',r,q⟩:=h1; exact ⟨v,σ',H',I'.unat I.ok,r,q⟩
 ·obtain ⟨σ1,H1,s0,I1,a,C,t,H',B,rfl,F,hfl,a',e1,e2,q⟩:=h1
  cases e1
  cases e2
  have hfree:=I1.stkFree
  have hframes:X.A.frames=some (X.env :: X.outer):=by rw [← hst]; exact I1.ok.frames
  rw [hst] at hfl
  refine wpAny_looks_onW hframes hfr hfl fun h4 held4 ups4=>?_
  refine wpAny_landsW held4 fun h5 hfl5 ups5=>?_
  have ups15:s1.heap.UpToSlots h5:=ups4.trans ups5
  have know:∀ (h':Heap),B.StaysIn h'→s1.heap.UpToSlots h'→Inv X pins (List.replicate X.N.length none) H' { s1 with heap:=h' }:=fun h' k ups=>by
   obtain ⟨u,hok⟩:=fly_here F hfree k ups
   have I2:Inv X pins σ1 H' { s1 with heap:=h' }:=I1.call' (s':={ s1 with heap:=h' }) (ch:=[]) F.os u hok F.bare (fun b z=>nomatch z)
   exact I2.weak (by rw [List.length_replicate]; exact I1.len.symm) fun i v e=>by
    rw [List.getElem?_replicate] at e
    split at e <;> cases e
  have I5:=know h5 hfl5.1 ups15
  obtain ⟨bmG,exG⟩:=Zmp I5.kIn owG
  obtain ⟨N,nm,qn,bs,hdct,sn,sub,ab,col,dd,k0,k1,k2,k3,k5,mN,aG,_,_,tl⟩:=exG
  have hbaseG:bmG.contains (.type "BaseException")=true:=tl.hasType PySem.F.excBase_ValueError.hasBase
  obtain ⟨oe,hoe,hoc⟩:=hfl5.there
  refine wpAny_handleBy_cons (codeAny_handlers_test (Zfv (X:=X.held a fun _ _=>False) (I5.held a _) hg hm ?_ hdb)) (by intro q; cases q)
  refine wpAny_excMatches_sub_self aG hoe hoc hbaseG (codeAny_handlers_suite ?_)
  refine lands_againW hfl5 fun h6 hfl6 ups6=>?_
  have I6:=know h6 hfl6.1 (ups15.trans ups6)
  refine wpAny_mono (hs a pins { s1 with heap:=h6 } _ _ D (I6.held a _) (q F.new)) (fun f s8 h8=>?_) (fun _ _ z=>z.elim)
  cases f with
  | next=>obtain ⟨σ',H2,I9,q9⟩:=h8; exact ⟨σ',H2,I9.unheld I.ok,q9⟩
  | brk=>obtain ⟨σ',H2,I9,q9⟩:=h8; exact ⟨σ',H2,I9.unheld I.ok,q9⟩
  | cont=>obtain ⟨σ',H2,I9,q9⟩:=h8; exact ⟨σ',H2,I9.unheld I.ok,q9⟩
  | ret u=>obtain ⟨v,σ',H2,I9,r,q9⟩:=h8; exact ⟨v,σ',H2,I9.unheld I.ok,r,q9⟩
end L2
namespace DPT
open PySem PyProof.Rows
end DPT
namespace L2
open PySem PySem.Spec PyProof.Rows PySem.W
section
variable {X:Cx}
theorem call_tupF:Zdc X (.type "tuple") (fun xs H Q=>∃ p ys,xs=[.ref p]∧SqL X.K H p ys∧∀ l o,H l=none→o.dict=none→Q (.ref l) (upd H l (.frz o (.tup ys)))):=by
 intro pins s σ H xs us Q I r h
 obtain ⟨p,ys,rfl,hq,q⟩:=h
 obtain ⟨u,rfl,rx⟩:=Ze1 r
 cases rx
 obtain ⟨its,r',pl,hz⟩:=I.list hq
 have hlen:=r'.length
 refine call_tuple_list pl.isList (fun h' kp=>?_) (by simp only [List.size_toArray] <;> lia)
 have I1:Inv X pins σ H { s with heap:=h' }:=I.kept (t':=s.toks) kp
 have I2:Inv X pins σ (upd H h'.objs.size (.frz { cls:=.type "tuple",data:=.seq its.toArray } (.tup ys))) { s with heap:=h'.push { cls:=.type "tuple",data:=.seq its.toArray } }:=
  I1.laid (t':=s.toks) (fun b o e=>Heap.get?_push_of_some _ e) (Nat.le_refl _) (show ObjOk X.prog X.w _ _ _ (.frz _ (.tup ys)) from ⟨Heap.get?_push_size _ rfl,hz,its,r',IsTup.new _ _⟩)
 exact ⟨.ref h'.objs.size,_,I2,rfl,q _ _ (I1.hok.fresh (Nat.le_refl _)) rfl⟩
end
end L2
namespace RV
open PySem PyProof.Rows
end RV
namespace L2
open PySem PySem.Spec PyProof.Rows PySem.W
noncomputable def ItS3 (lo c:Int) (n:Nat):It:=⟨fun i _=>i < n,fun i H x H'=>H'=H∧x=.int (lo + (i:Int) * c),fun i _=>n ≤ i⟩
theorem turn_rangeS {P:Program} {w:World} {K:Frag} {tg:Expr} (it:Addr) (lo c:Int) (n:Nat):Turn P w K tg (ItS3 lo c n) [it] it (fun i h=>IsRangeIter h it (lo + (i:Nat) * c) ((n:Int) - (i:Nat)) c) where
 mem:=by simp
 obj:=fun i h st b hb=>by
  have e:b=it:=by simpa using hb
  subst e
  exact ⟨_,st,fun v z=>by
   have z':Data.fields _=Data.cell v:=z
   cases z'⟩
 keep:=fun i h h' st k=>k it (by simp) _ st
 item:=by
  intro X hP hw hK hc i pins s σ H E I hf st hg
  subst hP hw hK
  obtain ⟨f0,f1,f2,f3,f4,f5⟩:=hf it (by simp)
  have W:=Walks.range (prog:=X.prog) (w:=X.w) (I.ok.hd hc) it lo c n
  refine W.item i s _ _ hg st fun v h' tk hv st' kk=>?_
  obtain ⟨t,rfl⟩:=hv
  have I1:Inv X pins σ H { s with heap:=h',toks:=tk }:=I.turned (fun b o hb e=>kk b o (by simpa using hb) e) f0 f1 f3 f4 f5
  exact ⟨_,rfl,Zkq (s:={ s with heap:=h',toks:=tk }) (n := "range_iterator") st' rfl rfl (by decide) ⟨.int (lo + (i:Int) * c),H,I1,⟨t,rfl⟩,⟨rfl,rfl⟩,st',fun b hb=>(hf b hb).1⟩⟩
 done:=by
  intro X hP hw hK hc i pins s σ H E I hf st hg
  subst hP hw hK
  obtain ⟨f0,f1,f2,f3,f4,f5⟩:=hf it (by simp)
  exact wpAny_pyNext_range_end (I.ok.hd hc) st (by have:n ≤ i:=hg; lia) fun h' eb=>⟨rfl,I.turned (t':=s.toks) (fun b o hb e=>eb b o hb e) f0 f1 f3 f4 f5⟩
 self:=fun _ _ _ _ _ st h=>wpAny_pyIter_rangeiter st h
theorem for_rangeS {lo c:Int} {n:Nat} {g:TG} {tb:TS} {D:Ends} {σ:St} {H:Hp} (Pv:Nat→St→Hp→Prop) (h0:Pv 0 σ H)
  (hs:∀ i σ H,i < n→Pv i σ H→g (.int (lo + (i:Int) * c)) σ H fun σ2 H2=>tb { D with nx:=Pv (i + 1),ct:=Pv (i + 1),bk:=D.nx } σ2 H2) (hd:∀ σ H,Pv n σ H→D.nx σ H) :
  ∃ W:Nat→Nat→St→Hp→Prop,(∃ m,W 0 m σ H)∧∀ i m σ H,W i m σ H →
   ((ItS3 lo c n).stop i H∧D.nx σ H) ∨ ((ItS3 lo c n).go i H∧∃ N:St→Hp→Prop,(∀ σ' H',N σ' H'→∃ m',m' < m∧W (i + 1) m' σ' H')∧∀ x H',(ItS3 lo c n).yld i H x H'→g x σ H' fun σ2 H2=>tb { D with nx:=N,ct:=N,bk:=D.nx } σ2 H2):=by
 refine ⟨fun i m σ H=>m=n - i∧i ≤ n∧Pv i σ H,⟨n,by simp,Nat.zero_le _,h0⟩,?_⟩
 rintro i m σ H ⟨rfl,hi,p⟩
 by_cases hlt:i < n
 ·refine .inr ⟨hlt,Pv (i + 1),fun σ' H' p'=>⟨n - (i + 1),by lia,rfl,hlt,p'⟩,fun x H' y=>?_⟩
  obtain ⟨e,y⟩:=y
  subst e y
  exact hs i σ _ hlt p
 ·have e:i=n:=by lia
  subst e
  exact .inl ⟨Nat.le_refl _,hd σ H p⟩
section
variable {X:Cx} {tg:Expr}
noncomputable def iRng3 (ta:TA):TI:=fun σ H R=>ta σ H fun vs H1=>∃ i j c:Int,vs=[.int i,.int j,.int c]∧c ≠ 0∧Builtin.Range.small i j c=true∧(c.natAbs < 2 ^ 30)∧R (ItS3 i c (Builtin.Range.rangeSize i j c).toNat) H1
theorem pi_range3 {a b c:Expr} {ta:TA} {p pos:Pos} (hg:Gl X "range") (hm:X.mg "range" = none) (ha:PA X [a,b,c] ta) (hs:starEach [a,b,c] X.env=[(false,eval a X.env),(false,eval b X.env),(false,eval c X.env)]:=by rfl)
  (hs2:starEach [b,c] X.env=[(false,eval b X.env),(false,eval c X.env)]:=by rfl):PI X tg (.Call (.Name "range" p) [a,b,c] [] pos) (iRng3 ta):=by
 intro pins s σ H R I h
 refine Call_ (Zgu I hg hm boot_range (PyProof.Rows.callWith_type1 (thn (ha pos pins s σ H _ I h) fun us s1 hp0=>?_) (by rw [hs,hs2]) (by rw [hs2]; rfl)))
 obtain ⟨vs,H1,I1,r1,q1⟩:=hp0
 obtain ⟨i,j,d,e,d0,sm,dd,q⟩:=q1
 subst e
 cases r1 with
 | cons r rr=>
  cases rr with
  | cons r' rr=>
   cases rr with
   | cons r'' rr=>
    cases rr
    obtain ⟨t,rfl⟩:=r
    obtain ⟨t',rfl⟩:=r'
    obtain ⟨t'',rfl⟩:=r''
    refine call_range_3 d0 ?_ (.inl (PyProof.noPylong_small (by lia)))
    refine wpAny_pyIter_range (IsRange.new ..) sm ?_
    have I2:Inv X pins σ H1 { s1 with heap:=s1.heap.push { cls:=.type "range",data:=.fields #[.int i t,.int j t',.int d t''] } }:=I1.kept (t':=s1.toks) fun b o e=>Heap.get?_push_of_some _ e
    refine ⟨(s1.heap.push { cls:=.type "range",data:=.fields #[.int i t,.int j t',.int d t''] }).objs.size,[(s1.heap.push { cls:=.type "range",data:=.fields #[.int i t,.int j t',.int d t''] }).objs.size],_,_,H1,rfl,
     I2.kept (t':=s1.toks) fun b o e=>Heap.get?_push_of_some _ e,turn_rangeS _ i d (Builtin.Range.rangeSize i j d).toNat,?_,fun b hb=>?_,q⟩
    ·have e1:i + ((0:Nat):Int) * d=i:=by simp
     have e2:(((Builtin.Range.rangeSize i j d).toNat:Nat):Int) - ((0:Nat):Int)=Builtin.Range.rangeSize i j d:=by
      have:=rangeSize_toNat i j d
      lia
     show IsRangeIter _ _ (i + ((0:Nat):Int) * d) ((((Builtin.Range.rangeSize i j d).toNat:Nat):Int) - ((0:Nat):Int)) d
     rw [e1,e2]
     exact Heap.get?_push_size _ rfl
    ·have e:b=(s1.heap.push { cls:=.type "range",data:=.fields #[.int i t,.int j t',.int d t''] }).objs.size:=by simpa using hb
     subst e
     exact I2.fpOk (Nat.le_refl _) (I2.hok.fresh (Nat.le_refl _))
end
end L2
namespace L2
open PySem PySem.Spec PyProof.Rows PySem.W
end L2
namespace L2
open PySem PySem.Spec PyProof.Rows PySem.W
section
variable {X:Cx}
theorem Zfm:Zdc X (.builtin "isinstance") (fun xs H Q=>∃ (a C C' dx:Addr) (fs:List (Str × V)),xs=[.ref a,.ref C']∧H a=some (.ins C dx fs)∧isIn X.K (.ref C) C'=true∧Q (.bl true) H):=by
 intro pins s σ H xs us Q I r h
 obtain ⟨a,C,C',dx,fs,rfl,ha,hb,q⟩:=h
 obtain ⟨u1,u2,rfl,r1,r2⟩:=Zjc r
 cases r1
 cases r2
 obtain ⟨_,_,_,ho,_⟩:=I.hok a _ ha
 exact isi_call I.kIn (fun M=>(Looks.ld ho).andThen .now) hb (by intro z; cases z) ⟨.bl true,H,I,rfl,q⟩
noncomputable def tMakeO (C:Addr):TE:=fun _ H Q=>∀ x dx,H x=none→H dx=none→dx ≠ x→Q (.ref x) (upd (upd H dx (.own x)) x (.ins C dx []))
theorem pe_makeO {C:Addr} {x:Str} {p pos:Pos} (mk:makesIn X.K C=true) (hi:findIn X.K (.ref C) "__init__" = some (some (.builtin "object.__init__"))) (so:subIn X.K (.ref C) (.type "object")=some true) (kp:keepIn X.K (.ref C)=true) (hg:Gl X x) (hm:X.mg x=some (.ref C)) (hdb:(x == ("__debug__" : Str))=false:=by decide) :
  PE X (.Call (.Name x p) [] [] pos) (tMakeO C):=by
 intro pins s σ H Q I h
 refine wpAny_Call_Name_kw (Zfv I hg hm ?_ hdb)
 refine PySem.W.callWith_K0 I.kIn kp (wpAny_call (make_map0 I.kIn mk hi (fun self=>Looks.of_pure (oi_bind self)) ?_))
 have I2:=Inv.made (C:=C) I
 have hq:=h (s.heap.objs.size + 1) s.heap.objs.size (I.hok.fresh (Nat.le_succ _)) (I.hok.fresh (Nat.le_refl _)) (Nat.ne_of_lt (Nat.lt_succ_self _))
 have at1:((s.heap.push emptyDict).push (instObj C s.heap.objs.size)).get? (s.heap.objs.size + 1)=some (instObj C s.heap.objs.size):=by
  have z:=Heap.get?_push_size (s.heap.push emptyDict) (o:=instObj C s.heap.objs.size) rfl
  rwa [Heap.size_push] at z
 have ty:Looks (model X.prog X.w) ((s.heap.push emptyDict).push (instObj C s.heap.objs.size)) (typeOf (.ref (s.heap.objs.size + 1))) (.ref C):=(Looks.ld at1).andThen .now
 have inst:Looks (model X.prog X.w) ((s.heap.push emptyDict).push (instObj C s.heap.objs.size)) (isInstance (.ref (s.heap.objs.size + 1)) (.type "object")) true:=ty.andThen (looks_subIn I2.kIn so)
 refine codeAny_call_builtin oi_plain entry_oi (@check_slot (model X.prog X.w) _ _ { s with heap:=(s.heap.push emptyDict).push (instObj C s.heap.objs.size) } "object.__init__" "object" "__init__" (.ref (s.heap.objs.size + 1)) [] [] _ oi_kind oi_split inst (oi_args _) ?_)
 rw [oi_run]
 exact wpAny_pure ⟨rfl,.ref (s.heap.objs.size + 1),_,I2,rfl,hq⟩
noncomputable def tMethV (V':Addr→Sp→Prop) (m:Str) (ta:TE):TE:=fun σ H Q=>ta σ H fun x H1=>∃ (a C dx:Addr) (fs:List (Str × V)) (sp:Sp),x=.ref a∧H1 a=some (.ins C dx fs)∧fs.lookup m=none∧V' C sp∧sp [.ref a] H1 Q E0
theorem Zc5 {V':Addr→Sp→Prop} {m:Str} {o:Expr} {apos pos:Pos} {ta:TE} {pl:Sem Bool} (he:PE X o ta)
  (hV:∀ C sp,V' C sp→∃ (k:Nat) (f:Addr) (fd:FuncData) (ps:List Str),Cls X.K C∧Meth X.K C m f∧FnOk X.prog X.w X.K X.mg X.base CX0 k f fd ps sp∧Room k X.A∧Binds X.K fd ps [])
  (ht:eval (.Call (.Attribute o m apos) [] [] pos) X.env=(do
   let ov ← eval o X.env
   standAt apos.atName
   let (f,first) ← holding [ov] (getMethod ov m pl)
   callWith pos f first (backTo pos (starEach [] X.env)) (backToKw pos (keywordEach [] X.env))):=by rfl) :
  PE X (.Call (.Attribute o m apos) [] [] pos) (tMethV V' m ta):=by
 intro pins s σ H Q I h
 refine PySem.W.methodCall_KW (pl:=pl) (thn (he pins s σ H _ I h) fun u s1 hp0=>?_) ht
 obtain ⟨x,H1,I1,rx,a,C,dx,fs,sp,ex,ea,l,v,q⟩:=hp0
 subst ex
 obtain rfl:u=Value.ref a:=rx
 obtain ⟨k,f,fd,ps,c,hm,F,hr,hb⟩:=hV C sp v
 refine Zej I1 ea c hm l ?_
 exact PySem.W.callWith_K0 (first:=[.ref a]) I1.kIn hm.kp (Zih (us:=[.ref a]) (vs:=[.ref a]) F hr hb .nil Zaw I1 (.cons rfl .nil) q)
end
end L2
namespace L2
open PySem PySem.Spec PyProof.Rows PySem.W
section
variable {X:Cx}
theorem Zmm {e:Expr} {p2:Pos} {te:TE} {r:List Expr} {t:TJ} (he:PE X e te) (hr:PJ X r t) :
  PJ X (.FormattedValue e (-1) none p2 :: r) (fun out σ H Q=>te σ H fun v H1=>∃ x:Str,v=.str x∧x.length ≤ 100000∧(out ++ x).length ≤ 500000∧t (out ++ x) σ H1 Q):=by
 intro pins s σ H out Q I hl h
 have hs:sizeLine=16777216:=sizeLine_eq
 refine joinParts_cons (FormattedValue_plain (thn (he pins s σ H _ I h) fun u2 s2 hp0=>?_))
 obtain ⟨v2,H2,I2,r2,x,e3,lx,l2,q⟩:=hp0
 subst e3
 obtain ⟨t2,rfl⟩:=r2
 refine formatField_str (fun t' tk=>?_) (by lia)
 exact ⟨by lia,hr pins _ σ H2 _ Q (I2.tok _) l2 q⟩
end
noncomputable def ItlR (K:PySem.W.Frag) (a:Addr) (n:Nat):It:=
 ⟨fun i H=>i < n∧∃ xs x,SqL K H a xs∧xs[n - 1 - i]? = some x,fun i H x H'=>H'=H∧∀ xs,SqL K H a xs→xs[n - 1 - i]? = some x,fun i H=>n ≤ i⟩
theorem turn_listR {P:Program} {w:World} {K:PySem.W.Frag} {tg:Expr} (a it:Addr) (n:Nat):Turn P w K tg (ItlR K a n) [it] it (fun i h=>i ≤ n∧h.IsRevIter it a ((n:Int) - 1 - (i:Int))) where
 mem:=by simp
 obj:=fun i h st b hb=>by
  have e:b=it:=by simpa using hb
  subst e
  obtain ⟨_,o,e,c,d⟩:=st
  exact ⟨o,e,fun v z=>by rw [d] at z; cases z⟩
 keep:=fun i h h' st k=>⟨st.1,st.2.at fun o e=>k it (by simp) o e⟩
 item:=by
  intro X hP hw hK hc i pins s σ H E I hf st hg
  subst hP hw hK
  obtain ⟨hi,xs,x,hq,hx⟩:=hg
  obtain ⟨its,rv,p,hz⟩:=I.list hq
  obtain ⟨u,hu,ru⟩:=rv.get hx
  obtain ⟨f0,f1,f2,f3,f4,f5⟩:=hf it (by simp)
  have e0:(n:Int) - 1 - (i:Int)=((n - 1 - i:Nat):Int):=by lia
  have st2:=st.2
  rw [e0] at st2
  refine wpAny_pyNext_rev_item st2 p.isList (x:=u) (by simpa using hu) fun h' st' sb=>?_
  have I1:Inv X pins σ H { s with heap:=h' }:=I.turned (t':=s.toks) (fun b o hb e=>(sb.2 b hb).trans e) f0 f1 f3 f4 f5
  obtain ⟨o,e,c,d⟩:=id st'
  have e1:((n - 1 - i:Nat):Int) - 1=(n:Int) - 1 - ((i + 1:Nat):Int):=by lia
  rw [e1] at st'
  exact ⟨u,rfl,Zkq (s:={ s with heap:=h' }) e c d (by decide) ⟨x,H,I1,ru,⟨rfl,fun ys hy=>by rw [I.list_inj hy hq]; exact hx⟩,⟨hi,st'⟩,fun b hb=>(hf b hb).1⟩⟩
 done:=by
  intro X hP hw hK hc i pins s σ H E I hf st hg
  subst hP hw hK
  obtain ⟨f0,f1,f2,f3,f4,f5⟩:=hf it (by simp)
  have hg':n ≤ i:=hg
  have e0:(n:Int) - 1 - (i:Int)=-1:=by have:=st.1; lia
  have st2:=st.2
  rw [e0] at st2
  exact wpAny_pyNext_rev_end (I.ok.hd hc) st2 fun h' eb=>⟨rfl,I.turned (t':=s.toks) (fun b o hb e=>eb b o hb e) f0 f1 f3 f4 f5⟩
 self:=fun _ _ _ _ _ st h=>wpAny_pyIter_revIter st.2 h
section
variable {X:Cx} {tg:Expr}
noncomputable def iRevL (K:PySem.W.Frag) (ta:TA):TI:=fun σ H R=>ta σ H fun vs H1=>∃ a xs,vs=[.ref a]∧SqL K H1 a xs∧R (ItlR K a xs.length) H1
theorem pi_revL {a:Expr} {ta:TA} {p2 pos2:Pos} (hgr:Gl X "reversed") (hmr:X.mg "reversed" = none) (hvr:bootBuiltins "reversed" = some (.type "reversed")) (ha:PA X [a] ta) (hs:starEach [a] X.env=[(false,eval a X.env)]:=by rfl) :
  PI X tg (.Call (.Name "reversed" p2) [a] [] pos2) (iRevL X.K ta):=by
 intro pins s σ H R I h
 refine Call_ (Zgu I hgr hmr hvr (PyProof.Rows.callWith_type1 (thn (ha pos2 pins s σ H _ I h) fun us s1 hp0=>?_) (by rw [hs]; rfl) (by rfl)))
 obtain ⟨vs,H1,I1,r1,q1⟩:=hp0
 obtain ⟨l,xs,rfl,hq,q⟩:=q1
 obtain ⟨u,rfl,ru⟩:=Ze1 r1
 cases ru
 obtain ⟨its,rv,p,hz⟩:=I1.list hq
 have hl:=rv.length
 refine call_reversed_list p.isList ?_
 have e1:((its.toArray.size:Nat):Int) - 1=(xs.length:Int) - 1:=by simp; lia
 rw [e1]
 have st:(s1.heap.push (revObj l ((xs.length:Int) - 1))).IsRevIter s1.heap.objs.size l ((xs.length:Int) - 1):=⟨_,Heap.get?_push_size _ rfl,rfl,rfl⟩
 refine wpAny_pyIter_revIter (s:={ s1 with heap:=s1.heap.push (revObj l ((xs.length:Int) - 1)) }) st ?_
 refine ⟨s1.heap.objs.size,[s1.heap.objs.size],_,_,H1,rfl,I1.kept (t':=s1.toks) fun b o e=>Heap.get?_push_of_some _ e,turn_listR l _ xs.length,⟨Nat.zero_le _,?_⟩,fun b hb=>?_,q⟩
 ·have e2:(xs.length:Int) - 1 - ((0:Nat):Int)=(xs.length:Int) - 1:=by lia
  rw [e2]
  exact st
 ·have e:b=s1.heap.objs.size:=by simpa using hb
  subst e
  exact I1.fpOk (Nat.le_refl _) (I1.hok.fresh (Nat.le_refl _))
theorem for_listR {K:PySem.W.Frag} {a:Addr} {xs:List V} {g:TG} {tb:TS} {D:Ends} {σ:St} {H:Hp} (Pv:Nat→St→Hp→Prop) (h0:Pv 0 σ H) (hl:∀ i σ H,i ≤ xs.length→Pv i σ H→SqL K H a xs)
  (hs:∀ i x σ H,xs.reverse[i]? = some x→Pv i σ H→g x σ H fun σ2 H2=>tb { D with nx:=Pv (i + 1),ct:=Pv (i + 1),bk:=D.nx } σ2 H2) (hd:∀ σ H,Pv xs.length σ H→D.nx σ H) :
  ∃ W:Nat→Nat→St→Hp→Prop,(∃ m,W 0 m σ H)∧∀ i m σ H,W i m σ H →
   ((ItlR K a xs.length).stop i H∧D.nx σ H) ∨ ((ItlR K a xs.length).go i H∧∃ N:St→Hp→Prop,(∀ σ' H',N σ' H'→∃ m',m' < m∧W (i + 1) m' σ' H')∧∀ x H',(ItlR K a xs.length).yld i H x H'→g x σ H' fun σ2 H2=>tb { D with nx:=N,ct:=N,bk:=D.nx } σ2 H2):=by
 refine ⟨fun i m σ H=>m=xs.length - i∧i ≤ xs.length∧Pv i σ H,⟨xs.length,by simp,Nat.zero_le _,h0⟩,?_⟩
 rintro i m σ H ⟨rfl,hi,p⟩
 have q:=hl i σ H hi p
 by_cases hlt:i < xs.length
 ·refine .inr ⟨⟨hlt,xs,xs[xs.length - 1 - i],q,by rw [List.getElem?_eq_getElem (by lia)]⟩,Pv (i + 1),fun σ' H' p'=>⟨xs.length - (i + 1),by lia,rfl,hlt,p'⟩,fun x H' y=>?_⟩
  obtain ⟨e,y⟩:=y
  subst e
  exact hs i x σ _ (by rw [List.getElem?_reverse hlt]; exact y xs q) p
 ·have e:i=xs.length:=by lia
  subst e
  exact .inl ⟨Nat.le_refl _,hd σ H p⟩
end
end L2
namespace L2
open PySem PySem.Spec PyProof.Rows PySem.W
section
variable {X:Cx}
noncomputable def tMethVA (V':Addr→Sp→Prop) (m:Str) (E:XK) (ta:TE) (t:TA):TE:=fun σ H Q=>ta σ H fun x H1=>∃ (a C dx:Addr) (fs:List (Str × V)) (sp:Sp),x=.ref a∧H1 a=some (.ins C dx fs)∧fs.lookup m=none∧V' C sp∧t σ H1 fun vs H2=>sp (.ref a :: vs) H2 Q E
theorem Zfa {V':Addr→Sp→Prop} {m:Str} {o e:Expr} {es:List Expr} {apos pos:Pos} {ta:TE} {t:TA} {CX:CXT} {E:XK} {pl:Sem Bool} (he:PE X o ta)
  (hV:∀ C sp,V' C sp→∃ (k:Nat) (f:Addr) (fd:FuncData) (ps:List Str),Cls X.K C∧Meth X.K C m f∧FnOk X.prog X.w X.K X.mg X.base CX k f fd ps sp∧Room k X.A∧Binds X.K fd ps []) (hx:Zc7 CX X E) (ha:PA X (e :: es) t)
  (hst:starEach (e :: es) X.env=(false,eval e X.env) :: starEach es X.env:=by rfl) (hpl:(backTo pos (starEach es X.env)).any (·.1)=false:=by rfl)
  (ht:eval (.Call (.Attribute o m apos) (e :: es) [] pos) X.env=(do
   let ov ← eval o X.env
   standAt apos.atName
   let (f,first) ← holding [ov] (getMethod ov m pl)
   callWith pos f first (backTo pos (starEach (e :: es) X.env)) (backToKw pos (keywordEach [] X.env))):=by rfl) :
  PE X (.Call (.Attribute o m apos) (e :: es) [] pos) (tMethVA V' m E ta t):=by
 intro pins s σ H Q I h
 refine PySem.W.methodCall_KW (pl:=pl) (thn (he pins s σ H _ I h) fun u s1 hp0=>?_) ht
 obtain ⟨x,H1,I1,rx,a,C,dx,fs,sp,ex,ea,l,v,q⟩:=hp0
 subst ex
 obtain rfl:u=Value.ref a:=rx
 obtain ⟨k,f,fd,ps,c,hm,F,hr,hb⟩:=hV C sp v
 refine Zej I1 ea c hm l ?_
 refine PySem.W.callWith_K (first:=[.ref a]) (h₀:=X.base) I.ok.mod.kin hm.kp (thn (ha pos pins s1 σ H1 _ I1 q) fun us s2 hp0=>?_) hst hpl
 obtain ⟨vs,H2,I2,r,q2⟩:=hp0
 refine ⟨I2.kIn,?_⟩
 exact Zih (us:=.ref a :: us) (vs:=.ref a :: vs) F hr hb .nil hx I2 (.cons rfl r) (by rw [List.append_nil]; exact q2)
theorem Zke:∀ {ns:List Int} {us:List Value},Vals (ns.map V.int) us→IntsAre us ns
 | [],_,r=>by cases r; exact .nil
 | n :: ns,_,r=>by
  cases r with
  | cons h r=>
   obtain ⟨t,rfl⟩:=h
   exact .cons n t (Zke r)
theorem Zi4 (hc:X.calm=true):Zdc X (.builtin "max") (fun xs H Q=>∃ (p:Addr) (ns:List Int),xs=[.ref p]∧SqL X.K H p (ns.map V.int)∧0 < ns.length∧∀ M,M ∈ ns→(∀ a,a ∈ ns→a ≤ M)→Q (.int M) H):=by
 intro pins s σ H xs us Q I r h
 obtain ⟨p,ns,rfl,hp,hne,q⟩:=h
 obtain ⟨u,rfl,ru⟩:=Ze1 r
 cases ru
 obtain ⟨its,rv,pl,hz⟩:=I.list hp
 have hi:=Zke rv
 obtain ⟨ys,e⟩:=hi.allInts.items
 have hns:ns=ys.toList.map (·.1):=by
  (rw [← hi.numsOf,← nums_intItems,← e])
 have hsz:0 < ys.size:=by
  (have h3:=hne; rw [hns,List.length_map,Array.length_toList] at h3; exact h3)
 have hl:=pl.isList
 rw [e] at hl
 refine max_intList (I.ok.hd hc) hl hsz fun v h' tk hv hk=>?_
 (obtain ⟨t,rfl⟩:=intItems_at hv)
 obtain ⟨h1,h2⟩:=argBest_gt (numAt ys) (ys.size - 1)
 refine ⟨.int _,H,I.kept hk,⟨t,rfl⟩,q _ ?_ fun a ha=>?_⟩
 ·rw [hns,(numAt_eq)]; exact getD_mem (by rw [List.length_map,Array.length_toList]; lia)
 ·rw [hns] at ha
  (obtain ⟨j,hj,rfl⟩:=mem_getD ha)
  (rw [List.length_map,Array.length_toList] at hj)
  (rw [← numAt_eq]; exact h2 j (by lia))
end
end L2
namespace K36
open PySem L2 Tx Rk PyProof.Rows PySem.SeqAt
open PySem.PyData (strOk)
section
variable {P:Program} {w:World} {K:PySem.W.Frag} {mg:Str→Option Value} {base:Heap}
noncomputable def top (i:Nat):Stmt:=PySem.Challenge.pw_grope_k36_a_plan_told.main.body.getD i (.Pass ⟨0,0,0,0⟩)
noncomputable abbrev Zeo:Stmt:=top 7
noncomputable abbrev Zcn:Stmt:=top 8
noncomputable abbrev Zcb:Stmt:=top 14
noncomputable abbrev Zbk:Stmt:=top 15
noncomputable abbrev Zca:Stmt:=top 16
noncomputable abbrev Zbt:Stmt:=top 17
noncomputable abbrev Zbj:Stmt:=top 18
noncomputable abbrev Zbl:Stmt:=top 19
noncomputable abbrev Zbx:Stmt:=top 20
noncomputable abbrev Zb6:Stmt:=top 21
noncomputable abbrev Zdw:Stmt:=top 22
noncomputable abbrev Zbh:Stmt:=top 23
noncomputable abbrev Zif:Stmt:=Zbe (top 24) 0
noncomputable abbrev Zd8:Stmt:=Zbe (top 24) 4
noncomputable abbrev Zcv:Stmt:=Zbe (top 24) 10
noncomputable abbrev Zcu:Stmt:=Zbe (top 24) 11
noncomputable abbrev Zct:Stmt:=Zbe (top 24) 12
noncomputable abbrev Zc8:Stmt:=top 26
noncomputable abbrev Za9:Stmt:=top 27
noncomputable abbrev Zbz:Stmt:=top 28
noncomputable abbrev Za6:Stmt:=Zbe (top 29) 0
noncomputable abbrev Zay:Stmt:=Zbe (top 29) 1
noncomputable abbrev Zc3:Stmt:=Zbe (top 29) 2
noncomputable abbrev Zcj:Stmt:=Zbe (top 30) 0
noncomputable abbrev Zbn:Stmt:=Zbe (top 30) 1
noncomputable abbrev Zbo:Stmt:=Zbe (top 30) 2
noncomputable abbrev Zbw:Stmt:=Zbe (top 30) 3
noncomputable abbrev Zfp:Stmt:=Zbe (top 31) 0
noncomputable abbrev Zdf:Stmt:=Zbe (top 31) 1
noncomputable abbrev Zb8:Stmt:=Zbe (top 31) 2
noncomputable abbrev Zb9:Stmt:=Zbe (top 31) 3
noncomputable abbrev Zcl:Stmt:=Zbe (top 31) 4
noncomputable abbrev Zcy:Stmt:=Zbe (top 32) 0
noncomputable abbrev Zde:Stmt:=Zbe (top 32) 1
noncomputable abbrev Zck:Stmt:=Zbe (top 32) 2
noncomputable abbrev Zbp:Stmt:=Zbe (top 32) 3
noncomputable abbrev Zbq:Stmt:=Zbe (top 32) 4
noncomputable abbrev Zby:Stmt:=Zbe (top 32) 5
noncomputable abbrev Zes:Stmt:=top 34
noncomputable abbrev Zeq:Stmt:=top 35
noncomputable abbrev Zfz:Stmt:=top 36
noncomputable abbrev Zcz:Stmt:=top 37
noncomputable abbrev Zfy:Stmt:=top 38
noncomputable abbrev Ze8:Stmt:=top 39
noncomputable abbrev Zep:Stmt:=top 40
noncomputable abbrev Zb7:Stmt:=top 41
noncomputable abbrev Zbs:Stmt:=top 42
noncomputable abbrev Zd0:Stmt:=top 43
noncomputable abbrev Zdi:Stmt:=top 44
noncomputable abbrev sLIs:Stmt:=top 45
noncomputable abbrev Zco:Stmt:=top 46
noncomputable abbrev Zdx:Stmt:=top 47
noncomputable abbrev Zdz:Stmt:=top 48
noncomputable abbrev Zc4:Stmt:=top 49
noncomputable abbrev Zda:Stmt:=top 50
noncomputable abbrev Zc9:Stmt:=top 51
noncomputable abbrev Zer:Stmt:=top 52
noncomputable abbrev Zcr:Stmt:=top 53
noncomputable abbrev Zcp:Stmt:=top 54
noncomputable abbrev Zdy:Stmt:=top 55
noncomputable abbrev Zbr:Stmt:=top 56
noncomputable abbrev sLaw:Stmt:=top 57
structure Bl (mg:Str→Option Value):Prop where
 len:mg "len" = none
 range:mg "range" = none
 tuple:mg "tuple" = none
 zip:mg "zip" = none
 isi:mg "isinstance" = none
 str:mg "str" = none
 list:mg "list" = none
 set:mg "set" = none
 all:mg "all" = none
 sorted:mg "sorted" = none
 int:mg "int" = none
 bool:mg "bool" = none
 sum:mg "sum" = none
 max:mg "max" = none
 enumerate:mg "enumerate" = none
 dict:mg "dict" = none
 ve:mg "ValueError" = none
 reversed:mg "reversed" = none
noncomputable def Wd (ns:List Int):Prop:=∀ n ∈ ns,0 ≤ n∧n < 200
noncomputable def bt (ns:List Int):Nat:=ns.foldl (fun m n=>m ||| 2 ^ n.toNat) 0
theorem Zmq (a b:Nat):Builtin.bitOr (a:Int) b=((a ||| b:Nat):Int):=by
 have h1:¬ (0:Int) ≤ Builtin.bitNot a:=by unfold Builtin.bitNot; lia
 have h2:¬ (0:Int) ≤ Builtin.bitNot b:=by unfold Builtin.bitNot; lia
 have h3:∀ x:Int,Builtin.bitNot (Builtin.bitNot x)=x:=fun x=>by unfold Builtin.bitNot; lia
 unfold Builtin.bitOr Builtin.bitAnd
 rw [decide_eq_false h1,decide_eq_false h2]
 dsimp only
 rw [h3,h3,h3,Int.toNat_natCast,Int.toNat_natCast]
theorem and_nat (a b:Nat):Builtin.bitAnd (a:Int) b=((a &&& b:Nat):Int):=rfl
theorem Zl1 (ns:List Int) (n:Int):bt (ns ++ [n])=bt ns ||| 2 ^ n.toNat:=by
 unfold bt
 rw [List.foldl_append]
 rfl
theorem pow_i (k:Nat):(2:Int) ^ k=((2 ^ k:Nat):Int):=by
 rw [Int.natCast_pow]
 rfl
noncomputable def nb (m:Nat):Nat:=Builtin.Int.intBits (m:Int)
theorem nb_le {m k:Nat} (h:m < 2 ^ k):nb m ≤ k:=by
 unfold nb Builtin.Int.intBits
 split
 ·exact Nat.zero_le _
 ·rename_i c
  have:m ≠ 0:=by simpa using c
  rw [Int.natAbs_natCast]
  exact (Nat.log2_lt this).mpr h
noncomputable def wl (m:Nat):List Int:=((List.range (nb m)).filter fun i=>m.testBit i).map fun (i:Nat)=>(i:Int)
theorem bit_is (m i:Nat):Builtin.bitAnd ((m:Int) / 2 ^ i) 1=if m.testBit i then 1 else 0:=by
 rw [pow_i,← Int.natCast_ediv]
 show Builtin.bitAnd ((m / 2 ^ i:Nat):Int) ((1:Nat):Int)=_
 rw [and_nat,Nat.and_one_is_mod,Nat.testBit_eq_decide_div_mod_eq]
 have:m / 2 ^ i % 2 < 2:=Nat.mod_lt _ (by decide)
 by_cases h:m / 2 ^ i % 2=1
 ·simp [h]
 ·have h2:m / 2 ^ i % 2=0:=by lia
  simp [h2]
theorem iteT' {c:Bool} {A B:Prop} (h:c=true) (a:A):if c=true then A else B:=by rw [if_pos h]; exact a
theorem iteF' {c:Bool} {A B:Prop} (h:¬ c=true) (b:B):if c=true then A else B:=by rw [if_neg h]; exact b
theorem Zhj {s R:TS} {D:Ends} {σ:L2.St} {H:Hp} (I:L2.St→Hp→Prop) (hR:∀ σ' H',I σ' H'→R D σ' H') (hs:∀ N:L2.St→Hp→Prop,(∀ σ' H',I σ' H'→N σ' H')→s { D with nx:=N } σ H):tSeq s R D σ H:=hs (R D) hR
theorem Zhi {i:Nat} {v:V} {s R:TS} {D:Ends} {σ:L2.St} {H:Hp} (I:L2.St→Hp→Prop) (hR:∀ σ' H',I σ' H'→R D σ' H') (hs:∀ N:L2.St→Hp→Prop,(∀ σ' H',I σ' H'→N σ' H')→Zh3 i v σ H fun σ2 H2=>s { D with nx:=N } σ2 H2):Zh3 i v σ H (tSeq s R D):=hs (R D) hR
theorem Zje {H:Hp}:∀ ns:List Int,RdVs H (ns.map V.int) (ns.map PyData.int)
 | []=>.nil
 | n :: r=>.cons (.int n) (Zje r)
theorem eqv_int1 (n:Int):PyData.eqv (.int n) (.int n)=true:=by simp [PyData.eqv]
theorem Zg1:∀ ns:List Int,PyData.eqvAll (ns.map PyData.int) (ns.map PyData.int)=true
 | []=>by simp [PyData.eqvAll]
 | n :: r=>by rw [List.map_cons,PyData.eqvAll,eqv_int1,Zg1 r]; rfl
theorem eqv_ints (ns:List Int):PyData.eqv (.list (ns.map PyData.int)) (.list (ns.map PyData.int))=true:=by
 rw [PyData.eqv,Zg1]
theorem Zkd:∀ ns:List Int,PyData.canLayAll0 (ns.map PyData.int)=true
 | []=>by rw [List.map_nil,PyData.canLayAll0]
 | n :: r=>by
  rw [List.map_cons,PyData.canLayAll0,Zkd r,PyData.canLay0]
  rfl
theorem Zi0:∀ ns:List Int,PyData.depthAll (ns.map PyData.int) ≤ 0
 | []=>by rw [List.map_nil,PyData.depthAll]; exact Nat.zero_le _
 | n :: r=>by
  have h:=Zi0 r
  rw [List.map_cons,PyData.depthAll,PyData.depth]
  lia
theorem Zk1 (ns:List Int):shaped (.list (ns.map PyData.int))=true:=by
 unfold shaped
 rw [PyData.canLay0,Zkd,PyData.depth]
 have:=Zi0 ns
 (rw [decide_eq_true (by lia)])
 rfl
theorem dd_ints (ns:List Int):∃ ds:List Int,SK.dd (kAt (ns.map (Sum.inl:Int→Key))) (ns.map (Sum.inl:Int→Key)).length=ds.map Sum.inl∧ds.Nodup∧(∀ n,n ∈ ds ↔ n ∈ ns)∧ds.length ≤ ns.length:=by
 have hl:(ns.map (Sum.inl:Int→Key)).length=ns.length:=List.length_map ..
 rw [hl]
 have go:∀ i,i ≤ ns.length→∃ ds:List Int,SK.dd (kAt (ns.map (Sum.inl:Int→Key))) i=ds.map Sum.inl∧ds.Nodup∧(∀ n,n ∈ ds ↔ n ∈ ns.take i)∧ds.length ≤ i:=by
  intro i
  induction i with
  | zero=>exact fun _=>⟨[],rfl,List.nodup_nil,fun n=>by simp,Nat.le_refl _⟩
  | succ i ih=>
   intro hi
   have hi2:i < ns.length:=hi
   obtain ⟨ds,e,nd,me,le⟩:=ih (by lia)
   have ev:kAt (ns.map (Sum.inl:Int→Key)) i=Sum.inl ns[i]:=by simp [kAt,List.getD,hi2]
   have htk:=List.take_succ_eq_append_getElem hi2
   have hin:(Sum.inl ns[i]:Key) ∈ ds.map (Sum.inl:Int→Key) ↔ ns[i] ∈ ds:=by
    rw [List.mem_map]
    exact ⟨fun ⟨m,hm,e⟩=>by cases e; exact hm,fun h=>⟨_,h,rfl⟩⟩
   by_cases hm:ns[i] ∈ ds
   ·refine ⟨ds,?_,nd,fun n=>?_,by lia⟩
    ·unfold SK.dd
     rw [e,ev,if_pos (hin.mpr hm)]
    ·rw [htk,List.mem_append,List.mem_singleton,me n]
     exact ⟨.inl,fun z=>z.elim id fun z=>by rw [z]; exact (me _).mp hm⟩
   ·refine ⟨ds ++ [ns[i]],?_,Zlf nd hm,fun n=>?_,by rw [List.length_append]; exact Nat.succ_le_succ le⟩
    ·unfold SK.dd
     rw [e,ev,if_neg fun z=>hm (hin.mp z),List.map_append]
     rfl
    ·rw [htk,List.mem_append,List.mem_append,me n]
 obtain ⟨ds,e,nd,me,le⟩:=go ns.length (Nat.le_refl _)
 rw [List.take_length] at me
 exact ⟨ds,e,nd,me,le⟩
inductive spSetOf (K:PySem.W.Frag) (vs:List V) (H:Hp) (Q:VK) (E0_:XK):Prop
 | mk (a:Addr) (ns:List Int) (c0:vs=[.ref a]) (c1:SqL K H a (ns.map V.int)) (c2:Wd ns) (c3:Q (.int (bt ns:Nat)) H):spSetOf K vs H Q E0_
inductive spWof (vs:List V) (H:Hp) (Q:VK) (E0_:XK):Prop
 | mk (m:Nat) (c0:vs=[.int (m:Nat)]) (c1:m < 2 ^ 200) (c2:∀ (l:Addr) (H':Hp),Same H H'→H l=none→H' l=some (.lst ((wl m).map V.int))→Q (.ref l) H'):spWof  vs H Q E0_
inductive spLaw (K:PySem.W.Frag) (vs:List V) (H:Hp) (Q:VK) (E0_:XK):Prop
 | mk (a:Addr) (ns:List Int) (c0:vs=[.ref a]) (c1:SqL K H a (ns.map V.int)) (c2:ns.length ≤ 63) (c3:∀ H',Q (.bl true) H'):spLaw K vs H Q E0_
noncomputable abbrev Zf0:List Str:=["worlds"]
noncomputable abbrev nSetOf:List Str:=["worlds", "some", "world"]
theorem scSetOf:FnScope nSetOf Zf0 (Zab Zeo):=⟨rfl,rfl,rfl,by decide +kernel,rfl,by decide +kernel,by decide +kernel⟩
noncomputable abbrev Zil:List Str:=["some"]
noncomputable abbrev nWorldsOf:List Str:=["some"]
theorem scWorldsOf:FnScope nWorldsOf Zil (Zab Zcn):=⟨rfl,rfl,rfl,by decide +kernel,rfl,by decide +kernel,by decide +kernel⟩
noncomputable abbrev pLaw:List Str:=["_law_script"]
noncomputable abbrev nLaw:List Str:=["_law_script", "_law_words_here", "_law_prices_here", "_law_tree_here", "_law_plan_here", "_law_chart_here", "_law_turn", "_law_other", "_law_word"]
theorem scLaw:FnScope nLaw pLaw (Zab sLaw):=⟨rfl,rfl,rfl,by decide +kernel,rfl,by decide +kernel,by decide +kernel⟩
theorem ok_setof {f:Addr} {fd:FuncData} (F:Fun K "set_of" "set_of" Zeo f fd):FnOk P w K mg base CX0 1 f fd Zf0 (spSetOf K):=by
 refine F.ok scSetOf (fun vs H Q E h=>?_) (fun cdv A outer s H vs Q E hr h=>?_)
 ·obtain ⟨a,ns,rfl,_⟩:=h
  rfl
 ·obtain ⟨a,ns,rfl,hS,wd,q⟩:=h
  refine ⟨_,(Zae (Zax (i:=1) scSetOf.nd rfl (Or.inl rfl) Zaf)
   (Zae (Zcc PassesOwn.never rfl (Zbd (pv 0)) (Zaq (i:=2) scSetOf.nd rfl (Or.inl rfl))
    (Zag (Zax (i:=1) scSetOf.nd rfl (Or.inl rfl) (Zaz op_or (pv 1) (Zaz op_shl Zaf (pv 2))))))
   (Zag (Zan (pv 1))))),?_⟩
  refine ⟨_,rfl,a,rfl,⟨_,hS⟩,Zc6 (K:=K) (a:=a) (xs:=ns.map V.int) (fun i σ H2=>∃ v2:Option V,σ = [some (.ref a),some (.int (bt (ns.take i):Nat)),v2]∧H2=H) ⟨none,rfl,rfl⟩ (fun i σ H2 _ hh0=>by obtain ⟨_,_,e⟩:=hh0; rw [e]; exact hS) ?_ ?_⟩
  ·rintro i x σ H2 hx ⟨v2,rfl,e⟩
   rw [List.getElem?_map] at hx
   obtain ⟨n,en,rfl⟩:=Option.map_eq_some_iff.mp hx
   have hi:i < ns.length:=(List.getElem?_eq_some_iff.mp en).1
   have hni:ns[i]=n:=(List.getElem?_eq_some_iff.mp en).2
   have hw:=wd n (List.mem_of_getElem? en)
   have key:Builtin.bitOr ((bt (ns.take i):Nat):Int) (1 * 2 ^ n.toNat)=((bt (ns.take (i + 1)):Nat):Int):=by
    rw [List.take_succ_eq_append_getElem hi,hni,Zl1,Int.one_mul,pow_i,Zmq]
   refine ⟨_,rfl,_,rfl,_,_,rfl,rfl,⟨hw.1,by lia,by decide⟩,_,_,rfl,rfl,?_⟩
   exact ⟨some (.int n),by rw [← key]; rfl,e⟩
  ·rintro σ H2 ⟨v2,rfl,e⟩
   rw [show (ns.map V.int).length=ns.length from List.length_map ..,List.take_length,e]
   exact ⟨_,rfl,q⟩
structure Mc (mg:Str→Option Value):Prop where
 mw:∃ t,mg "MOST_WORLDS" = some (.int 200 t)
 ms:∃ t,mg "MOST_STEPS" = some (.int 40 t)
 mn:∃ t,mg "MOST_SIGNS" = some (.int 30 t)
 mp:∃ t,mg "MOST_PRICE" = some (.int 1000000000 t)
inductive StV (H:Hp) (v:V) (n:Str) (p:Int) (t:Addr):Prop
 | mk (a:Addr) (e:v=.ref a) (h:H a=some (.tup [.str n,.int p,.ref t])):StV H v n p t
theorem StV.same {H H':Hp} {v:V} {n:Str} {p:Int} {t:Addr} (s:Same H H') (h:StV H v n p t):StV H' v n p t:=by
 obtain ⟨a,e,h⟩:=h
 exact ⟨a,e,s _ _ h⟩
structure A2 {α:Type} (R:V→α→Prop) (vs:List V) (ts:List α):Prop where
 len:vs.length=ts.length
 got:∀ (i:Nat) v t,vs[i]? = some v→ts[i]? = some t→R v t
theorem A2.mono {α:Type} {R S:V→α→Prop} {vs:List V} {ts:List α} (h:A2 R vs ts) (m:∀ v t,v ∈ vs→R v t→S v t):A2 S vs ts:=⟨h.len,fun i v t hv ht=>m v t (List.mem_of_getElem? hv) (h.got i v t hv ht)⟩
theorem A2.at {α:Type} {R:V→α→Prop} {vs:List V} {ts:List α} (h:A2 R vs ts) {i:Nat} {v:V} (hv:vs[i]? = some v):∃ t,ts[i]? = some t∧t ∈ ts∧R v t:=by
 have hl:=(List.getElem?_eq_some_iff.mp hv).1
 have hl2:i < ts.length:=by rw [← h.len]; exact hl
 exact ⟨ts[i],List.getElem?_eq_getElem hl2,List.getElem_mem hl2,h.got i v _ hv (List.getElem?_eq_getElem hl2)⟩
theorem A2.app {α:Type} {R:V→α→Prop} {vs vs':List V} {ts ts':List α} (h:A2 R vs ts) (h':A2 R vs' ts'):A2 R (vs ++ vs') (ts ++ ts'):=⟨by rw [List.length_append,List.length_append,h.len,h'.len],fun i v t hv ht=>by
 by_cases hi:i < vs.length
 ·rw [List.getElem?_append_left hi] at hv
  rw [List.getElem?_append_left (by rw [← h.len]; exact hi)] at ht
  exact h.got i v t hv ht
 ·rw [List.getElem?_append_right (by lia)] at hv
  rw [List.getElem?_append_right (by rw [← h.len]; lia),← h.len] at ht
  exact h'.got _ v t hv ht⟩
structure Dee where
 name:Str
 price:Int
 tab:List (List Int)
structure Loo where
 name:Str
 price:Int
 tab:List (Option Str)
noncomputable def oS:Option Str→V
 | none=>.non
 | some x=>.str x
inductive EnV (H:Hp) (v:V) (ns:List Int):Prop
 | mk (b:Addr) (e:v=.ref b) (h:H b=some (.lst (ns.map V.int))):EnV H v ns
inductive DeV (H:Hp) (v:V) (d:Dee):Prop
 | mk (t:Addr) (es:List V) (s:StV H v d.name d.price t) (ht:H t=some (.lst es)) (he:A2 (EnV H) es d.tab):DeV H v d
inductive LoV (H:Hp) (v:V) (l:Loo):Prop
 | mk (t:Addr) (s:StV H v l.name l.price t) (ht:H t=some (.lst (l.tab.map oS))):LoV H v l
theorem EnV.same {H H':Hp} {v:V} {ns:List Int} (s:Same H H') (h:EnV H v ns):EnV H' v ns:=by
 obtain ⟨b,e,h⟩:=h
 exact ⟨b,e,s _ _ h⟩
theorem DeV.same {H H':Hp} {v:V} {d:Dee} (s:Same H H') (h:DeV H v d):DeV H' v d:=by
 obtain ⟨t,es,st,ht,he⟩:=h
 exact ⟨t,es,st.same s,s _ _ ht,he.mono fun v t _ r=>r.same s⟩
theorem LoV.same {H H':Hp} {v:V} {l:Loo} (s:Same H H') (h:LoV H v l):LoV H' v l:=by
 obtain ⟨t,st,ht⟩:=h
 exact ⟨t,st.same s,s _ _ ht⟩
inductive spCheckMany (vs:List V) (H:Hp) (Q:VK) (E0_:XK):Prop
 | mk (m:Int) (c0:vs=[.int m]) (c1:1 ≤ m) (c2:m ≤ 200) (c3:Q .non H):spCheckMany  vs H Q E0_
inductive spCheckName (vs:List V) (H:Hp) (Q:VK) (E0_:XK):Prop
 | mk (x:Str) (c0:vs=[.str x]) (c1:1 ≤ x.length) (c2:x.length ≤ 30) (c3:Q .non H):spCheckName  vs H Q E0_
inductive spCheckPrice (vs:List V) (H:Hp) (Q:VK) (E0_:XK):Prop
 | mk (p:Int) (c0:vs=[.int p]) (c1:1 ≤ p) (c2:p ≤ 1000000000) (c3:Q .non H):spCheckPrice  vs H Q E0_
inductive spCheckTable (vs:List V) (H:Hp) (Q:VK) (E0_:XK):Prop
 | mk (m:Int) (n:V) (t:Addr) (xs:List V) (c0:vs=[.int m,n,.ref t]) (c1:H t=some (.lst xs)) (c2:(xs.length:Int)=m) (c3:Q .non H):spCheckTable  vs H Q E0_
inductive spCheckEntry (vs:List V) (H:Hp) (Q:VK) (E0_:XK):Prop
 | mk (m:Int) (n:V) (b:Addr) (ns:List Int) (c0:vs=[.int m,n,.ref b]) (c1:H b=some (.lst (ns.map V.int))) (c2:ns.Pairwise (· < ·)) (c3:(∀ x ∈ ns,0 ≤ x∧x < m)) (c4:ns.length ≤ 60) (c5:∀ H':Hp,Same H H'→Q .non H'):spCheckEntry  vs H Q E0_
noncomputable abbrev Zei:List Str:=["many"]
noncomputable abbrev nCheckMany:List Str:=["many"]
theorem scCheckMany:FnScope nCheckMany Zei (Zab Zcb):=⟨rfl,rfl,rfl,by decide +kernel,rfl,by decide +kernel,by decide +kernel⟩
noncomputable abbrev Zeh:List Str:=["name"]
noncomputable abbrev nCheckName:List Str:=["name"]
theorem scCheckName:FnScope nCheckName Zeh (Zab Zca):=⟨rfl,rfl,rfl,by decide +kernel,rfl,by decide +kernel,by decide +kernel⟩
noncomputable abbrev Zdp:List Str:=["price"]
noncomputable abbrev nCheckPrice:List Str:=["price"]
theorem scCheckPrice:FnScope nCheckPrice Zdp (Zab Zbt):=⟨rfl,rfl,rfl,by decide +kernel,rfl,by decide +kernel,by decide +kernel⟩
noncomputable abbrev Zcm:List Str:=["many", "name", "table"]
noncomputable abbrev nCheckTable:List Str:=["many", "name", "table"]
theorem scCheckTable:FnScope nCheckTable Zcm (Zab Zbj):=⟨rfl,rfl,rfl,by decide +kernel,rfl,by decide +kernel,by decide +kernel⟩
noncomputable abbrev Zdq:List Str:=["many", "name", "entry"]
noncomputable abbrev nCheckEntry:List Str:=["many", "name", "entry"]
theorem scCheckEntry:FnScope nCheckEntry Zdq (Zab Zbl):=⟨rfl,rfl,rfl,by decide +kernel,rfl,by decide +kernel,by decide +kernel⟩
noncomputable abbrev Zdo:List Str:=["deeds", "looks"]
noncomputable abbrev nCheckSteps:List Str:=["deeds", "looks", "steps", "names", "step"]
theorem scCheckSteps:FnScope nCheckSteps Zdo (Zab Zbk):=⟨rfl,rfl,rfl,by decide +kernel,rfl,by decide +kernel,by decide +kernel⟩
structure StOk (s:Str × Int):Prop where
 n1:1 ≤ s.1.length
 n2:s.1.length ≤ 30
 p1:1 ≤ s.2
 p2:s.2 ≤ 1000000000
inductive spCheckSteps (vs:List V) (H:Hp) (Q:VK) (E0_:XK):Prop
 | mk (a b:Addr) (ds ls:List V) (st:List (Str × Int)) (c0:vs=[.ref a,.ref b]) (c1:H a=some (.lst ds)) (c2:H b=some (.lst ls)) (c3:A2 (fun v s=>∃ t,StV H v s.1 s.2 t) (ds ++ ls) st) (c4:ds.length ≤ 40) (c5:ls.length ≤ 40) (c6:(st.map (·.1)).Nodup) (c7:(∀ s ∈ st,StOk s)) (c8:∀ H':Hp,Same H H'→Q .non H'):spCheckSteps  vs H Q E0_
structure KA {α:Type} (nm:α→Str) (R:V→α→Prop) (kvs:List (Key × V)) (ds:List α):Prop where
 len:kvs.length=ds.length
 got:∀ (i:Nat) kv d,kvs[i]? = some kv→ds[i]? = some d→kv.1=Sum.inr (nm d)∧R kv.2 d
theorem KA.nil {α:Type} {nm:α→Str} {R:V→α→Prop}:KA nm R [] []:=⟨rfl,fun i kv d h _=>by cases h⟩
theorem KA.mono {α:Type} {nm:α→Str} {R S:V→α→Prop} {kvs:List (Key × V)} {ds:List α} (h:KA nm R kvs ds) (m:∀ v d,d ∈ ds→R v d→S v d):KA nm S kvs ds:=⟨h.len,fun i kv d h1 h2=>⟨(h.got i kv d h1 h2).1,m _ _ (List.mem_of_getElem? h2) (h.got i kv d h1 h2).2⟩⟩
theorem KA.snoc {α:Type} {nm:α→Str} {R:V→α→Prop} {kvs:List (Key × V)} {ds:List α} {d:α} {v:V} (h:KA nm R kvs ds) (r:R v d):KA nm R (kvs ++ [(Sum.inr (nm d),v)]) (ds ++ [d]):=⟨by simp [h.len],fun i kv x hk hx=>by
 by_cases hi:i < kvs.length
 ·rw [List.getElem?_append_left hi] at hk
  rw [List.getElem?_append_left (by rw [← h.len]; exact hi)] at hx
  exact h.got i kv x hk hx
 ·rw [List.getElem?_append_right (by lia)] at hk
  rw [List.getElem?_append_right (by rw [← h.len]; lia),← h.len] at hx
  have h0:i - kvs.length=0:=by
   have:=(List.getElem?_eq_some_iff.mp hk).1
   simp at this
   lia
  rw [h0] at hk hx
  cases hk
  cases hx
  exact ⟨rfl,r⟩⟩
theorem KA.keysE {α:Type} {nm:α→Str} {R:V→α→Prop} {kvs:List (Key × V)} {ds:List α} (h:KA nm R kvs ds):kvs.map (·.1)=ds.map fun d=>(Sum.inr (nm d):Key):=by
 apply List.ext_getElem?
 intro i
 rw [List.getElem?_map,List.getElem?_map]
 cases hk:kvs[i]? with
 | none=>
  have:kvs.length ≤ i:=List.getElem?_eq_none_iff.mp hk
  rw [List.getElem?_eq_none (by rw [← h.len]; exact this)]
  rfl
 | some kv=>
  have hl:=(List.getElem?_eq_some_iff.mp hk).1
  have hl2:i < ds.length:=by rw [← h.len]; exact hl
  rw [List.getElem?_eq_getElem hl2]
  show some kv.1=some _
  rw [(h.got i kv _ hk (List.getElem?_eq_getElem hl2)).1]
theorem KA.none {α:Type} {nm:α→Str} {R:V→α→Prop} {kvs:List (Key × V)} {ds:List α} (h:KA nm R kvs ds) {x:Str} (hx:x ∉ ds.map nm):valV kvs (Sum.inr x:Key)=none:=by
 cases e:valV kvs (Sum.inr x:Key) with
 | none=>rfl
 | some v=>
  exfalso
  have:=Zjd e
  rw [h.keysE] at this
  obtain ⟨d,hd,ed⟩:=List.mem_map.mp this
  exact hx (List.mem_map.mpr ⟨d,hd,Sum.inr.inj ed⟩)
theorem Zkv {kvs:List (Key × V)} (nd:(kvs.map (·.1)).Nodup) {i:Nat} {kv:Key × V} (h:kvs[i]? = some kv):valV kvs kv.1=some kv.2:=by
 induction (kvs) generalizing i with
 | nil=>cases h
 | cons p r ih=>
  rw [List.map_cons] at nd
  (obtain ⟨n1,n2⟩:=List.nodup_cons.mp nd)
  cases i with
  | zero=>
   cases h
   exact Zb4 rfl
  | succ i=>
   have h':r[i]? = some kv:=h
   rw [Zb5 (fun e=>n1 (by rw [e]; exact List.mem_map.mpr ⟨kv,List.mem_of_getElem? h',rfl⟩))]
   exact ih n2 h'
theorem KA.val {α:Type} {nm:α→Str} {R:V→α→Prop} {kvs:List (Key × V)} {ds:List α} (h:KA nm R kvs ds) (nd:(ds.map nm).Nodup) {d:α} (hd:d ∈ ds):∃ v,valV kvs (Sum.inr (nm d):Key)=some v∧R v d:=by
 obtain ⟨i,hi⟩:=List.getElem?_of_mem hd
 have hl:=(List.getElem?_eq_some_iff.mp hi).1
 have hl2:i < kvs.length:=by rw [h.len]; exact hl
 have hk:kvs[i]? = some kvs[i]:=List.getElem?_eq_getElem hl2
 obtain ⟨e,r⟩:=h.got i _ d hk hi
 refine ⟨kvs[i].2,?_,r⟩
 rw [← e]
 refine Zkv ?_ hk
 rw [h.keysE]
 have:(ds.map fun d=>(Sum.inr (nm d):Key))=(ds.map nm).map Sum.inr:=by rw [List.map_map]; rfl
 rw [this]
 exact List.pairwise_map.mpr (List.Pairwise.imp (fun h e=>h (Sum.inr.inj e)) nd)
inductive OuV (H:Hp) (v:V) (d:Dee):Prop
 | mk (t:Addr) (e:v=.ref t) (h:H t=some (.tup (d.tab.map fun n=>V.int (bt n:Nat)))):OuV H v d
inductive AnV (H:Hp) (v:V) (l:Loo):Prop
 | mk (t:Addr) (e:v=.ref t) (h:H t=some (.tup (l.tab.map oS))):AnV H v l
structure DeOk (many:Nat) (d:Dee):Prop where
 len:d.tab.length=many
 up:∀ e ∈ d.tab,e.Pairwise (· < ·)
 inn:∀ e ∈ d.tab,∀ x ∈ e,0 ≤ x∧x < (many:Int)
 few:∀ e ∈ d.tab,e.length ≤ 60
theorem DeOk.wd {many:Nat} {d:Dee} (h:DeOk many d) (m:many ≤ 200):∀ e ∈ d.tab,Wd e:=fun e he n hn=>⟨(h.inn e he n hn).1,by have:=(h.inn e he n hn).2; lia⟩
inductive spReadDeeds (vs:List V) (H:Hp) (Q:VK) (E0_:XK):Prop
 | mk (m:Nat) (a:Addr) (us:List V) (ds:List Dee) (c0:vs=[.int (m:Int),.ref a]) (c1:m ≤ 200) (c2:H a=some (.lst us)) (c3:A2 (DeV H) us ds) (c4:(∀ d ∈ ds,DeOk m d)) (c5:(ds.map Dee.name).Nodup) (c6:ds.length ≤ 40) (c7:∀ (d:Addr) (kvs:List (Key × V)) (H':Hp),Same H H'→H d=none→H' d=some (.dK kvs)→KA Dee.name (OuV H') kvs ds→Q (.ref d) H'):spReadDeeds  vs H Q E0_
inductive spReadLooks (vs:List V) (H:Hp) (Q:VK) (E0_:XK):Prop
 | mk (m:Nat) (a:Addr) (us:List V) (ls:List Loo) (c0:vs=[.int (m:Int),.ref a]) (c1:m ≤ 200) (c2:H a=some (.lst us)) (c3:A2 (LoV H) us ls) (c4:(∀ l ∈ ls,l.tab.length=m)) (c5:(ls.map Loo.name).Nodup) (c6:ls.length ≤ 40) (c7:∀ (d:Addr) (kvs:List (Key × V)) (H':Hp),Same H H'→H d=none→H' d=some (.dK kvs)→KA Loo.name (AnV H') kvs ls→Q (.ref d) H'):spReadLooks  vs H Q E0_
noncomputable abbrev Zed:List Str:=["many", "deeds"]
noncomputable abbrev nReadDeeds:List Str:=["many", "deeds", "found", "deed", "name", "table", "entry"]
theorem scReadDeeds:FnScope nReadDeeds Zed (Zab Zbx):=⟨rfl,rfl,rfl,by decide +kernel,rfl,by decide +kernel,by decide +kernel⟩
noncomputable abbrev Zec:List Str:=["many", "looks"]
noncomputable abbrev nReadLooks:List Str:=["many", "looks", "found", "look"]
theorem scReadLooks:FnScope nReadLooks Zec (Zab Zb6):=⟨rfl,rfl,rfl,by decide +kernel,rfl,by decide +kernel,by decide +kernel⟩
theorem OuV.keep {H H':Hp} {v:V} {d:Dee} (k:∀ b xs,H b=some (.tup xs)→H' b=some (.tup xs)) (h:OuV H v d):OuV H' v d:=by
 obtain ⟨t,e,h⟩:=h
 exact ⟨t,e,k _ _ h⟩
theorem AnV.keep {H H':Hp} {v:V} {l:Loo} (k:∀ b xs,H b=some (.tup xs)→H' b=some (.tup xs)) (h:AnV H v l):AnV H' v l:=by
 obtain ⟨t,e,h⟩:=h
 exact ⟨t,e,k _ _ h⟩
theorem ok_checkmany {f:Addr} {fd:FuncData} (F:Fun K "check_many" "check_many" Zcb f fd) (M:Mc mg):FnOk P w K mg base CX0 1 f fd Zei spCheckMany:=by
 obtain ⟨t1,m1⟩:=M.mw
 refine F.ok scCheckMany (fun vs H Q E h=>?_) (fun cdv A outer s H vs Q E hr h=>?_)
 ·obtain ⟨m,rfl,_⟩:=h
  rfl
 ·obtain ⟨m,rfl,h1,h2,q⟩:=h
  refine ⟨_,(Zag (Zbc (Zb1 (Zhn Zjm Zjm Zaf (pv 0) (Zdk (v:=.int 200) (by rfl) m1 ⟨_,rfl⟩))) Zb2 Zau)),?_⟩
  refine ⟨_,rfl,_,_,rfl,rfl,_,rfl,?_⟩
  rw [decide_eq_true h1]
  refine iteT ?_
  refine ⟨_,_,rfl,rfl,_,rfl,?_⟩
  rw [decide_eq_true h2]
  exact iteF q
theorem ok_checkname {f:Addr} {fd:FuncData} (F:Fun K "check_name" "check_name" Zca f fd) (T:Bl mg) (M:Mc mg):FnOk P w K mg base CX0 1 f fd Zeh spCheckName:=by
 obtain ⟨t1,m1⟩:=M.mn
 refine F.ok scCheckName (fun vs H Q E h=>?_) (fun cdv A outer s H vs Q E hr h=>?_)
 ·obtain ⟨x,rfl,_⟩:=h
  rfl
 ·obtain ⟨x,rfl,h1,h2,q⟩:=h
  have hsl:sizeLine=16777216:=sizeLine_eq
  refine ⟨_,(Zag (Zbc (Zb1 (Zhn Zjm Zjm Zaf (Zat Zbf (by rfl) T.len PySem.boot_len (Zaa (pv 0) Zad)) (Zdk (v:=.int 30) (by rfl) m1 ⟨_,rfl⟩))) Zb2 Zau)),?_⟩
  refine ⟨_,rfl,_,_,rfl,⟨by lia,rfl⟩,_,_,rfl,rfl,_,rfl,?_⟩
  rw [decide_eq_true (show (1:Int) ≤ (x.length:Int) by lia)]
  refine iteT ?_
  refine ⟨_,_,rfl,rfl,_,rfl,?_⟩
  rw [decide_eq_true (show (x.length:Int) ≤ 30 by lia)]
  exact iteF q
theorem ok_checkprice {f:Addr} {fd:FuncData} (F:Fun K "check_price" "check_price" Zbt f fd) (M:Mc mg):FnOk P w K mg base CX0 1 f fd Zdp spCheckPrice:=by
 obtain ⟨t1,m1⟩:=M.mp
 refine F.ok scCheckPrice (fun vs H Q E h=>?_) (fun cdv A outer s H vs Q E hr h=>?_)
 ·obtain ⟨m,rfl,_⟩:=h
  rfl
 ·obtain ⟨m,rfl,h1,h2,q⟩:=h
  refine ⟨_,(Zag (Zbc (Zb1 (Zhn Zjm Zjm Zaf (pv 0) (Zdk (v:=.int 1000000000) (by rfl) m1 ⟨_,rfl⟩))) Zb2 Zau)),?_⟩
  refine ⟨_,rfl,_,_,rfl,rfl,_,rfl,?_⟩
  rw [decide_eq_true h1]
  refine iteT ?_
  refine ⟨_,_,rfl,rfl,_,rfl,?_⟩
  rw [decide_eq_true h2]
  exact iteF q
theorem ok_checktable {f:Addr} {fd:FuncData} (F:Fun K "check_table" "check_table" Zbj f fd) (T:Bl mg):FnOk P w K mg base CX0 1 f fd Zcm spCheckTable:=by
 refine F.ok scCheckTable (fun vs H Q E h=>?_) (fun cdv A outer s H vs Q E hr h=>?_)
 ·obtain ⟨m,n,t,xs,rfl,_⟩:=h
  rfl
 ·obtain ⟨m,n,t,xs,rfl,ht,hm,q⟩:=h
  refine ⟨_,(Zag (Zbc (Zav Zf5 (Zat Zbf (by rfl) T.len PySem.boot_len (Zaa (pv 2) Zad)) (pv 0) (Za0 _)) Zb2 Zau)),?_⟩
  refine ⟨_,rfl,_,_,rfl,.inl ⟨_,SqL.of ht,rfl⟩,_,rfl,rfl,_,rfl,?_⟩
  rw [hm]
  refine ite2 (fun z=>?_) (fun _=>q)
  simp at z
theorem ok_checkentry {f:Addr} {fd:FuncData} (F:Fun K "check_entry" "check_entry" Zbl f fd) (T:Bl mg):FnOk P w K mg base CX0 1 f fd Zdq spCheckEntry:=by
 refine F.ok scCheckEntry (fun vs H Q E h=>?_) (fun cdv A outer s H vs Q E hr h=>?_)
 ·obtain ⟨m,n,b,ns,rfl,_⟩:=h
  rfl
 ·obtain ⟨m,n,b,ns,rfl,hb,hp,hx,hl,q⟩:=h
  have hun:=hr.units
  have hsl:sizeLine=16777216:=sizeLine_eq
  refine ⟨_,(Zae (Zbc (Zav (op_neLD hun) (Za7 Zcf (by rfl) T.list Zd5 (Zaa (pv 2) Zad)) (Zat (call_sortedG rfl) (by rfl) T.sorted Zi7 (Zaa (Za7 (call_setG rfl) (by rfl) T.set Zl2 (Zaa (pv 2) Zad)) Zad)) (Za0 _)) Zb2 Zau)
   (Zag (Zbc (Zb1 (Zci (Zat (call_all rfl) (by rfl) T.all bt_all (Zaa (Zel (N:=["world", "many"]) (sc:=Zab Zbl) (own:=["world"]) (fr:=["many"]) (js:=[0]) ⟨rfl,rfl,rfl,rfl,by decide +kernel,by decide +kernel,by decide +kernel,rfl,by decide +kernel⟩ rfl (Zbd (pv 2)) (fun _ _ _ _=>Zaq (i:=0) (show List.Nodup (["world", "many"]:List Str) by decide +kernel) rfl (Or.inl rfl)) (fun _ _ _ _=>Zbm) (fun _ _ _ _=>(pe_chain Zjm Zjl Zaf (pv 0) (pv 1)))) Zad)))) Zb2 Zau))),?_⟩
  refine ⟨_,rfl,b,_,rfl,.inl (SqL.of hb),fun l1 hl1=>?_⟩
  have s1:Same H (upd H l1 (.lst (ns.map V.int))):=Same.new hl1
  have e1:(upd H l1 (.lst (ns.map V.int))) l1=some (.lst (ns.map V.int)):=Zac
  generalize (upd H l1 (.lst (ns.map V.int)))=H1 at s1 e1 ⊢
  have hb1:=s1 _ _ hb
  obtain ⟨ds,ed,nd,me,ld⟩:=dd_ints ns
  have ek:ns.map V.int=(ns.map (Sum.inl:Int→Key)).map kV:=by rw [List.map_map]; rfl
  refine ⟨_,rfl,b,ns.map Sum.inl,rfl,SqL.of (by rw [← ek]; exact hb1),by rw [List.length_map]; lia,fun st hst=>?_⟩
  rw [ed]
  have s2:Same H1 (upd H1 st (setG P w st (ds.map Sum.inl))):=Same.new hst
  refine ⟨st,ds,rfl,Zac,nd,by lia,fun l2 zs hl2 pm so=>?_⟩
  have hz:zs=ns:=by
   have pn:ds.Perm ns:=(List.perm_ext_iff_of_nodup nd (hp.imp fun h=>Int.ne_of_lt h)).mpr me
   exact List.Perm.eq_of_pairwise (le:=(· ≤ ·)) (fun a b _ _ h1 h2=>by lia) so (hp.imp fun h=>Int.le_of_lt h) (pm.trans pn)
  subst hz
  have s3:Same H1 (upd (upd H1 st (setG P w st (ds.map Sum.inl))) l2 (.lst (zs.map V.int))):=Same.put (H':=upd H1 st (setG P w st (ds.map Sum.inl))) (o:=.lst (zs.map V.int)) s2 (s2.free hl2)
  have e3:(upd (upd H1 st (setG P w st (ds.map Sum.inl))) l2 (.lst (zs.map V.int))) l2=some (.lst (zs.map V.int)):=Zac
  refine ⟨l1,l2,_,_,_,_,rfl,rfl,s3 _ _ e1,e3,Zje _,Zje _,Zk1 _,Zk1 _,_,rfl,?_⟩
  rw [eqv_ints]
  refine iteF ?_
  have hb2:=s3 _ _ hb1
  refine ⟨_,rfl,b,rfl,⟨_,SqL.of hb2⟩,fun D hD=>?_⟩
  refine lcJ (n:=zs.length) (fun i ys H3=>ys=(List.replicate i true).map V.bl∧Same (upd (upd H1 st (setG P w st (ds.map Sum.inl))) l2 (.lst (zs.map V.int))) H3∧H3 D=some (.lst ys)) ⟨rfl,Same.new hD,Zac⟩
   (fun i ys H3 hi hh0=>by obtain ⟨_,s4,_⟩:=hh0; exact ⟨_,.int zs[i],SqL.of (s4 _ _ hb2),by simp [hi]⟩) (fun ys H3 hh0=>by obtain ⟨_,s4,_⟩:=hh0; exact ⟨_,SqL.of (s4 _ _ hb2),by simp⟩) ?_ ?_
  ·rintro i ys H3 y H4 hi ⟨rfl,s4,e4⟩ ⟨rfl,hy⟩
   refine Zch ?_
   have hy2:y=.int zs[i]:=by
    have:=hy _ (SqL.of (s4 _ _ hb2))
    rw [List.getElem?_map,List.getElem?_eq_getElem hi] at this
    (exact (Option.some.inj this).symm)
   subst hy2
   obtain ⟨x0,x1⟩:=hx _ (List.getElem_mem hi)
   refine ⟨_,rfl,_,_,rfl,rfl,_,rfl,?_⟩
   rw [decide_eq_true x0]
   refine iteT ?_
   refine ⟨_,rfl,_,_,rfl,rfl,?_⟩
   rw [decide_eq_true x1]
   refine ⟨_,e4,by rw [List.length_map,List.length_replicate]; lia,?_,s4.put hD,Zac⟩
   rw [List.replicate_succ',List.map_append]
   rfl
  ·rintro ys H3 ⟨rfl,s4,e4⟩
   refine ⟨D,_,rfl,SqL.of e4,_,rfl,?_⟩
   rw [show (List.replicate zs.length true).all (fun b=>b)=true from List.all_eq_true.mpr fun b hb=>(List.mem_replicate.mp hb).2]
   exact iteF (q H3 ((s1.trans s3).trans s4))
theorem ok_checksteps {f f1 f2:Addr} {fd d1 d2:FuncData} (F:Fun K "check_steps" "check_steps" Zbk f fd) (T:Bl mg) (M:Mc mg) (D_check_name:Df K mg "check_name" Zca Zeh f1 d1) (G_check_name:FnOk P w K mg base CX0 1 f1 d1 Zeh spCheckName) (D_check_price:Df K mg "check_price" Zbt Zdp f2 d2) (G_check_price:FnOk P w K mg base CX0 1 f2 d2 Zdp spCheckPrice):FnOk P w K mg base CX0 2 f fd Zdo spCheckSteps:=by
 obtain ⟨t1,m1⟩:=M.ms
 refine F.ok scCheckSteps (fun vs H Q E h=>?_) (fun cdv A outer s H vs Q E hr1 h=>?_)
 ·obtain ⟨a,b,ds,ls,st,rfl,_⟩:=h
  rfl
 ·obtain ⟨a,b,ds,ls,st,rfl,ha,hb,hst,fd',fl,nd,ok,q⟩:=h
  have hsl:sizeLine=16777216:=sizeLine_eq
  refine ⟨_,(Zae (Zbc (PW.pt (Ze3 (Zav Zm7 (Zat Zbf (by rfl) T.len PySem.boot_len (Zaa (pv 0) Zad)) (Zdk (v:=.int 40) (by rfl) m1 ⟨_,rfl⟩) (Za0 _)) (Zdu (Zav Zm7 (Zat Zbf (by rfl) T.len PySem.boot_len (Zaa (pv 1) Zad)) (Zdk (v:=.int 40) (by rfl) m1 ⟨_,rfl⟩) (Za0 _))))) Zb2 Zau)
   (Zae (Zax (i:=2) scCheckSteps.nd rfl (Or.inl rfl) (Zaz Zj2 (Za7 Zcf (by rfl) T.list Zd5 (Zaa (pv 0) Zad)) (Za7 Zcf (by rfl) T.list Zd5 (Zaa (pv 1) Zad))))
   (Zae (Zk8 (i:=3) (N:=["step"]) (sc:=Zab Zbk) (own:=["step"]) (fr:=[]) (js:=[]) scCheckSteps.nd rfl rfl ⟨rfl,rfl,rfl,rfl,by decide +kernel,by decide +kernel,by decide +kernel,rfl,by decide +kernel⟩ rfl (Zbd (pv 2)) (fun _ _ _ _=>Zaq (i:=0) (show List.Nodup (["step"]:List Str) by decide +kernel) rfl (Or.inl rfl)) (fun _ _ _ _=>Zbm) (fun _ _ _ _=>(Zap (Zdb K rfl) (pv 0) Zaf (fun _ _=>rfl))))
   (Zae (Zbc (Zav Zjl (Zat Zi5 (by rfl) T.len PySem.boot_len (Zaa (Za7 (Zi3 rfl) (by rfl) T.set Zl2 (Zaa (pv 3) Zad)) Zad)) (Zat Zbf (by rfl) T.len PySem.boot_len (Zaa (pv 3) Zad)) (Za0 _)) Zb2 Zau)
   (Zag (Zcc PassesOwn.never rfl (Zbd (pv 2)) (Zaq (i:=4) scCheckSteps.nd rfl (Or.inl rfl))
    (Zae (Zbg (Zaj G_check_name hr1 (by rfl) D_check_name.m D_check_name.F.kp D_check_name.b .nil Zaw (Zaa (Zap Zar (pv 4) Zaf (fun _ _=>rfl)) Zad)))
   (Zag (Zbg (Zaj G_check_price hr1 (by rfl) D_check_price.m D_check_price.F.kp D_check_price.b .nil Zaw (Zaa (Zap Zar (pv 4) Zaf (fun _ _=>rfl)) Zad))))))))))),?_⟩
  refine ⟨_,rfl,_,_,rfl,.inl ⟨_,SqL.of ha,rfl⟩,_,_,rfl,rfl,_,rfl,?_⟩
  refine ite2 (fun z=>?_) (fun _=>?_)
  ·exfalso
   have:=of_decide_eq_true z
   lia
  refine ⟨_,rfl,_,_,rfl,.inl ⟨_,SqL.of hb,rfl⟩,_,_,rfl,rfl,_,rfl,?_⟩
  refine ite2 (fun z=>?_) (fun _=>?_)
  ·exfalso
   have:=of_decide_eq_true z
   lia
  refine ⟨_,rfl,a,_,rfl,.inl (SqL.of ha),fun l1 hl1=>?_⟩
  have s1:Same H (upd H l1 (.lst ds)):=Same.new hl1
  have e1:(upd H l1 (.lst ds)) l1=some (.lst ds):=Zac
  generalize (upd H l1 (.lst ds))=H1 at s1 e1 ⊢
  refine ⟨_,rfl,b,_,rfl,.inl (SqL.of (s1 _ _ hb)),fun l2 hl2=>?_⟩
  have s2:Same H1 (upd H1 l2 (.lst ls)):=Same.new hl2
  have e2:(upd H1 l2 (.lst ls)) l2=some (.lst ls):=Zac
  generalize (upd H1 l2 (.lst ls))=H2 at s2 e2 ⊢
  refine ⟨l1,l2,_,_,rfl,rfl,s2 _ _ e1,e2,by lia,fun l3 hl3=>?_⟩
  have s3:Same H2 (upd H2 l3 (.lst (ds ++ ls))):=Same.new hl3
  have e3:(upd H2 l3 (.lst (ds ++ ls))) l3=some (.lst (ds ++ ls)):=Zac
  generalize (upd H2 l3 (.lst (ds ++ ls)))=H3 at s3 e3 ⊢
  have s13:=(s1.trans s2).trans s3
  have hst3:=hst.mono fun v s _ ⟨t,r⟩=>(⟨t,r.same s13⟩:∃ t,StV H3 v s.1 s.2 t)
  have hsl2:=hst.len
  have hdl:(ds ++ ls).length ≤ 80:=by rw [List.length_append]; lia
  generalize ds ++ ls=xs at e3 hst3 hsl2 hdl
  -- the names
  refine ⟨_,rfl,l3,rfl,⟨_,SqL.of e3⟩,fun D hD=>?_⟩
  refine lcJ (n:=xs.length) (fun i ys H4=>ys=((st.take i).map (·.1)).map V.str∧Same H3 H4∧H4 D=some (.lst ys)) ⟨rfl,Same.new hD,Zac⟩
   (fun i ys H4 hi hh0=>by obtain ⟨_,s4,_⟩:=hh0; exact ⟨_,xs[i],SqL.of (s4 _ _ e3),by simp [hi]⟩) (fun ys H4 hh0=>by obtain ⟨_,s4,_⟩:=hh0; exact ⟨_,SqL.of (s4 _ _ e3),by simp⟩) ?_ ?_
  ·rintro i ys H4 y H5 hi ⟨rfl,s4,e4⟩ ⟨rfl,hy⟩
   refine Zch ?_
   obtain ⟨sp,hsp,hmem,t,a',rfl,et⟩:=hst3.at (hy _ (SqL.of (s4 _ _ e3)))
   have at0:atI [V.str sp.1,V.int sp.2,V.ref t] ((0:Nat):Int)=some (.str sp.1):=Zai rfl
   refine ⟨_,rfl,a',_,_,_,rfl,rfl,SqT.of (s4 _ _ et),at0,_,e4,by simp only [List.length_map,List.length_take]; lia,?_,s4.put hD,Zac⟩
   obtain ⟨hi2,e⟩:=List.getElem?_eq_some_iff.mp hsp
   rw [List.take_succ_eq_append_getElem hi2,List.map_append,List.map_append,e]
   rfl
  rintro ys H4 ⟨rfl,s4,e4⟩
  rw [hsl2,List.take_length] at e4
  have hnl:(st.map (·.1)).length=st.length:=List.length_map ..
  have ek:(st.map (·.1)).map V.str=((st.map (·.1)).map (Sum.inr:Str→Key)).map kV:=by
   rw [List.map_map,List.map_map,List.map_map]
   rfl
  have hdd:=Zk2 nd
  have hks:((st.map (·.1)).map (Sum.inr:Str→Key)).length=st.length:=by rw [List.length_map,List.length_map]
  refine ⟨_,rfl,D,(st.map (·.1)).map Sum.inr,rfl,SqL.of (by rw [← ek]; exact e4),by lia,fun st' hst'=>?_⟩
  have s5:Same H4 (upd H4 st' (setO P w st' (SK.dd (kAt ((st.map (·.1)).map (Sum.inr:Str→Key))) ((st.map (·.1)).map (Sum.inr:Str→Key)).length).length)):=Same.new hst'
  refine ⟨st',_,rfl,Zac,_,rfl,_,_,rfl,.inl ⟨_,SqL.of (s5 _ _ e4),rfl⟩,_,_,rfl,rfl,_,rfl,?_⟩
  have hml:((st.map (·.1)).map V.str).length=(st.map (·.1)).length:=List.length_map ..
  refine ite2 (fun hlt=>?_) (fun _=>?_)
  ·exfalso
   have:=of_decide_eq_true hlt
   rw [hml,hdd] at this
   lia
  have s45:=s4.trans s5
  have e35:=s45 _ _ e3
  refine ⟨_,rfl,l3,rfl,⟨_,SqL.of e35⟩,Zc6 (K:=K) (a:=l3) (xs:=xs) (fun i σ H6=>∃ v4:Option V,σ = [some (.ref a),some (.ref b),some (.ref l3),some (.ref D),v4]∧Same H3 H6) ⟨none,rfl,s45⟩ (fun i σ H6 _ hh0=>by obtain ⟨_,_,s6⟩:=hh0; exact SqL.of (s6 _ _ e3)) ?_ ?_⟩
  ·rintro i y σ H6 hy ⟨v4,rfl,s6⟩
   obtain ⟨sp,hsp,hmem,t,a',rfl,et⟩:=hst3.at hy
   have at0:atI [V.str sp.1,V.int sp.2,V.ref t] ((0:Nat):Int)=some (.str sp.1):=Zai rfl
   have at1:atI [V.str sp.1,V.int sp.2,V.ref t] ((1:Nat):Int)=some (.int sp.2):=Zai rfl
   have et6:=s6 _ _ et
   have o:=ok _ hmem
   refine ⟨_,rfl,a',_,_,_,rfl,rfl,SqT.of et6,at0,sp.1,rfl,o.n1,o.n2,?_⟩
   refine ⟨_,rfl,a',_,_,_,rfl,rfl,SqT.of et6,at1,sp.2,rfl,o.p1,o.p2,?_⟩
   exact ⟨_,rfl,s6⟩
  ·rintro σ H6 ⟨v4,rfl,s6⟩
   exact q H6 (s13.trans s6)
theorem ok_readlooks {f f1:Addr} {fd d1:FuncData} (F:Fun K "read_looks" "read_looks" Zb6 f fd) (T:Bl mg) (D_check_table:Df K mg "check_table" Zbj Zcm f1 d1) (G_check_table:FnOk P w K mg base CX0 1 f1 d1 Zcm spCheckTable):FnOk P w K mg base CX0 2 f fd Zec spReadLooks:=by
 refine F.ok scReadLooks (fun vs H Q E h=>?_) (fun cdv A outer s H vs Q E hr1 h=>?_)
 ·obtain ⟨m,a,us,ls,rfl,_⟩:=h
  rfl
 ·obtain ⟨m,a,us,ls,rfl,hm,ha,hl,ok,nd,few,q⟩:=h
  have hu:=Zgz hr1
  have hsl:sizeLine=16777216:=sizeLine_eq
  have hul:=hl.len
  refine ⟨_,(Zae (Zax (i:=2) scReadLooks.nd rfl (Or.inl rfl) Zfb)
   (Zae (Zcc PassesOwn.never rfl (Zbd (pv 1)) (Zaq (i:=3) scReadLooks.nd rfl (Or.inl rfl))
    (Zae (Zbg (Zaj G_check_table hr1 (by rfl) D_check_table.m D_check_table.F.kp D_check_table.b .nil Zaw (Zaa (pv 0) (Zaa (Zap Zar (pv 3) Zaf (fun _ _=>rfl)) (Zaa (Zap Zar (pv 3) Zaf (fun _ _=>rfl)) Zad)))))
   (Zag (Ze4 hu (pv 2) (Zap Zar (pv 3) Zaf (fun _ _=>rfl)) (Za7 Zcs (by rfl) T.tuple Zek (Zaa (Zap Zar (pv 3) Zaf (fun _ _=>rfl)) Zad)) rfl))))
   (Zag (Zan (pv 2))))),?_⟩
  intro d hd
  have s0:Same H (upd H d (.dK [])):=Same.new hd
  refine ⟨_,rfl,a,rfl,⟨_,SqL.of (s0 _ _ ha)⟩,Zc6 (K:=K) (a:=a) (xs:=us) (fun i σ H2=>∃ (v3:Option V) (kvs:List (Key × V)),σ = [some (.int (m:Int)),some (.ref a),some (.ref d),v3]∧Same H H2∧H2 d=some (.dK kvs)∧KA Loo.name (AnV H2) kvs (ls.take i)) ⟨none,[],rfl,s0,Zac,by rw [List.take_zero]; exact KA.nil⟩
   (fun i σ H2 _ hh0=>by obtain ⟨_,_,_,s2,_⟩:=hh0; exact SqL.of (s2 _ _ ha)) ?_ ?_⟩
  ·rintro i y σ H2 hy ⟨v3,kvs,rfl,s2,e2,ka⟩
   obtain ⟨l,hli,hlm,t,⟨a',rfl,et⟩,ht⟩:=hl.at hy
   have at0:atI [V.str l.name,V.int l.price,V.ref t] ((0:Nat):Int)=some (.str l.name):=Zai rfl
   have at2:atI [V.str l.name,V.int l.price,V.ref t] ((2:Nat):Int)=some (.ref t):=Zai rfl
   have et2:=s2 _ _ et
   have ht2:=s2 _ _ ht
   have htl:(l.tab.map oS).length=m:=by rw [List.length_map]; exact ok l hlm
   have hkl:=ka.len
   rw [List.length_take] at hkl
   obtain ⟨hi2,ei⟩:=List.getElem?_eq_some_iff.mp hli
   have hnone:valV kvs (Sum.inr l.name:Key)=none:=ka.none fun z=>by
    have hnd:((ls.take (i + 1)).map Loo.name).Nodup:=by
     rw [List.map_take]
     exact List.Sublist.nodup (List.take_sublist _ _) nd
    rw [List.take_succ_eq_append_getElem hi2,ei,List.map_append] at hnd
    exact (List.nodup_append.mp hnd).2.2 _ z l.name (List.mem_singleton.mpr rfl) rfl
   refine ⟨_,rfl,_,rfl,a',_,_,_,rfl,rfl,SqT.of et2,at0,_,rfl,a',_,_,_,rfl,rfl,SqT.of et2,at2,_,_,t,_,rfl,ht2,by rw [htl],?_⟩
   refine ⟨_,rfl,a',_,_,_,rfl,rfl,SqT.of et2,at2,t,_,rfl,.inl ⟨SqL.of ht2,fun tp htp=>?_⟩⟩
   have s3:Same H2 (upd H2 tp (.tup (l.tab.map oS))):=Same.new htp
   refine ⟨_,rfl,_,rfl,a',_,_,_,rfl,rfl,SqT.of (s3 _ _ et2),at0,d,_,rfl,DPut.k (k:=(Sum.inr l.name:Key)) (s3 _ _ e2) (by lia),?_⟩
   rw [Zea _ hnone]
   refine ⟨_,_,rfl,(s2.trans s3).put hd,Zac,?_⟩
   have dt:tp ≠ d:=(Zah e2 htp).symm
   rw [List.take_succ_eq_append_getElem hi2,ei]
   refine KA.snoc (ka.mono fun v x _ r=>r.keep fun b xs e=>?_) ⟨tp,rfl,by rw [Zak dt]; exact Zac⟩
   rw [Zak (Za5 e e2 (by intro z; cases z))]
   exact s3 _ _ e
  ·rintro σ H2 ⟨v3,kvs,rfl,s2,e2,ka⟩
   rw [hul,List.take_length] at ka
   exact ⟨_,rfl,q d kvs H2 s2 hd e2 ka⟩
theorem ok_readdeeds {f f1 f2 f3:Addr} {fd d1 d2 d3:FuncData} (F:Fun K "read_deeds" "read_deeds" Zbx f fd) (T:Bl mg) (D_check_table:Df K mg "check_table" Zbj Zcm f1 d1) (G_check_table:FnOk P w K mg base CX0 1 f1 d1 Zcm spCheckTable) (D_check_entry:Df K mg "check_entry" Zbl Zdq f2 d2) (G_check_entry:FnOk P w K mg base CX0 1 f2 d2 Zdq spCheckEntry) (D_set_of:Df K mg "set_of" Zeo Zf0 f3 d3) (G_set_of:FnOk P w K mg base CX0 1 f3 d3 Zf0 (spSetOf K)):FnOk P w K mg base CX0 2 f fd Zed spReadDeeds:=by
 refine F.ok scReadDeeds (fun vs H Q E h=>?_) (fun cdv A outer s H vs Q E hr1 h=>?_)
 ·obtain ⟨m,a,us,ds,rfl,_⟩:=h
  rfl
 ·obtain ⟨m,a,us,ds,rfl,hm,ha,hl,ok,nd,few,q⟩:=h
  have hu:=Zgz hr1
  have hsl:sizeLine=16777216:=sizeLine_eq
  have hul:=hl.len
  refine ⟨_,(Zae (Zax (i:=2) scReadDeeds.nd rfl (Or.inl rfl) Zfb)
   (Zae (Zcc PassesOwn.never rfl (Zbd (pv 1)) (Zaq (i:=3) scReadDeeds.nd rfl (Or.inl rfl))
    (Zae (Zax (i:=4) scReadDeeds.nd rfl (Or.inl rfl) (Zap Zar (pv 3) Zaf (fun _ _=>rfl)))
   (Zae (Zax (i:=5) scReadDeeds.nd rfl (Or.inl rfl) (Zap Zar (pv 3) Zaf (fun _ _=>rfl)))
   (Zae (Zbg (Zaj G_check_table hr1 (by rfl) D_check_table.m D_check_table.F.kp D_check_table.b .nil Zaw (Zaa (pv 0) (Zaa (pv 4) (Zaa (pv 5) Zad)))))
   (Zae (Zcc PassesOwn.never rfl (Zbd (pv 5)) (Zaq (i:=6) scReadDeeds.nd rfl (Or.inl rfl))
    (Zag (Zbg (Zaj G_check_entry hr1 (by rfl) D_check_entry.m D_check_entry.F.kp D_check_entry.b .nil Zaw (Zaa (pv 0) (Zaa (pv 4) (Zaa (pv 6) Zad)))))))
   (Zag (Ze4 hu (pv 2) (pv 4) (Za7 Zcs (by rfl) T.tuple Zek (Zaa (Zel (N:=["entry"]) (sc:=Zab Zbx) (own:=["entry"]) (fr:=[]) (js:=[]) ⟨rfl,rfl,rfl,rfl,by decide +kernel,by decide +kernel,by decide +kernel,rfl,by decide +kernel⟩ rfl (Zbd (pv 5)) (fun _ _ _ _=>Zaq (i:=0) (show List.Nodup (["entry"]:List Str) by decide +kernel) rfl (Or.inl rfl)) (fun _ _ _ _=>Zbm) (fun _ _ _ _=>(Zaj G_set_of hr1 (by rfl) D_set_of.m D_set_of.F.kp D_set_of.b .nil Zaw (Zaa (pv 0) Zad)))) Zad)) rfl)))))))
   (Zag (Zan (pv 2))))),?_⟩
  intro d hd
  have s0:Same H (upd H d (.dK [])):=Same.new hd
  refine ⟨_,rfl,a,rfl,⟨_,SqL.of (s0 _ _ ha)⟩,Zc6 (K:=K) (a:=a) (xs:=us) (fun i σ H2=>∃ (v3 v4 v5 v6:Option V) (kvs:List (Key × V)),σ = [some (.int (m:Int)),some (.ref a),some (.ref d),v3,v4,v5,v6]∧Same H H2∧H2 d=some (.dK kvs)∧KA Dee.name (OuV H2) kvs (ds.take i)) ⟨none,none,none,none,[],rfl,s0,Zac,by rw [List.take_zero]; exact KA.nil⟩
   (fun i σ H2 _ hh0=>by obtain ⟨_,_,_,_,_,_,s2,_⟩:=hh0; exact SqL.of (s2 _ _ ha)) ?_ ?_⟩
  ·rintro i y σ H2 hy ⟨v3,v4,v5,v6,kvs,rfl,s2,e2,ka⟩
   obtain ⟨l,hli,hlm,t,es,⟨a',rfl,et⟩,ht,he⟩:=hl.at hy
   have at0:atI [V.str l.name,V.int l.price,V.ref t] ((0:Nat):Int)=some (.str l.name):=Zai rfl
   have at2:atI [V.str l.name,V.int l.price,V.ref t] ((2:Nat):Int)=some (.ref t):=Zai rfl
   have et2:=s2 _ _ et
   have ht2:=s2 _ _ ht
   have o:=ok l hlm
   have hel:=he.len
   have hkl:=ka.len
   rw [List.length_take] at hkl
   obtain ⟨hi2,ei⟩:=List.getElem?_eq_some_iff.mp hli
   have hnone:valV kvs (Sum.inr l.name:Key)=none:=ka.none fun z=>by
    have hnd:((ds.take (i + 1)).map Dee.name).Nodup:=by
     rw [List.map_take]
     exact List.Sublist.nodup (List.take_sublist _ _) nd
    rw [List.take_succ_eq_append_getElem hi2,ei,List.map_append] at hnd
    exact (List.nodup_append.mp hnd).2.2 _ z l.name (List.mem_singleton.mpr rfl) rfl
   refine ⟨_,rfl,a',_,_,_,rfl,rfl,SqT.of et2,at0,?_⟩
   refine ⟨_,rfl,a',_,_,_,rfl,rfl,SqT.of et2,at2,?_⟩
   refine ⟨_,rfl,_,rfl,_,rfl,_,_,t,_,rfl,ht2,by rw [hel,o.len],?_⟩
   refine ⟨_,rfl,t,rfl,⟨_,SqL.of ht2⟩,Zc6 (K:=K) (a:=t) (xs:=es) (fun j σ H3=>(∃ v6':Option V,σ = [some (.int (m:Int)),some (.ref a),some (.ref d),some (.ref a'),some (.str l.name),some (.ref t),v6'])∧Same H2 H3) ⟨⟨_,rfl⟩,Same.refl _⟩ (fun j σ H3 _ hh0=>by obtain ⟨_,s3⟩:=hh0; exact SqL.of (s3 _ _ ht2)) ?_ ?_⟩
   ·rintro j y σ H3 hy' ⟨⟨v6',rfl⟩,s3⟩
    obtain ⟨ns,hns,hnm,b,rfl,eb⟩:=he.at hy'
    exact ⟨_,rfl,_,rfl,_,rfl,_,_,b,ns,rfl,(s2.trans s3) _ _ eb,o.up ns hnm,o.inn ns hnm,o.few ns hnm,fun H4 s4=>⟨⟨_,rfl⟩,s3.trans s4⟩⟩
   ·rintro σ H3 ⟨⟨v6',rfl⟩,s3⟩
    have ht3:=s3 _ _ ht2
    refine ⟨_,rfl,t,rfl,⟨_,SqL.of ht3⟩,fun D hD=>?_⟩
    refine lcJ (n:=es.length) (fun j ys H4=>ys=(l.tab.take j).map (fun n=>V.int (bt n:Nat))∧Same H3 H4∧H4 D=some (.lst ys)) ⟨rfl,Same.new hD,Zac⟩
     (fun j ys H4 hj hh0=>by obtain ⟨_,s4,_⟩:=hh0; exact ⟨_,es[j],SqL.of (s4 _ _ ht3),by simp [hj]⟩) (fun ys H4 hh0=>by obtain ⟨_,s4,_⟩:=hh0; exact ⟨_,SqL.of (s4 _ _ ht3),by simp⟩) ?_ ?_
    ·rintro j ys H4 y H5 hj ⟨rfl,s4,e4⟩ ⟨rfl,hy'⟩
     refine Zch ?_
     obtain ⟨ns,hns,hnm,b,rfl,eb⟩:=he.at (hy' _ (SqL.of (s4 _ _ ht3)))
     refine ⟨_,rfl,b,ns,rfl,SqL.of (((s2.trans s3).trans s4) _ _ eb),o.wd hm ns hnm,_,e4,by rw [List.length_map,List.length_take,o.len]; lia,?_,s4.put hD,Zac⟩
     obtain ⟨hj2,ej⟩:=List.getElem?_eq_some_iff.mp hns
     rw [List.take_succ_eq_append_getElem hj2,List.map_append,ej]
     rfl
    ·rintro ys H4 ⟨rfl,s4,e4⟩
     rw [hel,List.take_length] at e4
     refine ⟨D,_,rfl,.inl ⟨SqL.of e4,fun tp htp=>?_⟩⟩
     have s24:=s3.trans s4
     have s3':Same H4 (upd H4 tp (.tup (l.tab.map fun n=>V.int (bt n:Nat)))):=Same.new htp
     have e24:=s24 _ _ e2
     refine ⟨_,rfl,_,rfl,d,_,rfl,DPut.k (k:=(Sum.inr l.name:Key)) (s3' _ _ e24) (by lia),?_⟩
     rw [Zea _ hnone]
     refine ⟨_,_,_,_,_,rfl,((s2.trans s24).trans s3').put hd,Zac,?_⟩
     have dt:tp ≠ d:=(Zah e24 htp).symm
     rw [List.take_succ_eq_append_getElem hi2,ei]
     refine KA.snoc (ka.mono fun v x _ r=>r.keep fun b xs e=>?_) ⟨tp,rfl,by rw [Zak dt]; exact Zac⟩
     rw [Zak (Za5 e e2 (by intro z; cases z))]
     exact s3' _ _ (s24 _ _ e)
  ·rintro σ H2 ⟨v3,v4,v5,v6,kvs,rfl,s2,e2,ka⟩
   rw [hul,List.take_length] at ka
   exact ⟨_,rfl,q d kvs H2 s2 hd e2 ka⟩
theorem Zjp:bootBuiltins "enumerate" = some (.type "enumerate"):=by decide +kernel
theorem Zl4:bootBuiltins "dict" = some (.type "dict"):=by decide +kernel
theorem lcJ2 {J:It} {n:Nat} {D:Addr} {ρ:L2.St} {tc:TT} {te:TE} {fin:Hp→Prop} {H0:Hp} (Pv:Nat→List V→Hp→Prop) (h0:Pv 0 [] (upd H0 D (.lst [])))
  (go:∀ i ys H,i < n→Pv i ys H→J.go i H) (stop:∀ ys H,Pv n ys H→J.stop n H)
  (hs:∀ i ys H x H1,i < n→Pv i ys H→J.yld i H x H1→∃ (a:Addr) (u v:V),x=.ref a∧SqT K H1 a [u,v]∧tc (some u :: some v :: ρ) H1 fun b H3=>if b=true then te (some u :: some v :: ρ) H3 fun y H4=>∃ zs,H4 D=some (.lst zs)∧zs.length < sizeLine∧Pv (i + 1) (zs ++ [y]) (upd H4 D (.lst (zs ++ [y]))) else Pv (i + 1) ys H3)
  (hd:∀ ys H,Pv n ys H→fin H):∃ W:Nat→Nat→List V→Hp→Prop,(∃ m,W 0 m [] (upd H0 D (.lst [])))∧tLcB J D (none :: none :: ρ) (gTup K 2 (gCons (Zh3 0) (gCons (Zh3 1) gNil))) tc te fin W:=by
 refine ⟨fun i m ys H=>m=n - i∧i ≤ n∧Pv i ys H,⟨n,rfl,Nat.zero_le _,h0⟩,?_⟩
 rintro i m ys H ⟨rfl,hi,p⟩
 by_cases hlt:i < n
 ·refine .inr ⟨go i ys H hlt p,Pv (i + 1),fun ys' H' p'=>⟨n - (i + 1),by lia,rfl,hlt,p'⟩,fun x H1 y=>?_⟩
  obtain ⟨a,u,v,rfl,hq,h⟩:=hs i ys H x H1 hlt p y
  exact ⟨a,_,rfl,hq,rfl,_,_,rfl,_,_,rfl,rfl,sub_nones,h⟩
 ·have e:i=n:=by lia
  subst e
  exact .inl ⟨stop ys H p,hd ys H p⟩
theorem for_enum {a:Addr} {xs:List V} {g:TG} {tb:TS} {D:Ends} {σ:L2.St} {H:Hp} (Pv:Nat→L2.St→Hp→Prop) (h0:Pv 0 σ H) (hl:∀ i σ H,i ≤ xs.length→Pv i σ H→SqT K H a xs)
  (hs:∀ i x p σ H,xs[i]? = some x→Pv i σ H→H p=none→g (.ref p) σ (upd H p (.tup [.int (i:Nat),x])) fun σ2 H2=>tb { D with nx:=Pv (i + 1),ct:=Pv (i + 1),bk:=D.nx } σ2 H2) (hd:∀ σ H,Pv xs.length σ H→D.nx σ H) :
  ∃ W:Nat→Nat→L2.St→Hp→Prop,(∃ m,W 0 m σ H)∧∀ i m σ H,W i m σ H →
   ((Ite K a).stop i H∧D.nx σ H) ∨ ((Ite K a).go i H∧∃ N:L2.St→Hp→Prop,(∀ σ' H',N σ' H'→∃ m',m' < m∧W (i + 1) m' σ' H')∧∀ x H',(Ite K a).yld i H x H'→g x σ H' fun σ2 H2=>tb { D with nx:=N,ct:=N,bk:=D.nx } σ2 H2):=by
 refine ⟨fun i m σ H=>m=xs.length - i∧i ≤ xs.length∧Pv i σ H,⟨xs.length,by simp,Nat.zero_le _,h0⟩,?_⟩
 rintro i m σ H ⟨rfl,hi,p⟩
 have q:=hl i σ H hi p
 by_cases hlt:i < xs.length
 ·refine .inr ⟨⟨xs,xs[i],q,by simp [hlt]⟩,Pv (i + 1),fun σ' H' p'=>⟨xs.length - (i + 1),by lia,rfl,hlt,p'⟩,fun x H' y=>?_⟩
  obtain ⟨pp,x',rfl,hp,rfl,hx⟩:=y
  exact hs i x' pp σ H (hx xs q) p hp
 ·have e:i=xs.length:=by lia
  subst e
  exact .inl ⟨⟨xs,q,rfl⟩,hd σ H p⟩
theorem Zix {a:Addr} {o:Obj} {kvs:List (Key × V)} {g:TG} {tb:TS} {D:Ends} {σ:L2.St} {H:Hp} (Pv:Nat→L2.St→Hp→Prop) (h0:Pv 0 σ H) (hl:∀ i σ H,i ≤ kvs.length→Pv i σ H→H a=some (.frz o (.dK kvs)))
  (hs:∀ i kv p σ H,kvs[i]? = some kv→Pv i σ H→H p=none→g (.ref p) σ (upd H p (.tup [kV kv.1,kv.2])) fun σ2 H2=>tb { D with nx:=Pv (i + 1),ct:=Pv (i + 1),bk:=D.nx } σ2 H2) (hd:∀ σ H,Pv kvs.length σ H→D.nx σ H) :
  ∃ W:Nat→Nat→L2.St→Hp→Prop,(∃ m,W 0 m σ H)∧∀ i m σ H,W i m σ H →
   ((Iti a o kvs).stop i H∧D.nx σ H) ∨ ((Iti a o kvs).go i H∧∃ N:L2.St→Hp→Prop,(∀ σ' H',N σ' H'→∃ m',m' < m∧W (i + 1) m' σ' H')∧∀ x H',(Iti a o kvs).yld i H x H'→g x σ H' fun σ2 H2=>tb { D with nx:=N,ct:=N,bk:=D.nx } σ2 H2):=by
 refine ⟨fun i m σ H=>m=kvs.length - i∧i ≤ kvs.length∧Pv i σ H,⟨kvs.length,by simp,Nat.zero_le _,h0⟩,?_⟩
 rintro i m σ H ⟨rfl,hi,p⟩
 have q:=hl i σ H hi p
 by_cases hlt:i < kvs.length
 ·refine .inr ⟨⟨hlt,q⟩,Pv (i + 1),fun σ' H' p'=>⟨kvs.length - (i + 1),by lia,rfl,hlt,p'⟩,fun x H' y=>?_⟩
  obtain ⟨pp,k,v,rfl,hp,rfl,hx⟩:=y
  exact hs i (k,v) pp σ H hx p hp
 ·have e:i=kvs.length:=by lia
  subst e
  exact .inl ⟨⟨Nat.le_refl _,q⟩,hd σ H p⟩
noncomputable def ixs (tab:List (Option Str)) (s:Str):List Int:=((List.range tab.length).filter fun i=>decide (tab[i]? = some (some s))).map fun i:Nat=>(i:Int)
theorem Zh2 (tab:List (Option Str)) (x:Option Str) (s:Str):ixs (tab ++ [x]) s=ixs tab s ++ (if x=some s then [(tab.length:Int)] else []):=by
 unfold ixs
 rw [List.length_append,List.length_singleton,List.range_succ,List.filter_append,List.map_append]
 congr 1
 ·congr 1
  refine List.filter_congr fun i hi=>?_
  rw [List.getElem?_append_left (List.mem_range.mp hi)]
 ·by_cases h:x=some s
  ·rw [if_pos h,List.filter_cons_of_pos (by simp [h])]
   rfl
  ·rw [if_neg h,List.filter_cons_of_neg (by simp [h])]
   rfl
structure PsOk (tab:List (Option Str)) (ps:List (Str × V)):Prop where
 nd:(ps.map (·.1)).Nodup
 val:∀ p ∈ ps,p.2=V.int (bt (ixs tab p.1):Nat)
 has:∀ s,some s ∈ tab ↔ s ∈ ps.map (·.1)
noncomputable abbrev kf (p:Str × V):Key × V:=(Sum.inr p.1,p.2)
theorem PsOk.zero:PsOk [] []:=⟨List.nodup_nil,(fun p h=>nomatch h),fun s=>⟨(fun h=>nomatch h),(fun h=>nomatch h)⟩⟩
theorem PsOk.skip {tab:List (Option Str)} {ps:List (Str × V)} (h:PsOk tab ps):PsOk (tab ++ [none]) ps:=⟨h.nd,fun p hp=>by
 rw [Zh2,if_neg (by simp),List.append_nil]
 exact h.val p hp,fun s=>by
 rw [← h.has s]
 simp⟩
theorem Zic {ps:List (Str × V)} {s:Str} (h:s ∉ ps.map (·.1)):valV (ps.map kf) (Sum.inr s:Key)=none:=by
 cases e:valV (ps.map kf) (Sum.inr s:Key) with
 | none=>rfl
 | some v=>
  exfalso
  have:=Zjd e
  rw [List.map_map] at this
  obtain ⟨p,hp,ep⟩:=List.mem_map.mp this
  exact h (List.mem_map.mpr ⟨p,hp,Sum.inr.inj ep⟩)
theorem PsOk.old {tab:List (Option Str)} {ps:List (Str × V)} (h:PsOk tab ps) (s:Str):(valV (ps.map kf) (Sum.inr s:Key)).getD (.int 0)=V.int (bt (ixs tab s):Nat):=by
 by_cases hs:s ∈ ps.map (·.1)
 ·obtain ⟨p,hp,ep⟩:=List.mem_map.mp hs
  obtain ⟨i,hi⟩:=List.getElem?_of_mem hp
  have hk:(ps.map kf)[i]? = some (kf p):=by rw [List.getElem?_map,hi]; rfl
  have nd:((ps.map kf).map (·.1)).Nodup:=by
   rw [List.map_map,show ((fun x:Key × V=>x.1) ∘ kf)=(Sum.inr ∘ fun p:Str × V=>p.1) from rfl,← List.map_map]
   exact List.pairwise_map.mpr (List.Pairwise.imp (fun h e=>h (Sum.inr.inj e)) h.nd)
  have:=Zkv nd hk
  rw [show (kf p).1=(Sum.inr s:Key) from by rw [← ep]] at this
  rw [this,← ep]
  exact h.val p hp
 ·rw [Zic hs]
  have e:ixs tab s=[]:=by
   unfold ixs
   rw [List.filter_eq_nil_iff.mpr fun i hi z=>?_]
   ·rfl
   ·exact hs ((h.has s).mp (List.mem_of_getElem? (of_decide_eq_true z)))
  rw [e]
  rfl
theorem PsOk.put {tab:List (Option Str)} {ps:List (Str × V)} (h:PsOk tab ps) (s:Str):∃ ps':List (Str × V),putK (ps.map kf) (Sum.inr s:Key) (V.int (bt (ixs (tab ++ [some s]) s):Nat))=ps'.map kf∧PsOk (tab ++ [some s]) ps':=by
 generalize hv:V.int (bt (ixs (tab ++ [some s]) s):Nat)=v
 have other:∀ x,x ≠ s→ixs (tab ++ [some s]) x=ixs tab x:=fun x hx=>by
  rw [Zh2,if_neg (fun e=>hx (Option.some.inj e).symm),List.append_nil]
 have mem:∀ x,some x ∈ tab ++ [some s] ↔ (some x ∈ tab ∨ x=s):=fun x=>by
  rw [List.mem_append,List.mem_singleton,Option.some.injEq]
 by_cases hs:s ∈ ps.map (·.1)
 ·refine ⟨ps.map fun p=>if p.1=s then (p.1,v) else p,?_,?_⟩
  ·unfold putK
   rw [if_pos]
   ·rw [List.map_map,List.map_map]
    refine List.map_congr_left fun p _=>?_
    show (if (Sum.inr p.1:Key)=Sum.inr s then ((Sum.inr p.1:Key),v) else (Sum.inr p.1,p.2))=kf (if p.1=s then (p.1,v) else p)
    by_cases e:p.1=s
    ·rw [if_pos (by rw [e]),if_pos e]
    ·rw [if_neg (fun z=>e (Sum.inr.inj z)),if_neg e]
   ·obtain ⟨p,hp,ep⟩:=List.mem_map.mp hs
    exact List.any_eq_true.mpr ⟨kf p,List.mem_map.mpr ⟨p,hp,rfl⟩,decide_eq_true (by rw [← ep])⟩
  ·have ek:(ps.map fun p=>if p.1=s then (p.1,v) else p).map (·.1)=ps.map (·.1):=by
    rw [List.map_map]
    refine List.map_congr_left fun p _=>?_
    show (if p.1=s then (p.1,v) else p).1=p.1
    split <;> rfl
   refine ⟨by rw [ek]; exact h.nd,fun p hp=>?_,fun x=>?_⟩
   ·obtain ⟨p0,hp0,e⟩:=List.mem_map.mp hp
    by_cases e0:p0.1=s
    ·rw [if_pos e0] at e
     rw [← e]
     show v=_
     rw [← hv,e0]
    ·rw [if_neg e0] at e
     rw [← e,other _ e0]
     exact h.val p0 hp0
   ·rw [ek,mem,h.has]
    exact ⟨fun z=>z.elim id (fun e=>by rw [e]; exact hs),.inl⟩
 ·refine ⟨ps ++ [(s,v)],?_,?_⟩
  ·rw [Zea _ (Zic hs),List.map_append]
   rfl
  ·refine ⟨?_,fun p hp=>?_,fun x=>?_⟩
   ·rw [List.map_append]
    exact List.nodup_append.mpr ⟨h.nd,by simp,fun a ha b hb e=>hs (by
     have hb':b=s:=List.mem_singleton.mp hb
     rw [← hb',← e]
     exact ha)⟩
   ·rcases (List.mem_append.mp hp) with z | z
    ·rw [other _ (fun e=>hs (by rw [← e]; exact List.mem_map.mpr ⟨p,z,rfl⟩))]
     exact h.val p z
    ·rw [List.mem_singleton.mp z]
     exact hv.symm
   ·rw [mem,h.has,List.map_append,List.mem_append]
    simp
inductive spParted (vs:List V) (H:Hp) (Q:VK) (E0_:XK):Prop
 | mk (t:Addr) (tab:List (Option Str)) (as:List Str) (c0:vs=[.ref t]) (c1:H t=some (.tup (tab.map oS))) (c2:tab.length ≤ 200) (c3:(∀ s,some s ∈ tab→s ∈ as)) (c4:as.length ≤ 3) (c5:as.Nodup) (c6:∀ (r:Addr) (ro:Obj) (ts:List Addr) (ps zs:List (Str × V)) (H':Hp),Same H H'→ro.dict=none→H' r=some (.frz ro (.tup (ts.map V.ref)))→PrAt H' ts zs→zs.Perm ps→ltP zs=true→PsOk tab ps→Q (.ref r) H'):spParted  vs H Q E0_
noncomputable abbrev Zhv:List Str:=["answers"]
noncomputable abbrev nParted:List Str:=["answers", "found", "world", "answer"]
theorem scParted:FnScope nParted Zhv (Zab Zdw):=⟨rfl,rfl,rfl,by decide +kernel,rfl,by decide +kernel,by decide +kernel⟩
theorem ok_parted {f f1:Addr} {fd d1:FuncData} (F:Fun K "parted" "parted" Zdw f fd) (T:Bl mg) (D_set_of:Df K mg "set_of" Zeo Zf0 f1 d1) (G_set_of:FnOk P w K mg base CX0 1 f1 d1 Zf0 (spSetOf K)):FnOk P w K mg base CX0 2 f fd Zhv spParted:=by
 refine F.ok scParted (fun vs H Q E h=>?_) (fun cdv A outer s H vs Q E hr1 h=>?_)
 ·obtain ⟨t,tab,as,rfl,_⟩:=h
  rfl
 ·obtain ⟨t,tab,as,rfl,ht,hl,has,a3,and',q⟩:=h
  have hu:=Zgz hr1
  have hsl:sizeLine=16777216:=sizeLine_eq
  refine ⟨_,(Zae (Zax (i:=1) scParted.nd rfl (Or.inl rfl) Zfb)
   (Zae (Zcc PassesOwn.never rfl (Zji (by rfl) T.enumerate Zjp (Zaa (pv 0) Zad)) (Ze9 rfl (Za8 (Zaq (i:=2) scParted.nd rfl (Or.inl rfl)) (Za8 (Zaq (i:=3) scParted.nd rfl (Or.inl rfl)) Zdj)))
    (Zag (Zbc (Zav Zjk (pv 3) Zgf (Za0 _)) (Zag (Ze4 hu (pv 1) (pv 3) (Zaz op_or (pe_dget2 hu (pv 1) (pv 3) Zaf ⟨by rfl,by rfl,by rfl,by rfl⟩) (Zaj G_set_of hr1 (by rfl) D_set_of.m D_set_of.F.kp D_set_of.b .nil Zaw (Zaa (Zc0 (Zaa (pv 2) Zad)) Zad))) rfl)) Zau)))
   (Zag (Zan (Za7 call_tupF (by rfl) T.tuple Zek (Zaa (Zat (call_sortedI rfl) (by rfl) T.sorted Zi7 (Zaa (Zik PySem.F.plainAttrs_dict PySem.F.slot_dict_items PySem.F.type_dict_items mt_items (pv 1)) Zad)) Zad)))))),?_⟩
  intro d hd
  have s0:Same H (upd H d (.dK [])):=Same.new hd
  refine ⟨_,rfl,t,rfl,⟨_,SqT.of (s0 _ _ ht)⟩,for_enum (K:=K) (a:=t) (xs:=tab.map oS) (fun i σ H2=>∃ (v2 v3:Option V) (ps:List (Str × V)),σ = [some (.ref t),some (.ref d),v2,v3]∧Same H H2∧H2 d=some (.dK (ps.map kf))∧PsOk (tab.take i) ps) ⟨none,none,[],rfl,s0,Zac,by rw [List.take_zero]; exact PsOk.zero⟩
   (fun i σ H2 _ hh0=>by obtain ⟨_,_,_,_,s2,_⟩:=hh0; exact SqT.of (s2 _ _ ht)) ?_ ?_⟩
  ·rintro i x p σ H2 hx ⟨v2,v3,ps,rfl,s2,e2,po⟩ hp
   rw [List.getElem?_map] at hx
   cases hti:tab[i]? with
   | none=>rw [hti] at hx; cases hx
   | some o=>
    rw [hti] at hx
    have hx':x=oS o:=(Option.some.inj hx).symm
    subst hx'
    obtain ⟨hi,ei⟩:=List.getElem?_eq_some_iff.mp hti
    have htk:tab.take (i + 1)=tab.take i ++ [o]:=by rw [List.take_succ_eq_append_getElem hi,ei]
    have s3:Same H2 (upd H2 p (.tup [.int (i:Nat),oS o])):=Same.new hp
    refine ⟨p,_,rfl,SqT.of Zac,rfl,_,_,rfl,_,_,rfl,rfl,?_⟩
    generalize (upd H2 p (.tup [.int (i:Nat),oS o]))=H3 at s3 ⊢
    have e3:=s3 _ _ e2
    cases o with
    | none=>
     refine ⟨_,rfl,rfl,_,rfl,?_⟩
     refine iteF ⟨_,_,ps,rfl,s2.trans s3,e3,?_⟩
     rw [htk]
     exact po.skip
    | some sa=>
     refine ⟨_,rfl,rfl,_,rfl,?_⟩
     refine iteT ?_
     refine ⟨_,rfl,d,rfl,.inl ⟨_,.inl e3⟩,_,rfl,_,DGet.k (k:=(Sum.inr sa:Key)) e3,?_⟩
     rw [po.old sa]
     refine ⟨_,rfl,by show 1 ≤ sizeLine; lia,fun lb hlb=>?_⟩
     have s4:Same H3 (upd H3 lb (.lst [.int (i:Nat)])):=Same.new hlb
     refine ⟨lb,[(i:Int)],rfl,SqL.of Zac,fun n hn=>by rw [List.mem_singleton.mp hn]; exact ⟨by lia,by lia⟩,_,_,rfl,rfl,?_⟩
     have hbo:Builtin.bitOr ((bt (ixs (tab.take i) sa):Nat):Int) ((bt [(i:Int)]:Nat):Int)=((bt (ixs (tab.take (i + 1)) sa):Nat):Int):=by
      rw [Zmq,htk,Zh2,if_pos rfl,List.length_take,Nat.min_eq_left (by lia),Zl1,show bt [(i:Int)]=2 ^ ((i:Int)).toNat from by unfold bt; simp]
     rw [hbo]
     obtain ⟨ps',e',po'⟩:=po.put sa
     rw [← htk] at e' po'
     have hpl:(ps.map kf).length ≤ 200:=by
      have h1:(ps.map (·.1)).length ≤ as.length:=List.Nodup.length_le_of_subset po.nd fun z hz=>has z (List.mem_of_mem_take ((po.has z).mpr hz))
      rw [List.length_map] at h1 ⊢
      lia
     refine ⟨_,rfl,_,rfl,d,_,rfl,DPut.k (k:=(Sum.inr sa:Key)) (s4 _ _ e3) (by lia),?_⟩
     rw [e']
     exact ⟨_,_,ps',rfl,((s2.trans s3).trans s4).put hd,Zac,po'⟩
  ·rintro σ H2 ⟨v2,v3,ps,rfl,s2,e2,po⟩
   rw [List.length_map,List.take_length] at po
   have h3:ps.length ≤ 3:=by
    have h1:(ps.map (·.1)).length ≤ as.length:=List.Nodup.length_le_of_subset po.nd fun z hz=>has z ((po.has z).mpr hz)
    rw [List.length_map] at h1
    lia
   refine ⟨_,rfl,.inr (.inr (.inl ⟨rfl,.inl ⟨_,e2⟩⟩)),d,_,rfl,rfl,e2,fun v hv=>?_⟩
   have s3:Same H2 (upd H2 v (Zdd v d)):=Same.new hv
   refine ⟨v,d,ps,rfl,Zac,s3 _ _ e2,h3,fun l ts zs H4 s4 hl4 pm lt el pr=>?_⟩
   refine ⟨l,_,rfl,SqL.of el,fun r ro hr hd0=>?_⟩
   have s5:Same H4 (upd H4 r (.frz ro (.tup (ts.map V.ref)))):=Same.new hr
   exact q r ro ts ps zs _ (((s2.trans s3).trans s4).trans s5) hd0 Zac ⟨pr.1,fun i a p h1 h2=>s5 _ _ (pr.2 i a p h1 h2)⟩ pm lt po
noncomputable abbrev Zdn:List Str:=["outs", "answers"]
noncomputable abbrev nDoableSets:List Str:=["outs", "answers", "found", "name", "sets", "told"]
theorem scDoableSets:FnScope nDoableSets Zdn (Zab Zbh):=⟨rfl,rfl,rfl,by decide +kernel,rfl,by decide +kernel,by decide +kernel⟩
noncomputable def doI {α:Type} (p:α→Bool) (tab:List α):List Int:=((List.range tab.length).filter fun i=>(tab[i]?.map p).getD false).map fun i:Nat=>(i:Int)
theorem Zkg {α:Type} (p:α→Bool) (tab:List α) (x:α):doI p (tab ++ [x])=doI p tab ++ (if p x=true then [(tab.length:Int)] else []):=by
 unfold doI
 rw [List.length_append,List.length_singleton,List.range_succ,List.filter_append,List.map_append]
 congr 1
 ·congr 1
  refine List.filter_congr fun i hi=>?_
  rw [List.getElem?_append_left (List.mem_range.mp hi)]
 ·by_cases h:p x=true
  ·rw [if_pos h,List.filter_cons_of_pos (by simp [h])]
   rfl
  ·rw [if_neg h,List.filter_cons_of_neg (by simp [h])]
   rfl
theorem Zm0 {α:Type} (p:α→Bool) {tab:List α} (h:tab.length ≤ 200):Wd (doI p tab):=fun n hn=>by
 unfold doI at hn
 obtain ⟨i,hi,rfl⟩:=List.mem_map.mp hn
 have:=List.mem_range.mp (List.mem_filter.mp hi).1
 exact ⟨by lia,by lia⟩
theorem doI_len {α:Type} (p:α→Bool) (tab:List α):(doI p tab).length ≤ tab.length:=by
 unfold doI
 rw [List.length_map]
 exact Nat.le_trans (List.length_filter_le _ _) (by rw [List.length_range]; exact Nat.le_refl _)
inductive spDoable (vs:List V) (H:Hp) (Q:VK) (E0_:XK):Prop
 | mk (a b:Addr) (ka kb:List (Key × V)) (ds:List Dee) (ls:List Loo) (o2:Obj) (c0:vs=[.ref a,.ref b]) (c1:a ≠ b) (c2:H a=some (.dK ka)) (c3:H b=some (.frz o2 (.dK kb))) (c4:KA Dee.name (OuV H) ka ds) (c5:KA Loo.name (AnV H) kb ls) (c6:(ds.map Dee.name ++ ls.map Loo.name).Nodup) (c7:ds.length ≤ 40) (c8:ls.length ≤ 40) (c9:(∀ d ∈ ds,d.tab.length ≤ 200)) (c10:(∀ l ∈ ls,l.tab.length ≤ 200)) (c11:∀ (d:Addr) (kvs:List (Key × V)) (H':Hp) (o1:Obj),(∀ c u,H c=some u→c ≠ a→H' c=some u)→H d=none→H' d=some (.dK kvs)→H' a=some (.frz o1 (.dK ka)) →     KA (fun p:Str × Nat=>p.1) (fun v p=>v=V.int (p.2:Int)) kvs (ds.map (fun d=>(d.name,bt (doI (fun n=>decide (bt n ≠ 0)) d.tab))) ++ ls.map fun l=>(l.name,bt (doI Option.isSome l.tab)))→Q (.ref d) H'):spDoable  vs H Q E0_
theorem KA.snoc2 {kvs:List (Key × V)} {L:List (Str × Nat)} {n:Str} {k:Nat} (h:KA (fun p:Str × Nat=>p.1) (fun v p=>v=V.int (p.2:Int)) kvs L):KA (fun p:Str × Nat=>p.1) (fun v p=>v=V.int (p.2:Int)) (kvs ++ [(Sum.inr n,V.int (k:Int))]) (L ++ [(n,k)]):=KA.snoc (d:=(n,k)) h rfl
theorem Zd7 {α:Type} {xs:List α} {i:Nat} {x:α} (h:xs[i]? = some x):xs.take (i + 1)=xs.take i ++ [x]:=by
 (obtain ⟨hi,e⟩:=List.getElem?_eq_some_iff.mp h)
 rw [List.take_succ_eq_append_getElem hi,e]
theorem Zmz {α:Type} (p:α→Bool) {K:PySem.W.Frag} {t D:Addr} {xs:List V} {tab:List α} {H3:Hp} (hlen:xs.length=tab.length) (ht3:H3 t=some (.tup xs)) (hl:tab.length ≤ 200) {fin:Hp→Prop} {tc:TT} {ρ:L2.St} (hD:H3 D=none)
  (test:∀ (j:Nat) (x:V) (y:α) (H4:Hp) (A B:Hp→Prop),xs[j]? = some x→tab[j]? = some y→(p y=true→A H4)→(¬ p y=true→B H4)→tc (some (.int (j:Nat)) :: some x :: ρ) H4 fun b H5=>if b=true then A H5 else B H5)
  (q:∀ H4:Hp,Same H3 H4→H4 D=some (.lst ((doI p tab).map V.int))→fin H4):∃ W:Nat→Nat→List V→Hp→Prop,(∃ m,W 0 m [] (upd H3 D (.lst [])))∧tLcB (Ite K t) D (none :: none :: ρ) (gTup K 2 (gCons (Zh3 0) (gCons (Zh3 1) gNil))) tc (tVar 0) fin W:=by
 have hsl:sizeLine=16777216:=sizeLine_eq
 refine lcJ2 (K:=K) (n:=xs.length) (fun j ys H4=>ys=(doI p (tab.take j)).map V.int∧Same H3 H4∧H4 D=some (.lst ys)) ⟨rfl,Same.new hD,Zac⟩
  (fun j ys H4 hj hh0=>by obtain ⟨_,s4,_⟩:=hh0; exact ⟨_,xs[j],SqT.of (s4 _ _ ht3),by simp [hj]⟩) (fun ys H4 hh0=>by obtain ⟨_,s4,_⟩:=hh0; exact ⟨_,SqT.of (s4 _ _ ht3),rfl⟩) ?_ ?_
 ·rintro j ys H4 x H5 hj ⟨rfl,s4,e4⟩ ⟨pp,x',rfl,hpp,rfl,hx⟩
  have hx2:=hx _ (SqT.of (s4 _ _ ht3))
  have hjt:j < tab.length:=by lia
  have hy:tab[j]? = some tab[j]:=List.getElem?_eq_getElem hjt
  have s5:Same H4 (upd H4 pp (.tup [.int (j:Nat),x'])):=Same.new hpp
  have htk:tab.take (j + 1)=tab.take j ++ [tab[j]]:=Zd7 hy
  have hlk:(tab.take j).length=j:=by rw [List.length_take]; lia
  have hle:=doI_len p (tab.take j)
  refine ⟨pp,_,_,rfl,SqT.of Zac,test j x' _ _ _ _ hx2 hy (fun h=>?_) (fun h=>⟨?_,s4.trans s5,s5 _ _ e4⟩)⟩
  ·refine ⟨_,rfl,_,s5 _ _ e4,by rw [List.length_map]; lia,?_,(s4.trans s5).put hD,Zac⟩
   rw [htk,Zkg,if_pos h,List.map_append,hlk]
   rfl
  ·rw [htk,Zkg,if_neg h,List.append_nil]
 ·rintro ys H4 ⟨rfl,s4,e4⟩
  rw [hlen,List.take_length] at e4
  exact q H4 s4 e4
theorem ok_doable {f f1:Addr} {fd d1:FuncData} (F:Fun K "doable_sets" "doable_sets" Zbh f fd) (T:Bl mg) (D_set_of:Df K mg "set_of" Zeo Zf0 f1 d1) (G_set_of:FnOk P w K mg base CX0 1 f1 d1 Zf0 (spSetOf K)):FnOk P w K mg base CX0 2 f fd Zdn spDoable:=by
 refine F.ok scDoableSets (fun vs H Q E h=>?_) (fun cdv A outer s H vs Q E hr1 h=>?_)
 ·obtain ⟨a,b,ka,kb,ds,ls,o2,rfl,_⟩:=h
  rfl
 ·obtain ⟨a,b,ka,kb,ds,ls,o2,rfl,ab,ha,hb,hka,hkb,nd,fd',fl,td,tl,q⟩:=h
  have hu:=Zgz hr1
  have hsl:sizeLine=16777216:=sizeLine_eq
  refine ⟨_,(Zae (Zax (i:=2) scDoableSets.nd rfl (Or.inl rfl) Zfb)
   (Zae (Zcc PassesOwn.never rfl (Zge (Zhs (pv 0))) (Ze9 rfl (Za8 (Zaq (i:=3) scDoableSets.nd rfl (Or.inl rfl)) (Za8 (Zaq (i:=4) scDoableSets.nd rfl (Or.inl rfl)) Zdj)))
    (Zag (Ze4 hu (pv 2) (pv 3) (Zaj G_set_of hr1 (by rfl) D_set_of.m D_set_of.F.kp D_set_of.b .nil Zaw (Zaa (Zel (N:=["world", "some"]) (sc:=Zab Zbh) (own:=["world", "some"]) (fr:=[]) (js:=[]) ⟨rfl,rfl,rfl,rfl,by decide +kernel,by decide +kernel,by decide +kernel,rfl,by decide +kernel⟩ rfl (Zji (by rfl) T.enumerate Zjp (Zaa (pv 4) Zad)) (fun _ _ _ _=>Zm9 K rfl (Ze9 (n:=2) rfl (Za8 (Zaq (i:=0) (show List.Nodup (["world", "some"]:List Str) by decide +kernel) rfl (Or.inl rfl)) (Za8 (Zaq (i:=1) (show List.Nodup (["world", "some"]:List Str) by decide +kernel) rfl (Or.inl rfl)) Zdj)))) (fun _ _ _ _=>Zjh (Zav Zf5 (pv 1) Zaf (Za0 _))) (fun _ _ _ _=>(pv 0))) Zad)) rfl)))
   (Zae (Zcc PassesOwn.never rfl (Zge (Zhs (pv 1))) (Ze9 rfl (Za8 (Zaq (i:=3) scDoableSets.nd rfl (Or.inl rfl)) (Za8 (Zaq (i:=5) scDoableSets.nd rfl (Or.inl rfl)) Zdj)))
    (Zag (Ze4 hu (pv 2) (pv 3) (Zaj G_set_of hr1 (by rfl) D_set_of.m D_set_of.F.kp D_set_of.b .nil Zaw (Zaa (Zel (N:=["world", "answer"]) (sc:=Zab Zbh) (own:=["world", "answer"]) (fr:=[]) (js:=[]) ⟨rfl,rfl,rfl,rfl,by decide +kernel,by decide +kernel,by decide +kernel,rfl,by decide +kernel⟩ rfl (Zji (by rfl) T.enumerate Zjp (Zaa (pv 5) Zad)) (fun _ _ _ _=>Zm9 K rfl (Ze9 (n:=2) rfl (Za8 (Zaq (i:=0) (show List.Nodup (["world", "answer"]:List Str) by decide +kernel) rfl (Or.inl rfl)) (Za8 (Zaq (i:=1) (show List.Nodup (["world", "answer"]:List Str) by decide +kernel) rfl (Or.inl rfl)) Zdj)))) (fun _ _ _ _=>Zjh (Zav Zjk (pv 1) Zgf (Za0 _))) (fun _ _ _ _=>(pv 0))) Zad)) rfl)))
   (Zag (Zan (pv 2)))))),?_⟩
  intro d hd
  have s0:Same H (upd H d (.dK [])):=Same.new hd
  have da:a ≠ d:=Zah ha hd
  have db:b ≠ d:=Zah hb hd
  refine ⟨_,rfl,a,ka,rfl,.inl (s0 _ _ ha),fun v hv=>?_⟩
  have s1:Same (upd H d (.dK [])) (upd (upd H d (.dK [])) v (Zdd v a)):=Same.new hv
  have s01:=s0.trans s1
  have vd:d ≠ v:=fun z=>by rw [← z,Zac] at hv; cases hv
  refine ⟨v,a,ka,rfl,Zac,.inl ⟨s01 _ _ ha,fun o1=>?_⟩⟩
  have kp0:∀ c u,H c=some u→c ≠ a→(upd (upd (upd H d (.dK [])) v (Zdd v a)) a (.frz o1 (.dK ka))) c=some u:=fun c u e hc=>by rw [Zak hc]; exact s01 _ _ e
  have ea0:(upd (upd (upd H d (.dK [])) v (Zdd v a)) a (.frz o1 (.dK ka))) a=some (.frz o1 (.dK ka)):=Zac
  have ed0:(upd (upd (upd H d (.dK [])) v (Zdd v a)) a (.frz o1 (.dK ka))) d=some (.dK []):=by rw [Zak da.symm,Zak vd]; exact Zac
  generalize (upd (upd (upd H d (.dK [])) v (Zdd v a)) a (.frz o1 (.dK ka)))=H1 at kp0 ea0 ed0 ⊢
  have hkl:=hka.len
  have hkl2:=hkb.len
  refine Zix (a:=a) (o:=o1) (kvs:=ka) (fun i σ H2=>∃ (v3 v4 v5:Option V) (kvs:List (Key × V)),σ = [some (.ref a),some (.ref b),some (.ref d),v3,v4,v5]∧(∀ c u,H c=some u→c ≠ a→H2 c=some u)∧H2 a=some (.frz o1 (.dK ka))∧H2 d=some (.dK kvs)∧KA (fun p:Str × Nat=>p.1) (fun v p=>v=V.int (p.2:Int)) kvs ((ds.map (fun d=>(d.name,bt (doI (fun n=>decide (bt n ≠ 0)) d.tab)))).take i)) ⟨none,none,none,[],rfl,kp0,ea0,ed0,by rw [List.take_zero]; exact KA.nil⟩
   (fun i σ H2 _ hh0=>by obtain ⟨_,_,_,_,_,_,e,_⟩:=hh0; exact e) ?_ ?_
  ·rintro i kv p σ H2 hkv ⟨v3,v4,v5,kvs,rfl,kp,ea,ed,kk⟩ hp
   have hil:i < ds.length:=by
    have:=(List.getElem?_eq_some_iff.mp hkv).1
    lia
   have hdi:ds[i]? = some ds[i]:=List.getElem?_eq_getElem hil
   obtain ⟨ek,t,ev,ht⟩:=hka.got i kv _ hkv hdi
   have hdm:ds[i] ∈ ds:=List.getElem_mem hil
   generalize ds[i]=de at hdi ek ht hdm
   obtain ⟨k0,v0⟩:=kv
   have ek':k0=Sum.inr de.name:=ek
   have ev':v0=V.ref t:=ev
   subst ek' ev'
   have s3:Same H2 (upd H2 p (.tup [kV (Sum.inr de.name:Key),V.ref t])):=Same.new hp
   refine ⟨p,_,rfl,SqT.of Zac,rfl,_,_,rfl,_,_,rfl,rfl,?_⟩
   have ta:t ≠ a:=Za5 ht ha (by intro z; cases z)
   have ht3:=s3 _ _ (kp _ _ ht ta)
   have ed3:=s3 _ _ ed
   have ea3:=s3 _ _ ea
   have kp3:∀ c u,H c=some u→c ≠ a→(upd H2 p (.tup [kV (Sum.inr de.name:Key),V.ref t])) c=some u:=fun c u e hc=>s3 _ _ (kp c u e hc)
   generalize (upd H2 p (.tup [kV (Sum.inr de.name:Key),V.ref t]))=H3 at ht3 ed3 ea3 kp3 ⊢
   have htl:=td de hdm
   refine ⟨_,rfl,t,rfl,⟨_,SqT.of ht3⟩,fun D hD=>?_⟩
   refine Zmz (fun n=>decide (bt n ≠ 0)) (List.length_map ..) ht3 htl hD (fun j x y H4 A B hx hy h1 h2=>?_) fun H4 s4 e4=>?_
   ·rw [List.getElem?_map,hy] at hx
    have hx':x=V.int (bt y:Nat):=(Option.some.inj hx).symm
    subst hx'
    refine ⟨_,rfl,rfl,_,rfl,?_⟩
    refine ite2 (fun z=>h1 (decide_eq_true fun e=>?_)) (fun z=>h2 fun e=>z ?_)
    ·rw [e] at z
     exact absurd z (by decide)
    ·have:=of_decide_eq_true e
     show (!decide (V.int ((bt y:Nat):Int)=V.int 0))=true
     rw [decide_eq_false fun w=>this (by have:=V.int.inj w; lia)]
     rfl
   ·refine ⟨D,_,rfl,SqL.of e4,Zm0 _ htl,?_⟩
    have ed4:=s4 _ _ ed3
    have hnone:valV kvs (Sum.inr de.name:Key)=none:=kk.none fun z=>?_
    ·have hkl4:=kk.len
     rw [List.length_take,List.length_map] at hkl4
     refine ⟨_,rfl,_,rfl,d,_,rfl,DPut.k (k:=(Sum.inr de.name:Key)) ed4 (by lia),?_⟩
     rw [Zea _ hnone]
     refine ⟨_,_,_,_,rfl,fun c u e hc=>?_,?_,Zac,?_⟩
     ·rw [Zak (fun z=>by rw [z,hd] at e; cases e)]
      exact s4 _ _ (kp3 c u e hc)
     ·rw [Zak da]
      exact s4 _ _ ea3
     ·rw [Zd7 (x:=(de.name,bt (doI (fun n=>decide (bt n ≠ 0)) de.tab))) (by rw [List.getElem?_map,hdi]; rfl)]
      exact kk.snoc2
    ·rw [← List.map_take,List.map_map] at z
     have nd1:=(List.nodup_append.mp nd).1
     have hnd:((ds.take (i + 1)).map Dee.name).Nodup:=by
      rw [List.map_take]
      exact List.Sublist.nodup (List.take_sublist _ _) nd1
     rw [Zd7 hdi,List.map_append] at hnd
     exact (List.nodup_append.mp hnd).2.2 _ z de.name (List.mem_singleton.mpr rfl) rfl
  ·rintro σ H2 ⟨v3,v4,v5,kvs0,rfl,kp,ea,ed,kk0⟩
   rw [hkl,List.take_of_length_le (by rw [List.length_map]; exact Nat.le_refl _)] at kk0
   have hb2:=kp _ _ hb ab.symm
   refine ⟨_,rfl,b,kb,rfl,.inr ⟨o2,hb2⟩,fun v hv=>?_⟩
   have s1:Same H2 (upd H2 v (Zdd v b)):=Same.new hv
   refine ⟨v,b,kb,rfl,Zac,.inr ⟨o2,s1 _ _ hb2,?_⟩⟩
   have hb1:=s1 _ _ hb2
   have kp1:∀ c u,H c=some u→c ≠ a→(upd H2 v (Zdd v b)) c=some u:=fun c u e hc=>s1 _ _ (kp c u e hc)
   have ea1:=s1 _ _ ea
   have ed1:=s1 _ _ ed
   generalize (upd H2 v (Zdd v b))=H1 at kp1 ea1 ed1 hb1 ⊢
   refine Zix (a:=b) (o:=o2) (kvs:=kb) (fun i σ H2=>∃ (v3 v4 v5:Option V) (kvs:List (Key × V)),σ = [some (.ref a),some (.ref b),some (.ref d),v3,v4,v5]∧(∀ c u,H c=some u→c ≠ a→H2 c=some u)∧H2 a=some (.frz o1 (.dK ka))∧H2 d=some (.dK kvs)∧KA (fun p:Str × Nat=>p.1) (fun v p=>v=V.int (p.2:Int)) kvs (ds.map (fun d=>(d.name,bt (doI (fun n=>decide (bt n ≠ 0)) d.tab))) ++ (ls.map fun l=>(l.name,bt (doI Option.isSome l.tab))).take i)) ⟨_,_,_,kvs0,rfl,kp1,ea1,ed1,by rw [List.take_zero,List.append_nil]; exact kk0⟩
    (fun i σ H2 _ hh0=>by obtain ⟨_,_,_,_,_,k,_⟩:=hh0; exact k _ _ hb ab.symm) ?_ ?_
   ·rintro i kv p σ H2 hkv ⟨v3,v4,v5,kvs,rfl,kp,ea,ed,kk⟩ hp
    have hil:i < ls.length:=by
     have:=(List.getElem?_eq_some_iff.mp hkv).1
     lia
    have hdi:ls[i]? = some ls[i]:=List.getElem?_eq_getElem hil
    obtain ⟨ek,t,ev,ht⟩:=hkb.got i kv _ hkv hdi
    have hdm:ls[i] ∈ ls:=List.getElem_mem hil
    generalize ls[i]=de at hdi ek ht hdm
    obtain ⟨k0,v0⟩:=kv
    have ek':k0=Sum.inr de.name:=ek
    have ev':v0=V.ref t:=ev
    subst ek' ev'
    have s3:Same H2 (upd H2 p (.tup [kV (Sum.inr de.name:Key),V.ref t])):=Same.new hp
    refine ⟨p,_,rfl,SqT.of Zac,rfl,_,_,rfl,_,_,rfl,rfl,?_⟩
    have ta:t ≠ a:=Za5 ht ha (by intro z; cases z)
    have ht3:=s3 _ _ (kp _ _ ht ta)
    have ed3:=s3 _ _ ed
    have ea3:=s3 _ _ ea
    have kp3:∀ c u,H c=some u→c ≠ a→(upd H2 p (.tup [kV (Sum.inr de.name:Key),V.ref t])) c=some u:=fun c u e hc=>s3 _ _ (kp c u e hc)
    generalize (upd H2 p (.tup [kV (Sum.inr de.name:Key),V.ref t]))=H3 at ht3 ed3 ea3 kp3 ⊢
    have htl:=tl de hdm
    refine ⟨_,rfl,t,rfl,⟨_,SqT.of ht3⟩,fun D hD=>?_⟩
    refine Zmz Option.isSome (List.length_map ..) ht3 htl hD (fun j x y H4 A B hx hy h1 h2=>?_) fun H4 s4 e4=>?_
    ·rw [List.getElem?_map,hy] at hx
     have hx':x=oS y:=(Option.some.inj hx).symm
     subst hx'
     refine ⟨_,rfl,rfl,_,rfl,?_⟩
     cases y with
     | none=>exact iteF (h2 (by decide))
     | some z=>exact iteT (h1 rfl)
    ·refine ⟨D,_,rfl,SqL.of e4,Zm0 _ htl,?_⟩
     have ed4:=s4 _ _ ed3
     have hnone:valV kvs (Sum.inr de.name:Key)=none:=kk.none fun z=>?_
     ·have hkl4:=kk.len
      rw [List.length_append,List.length_take,List.length_map,List.length_map] at hkl4
      refine ⟨_,rfl,_,rfl,d,_,rfl,DPut.k (k:=(Sum.inr de.name:Key)) ed4 (by lia),?_⟩
      rw [Zea _ hnone]
      refine ⟨_,_,_,_,rfl,fun c u e hc=>?_,?_,Zac,?_⟩
      ·rw [Zak (fun z=>by rw [z,hd] at e; cases e)]
       exact s4 _ _ (kp3 c u e hc)
      ·rw [Zak da]
       exact s4 _ _ ea3
      ·rw [Zd7 (x:=(de.name,bt (doI Option.isSome de.tab))) (by rw [List.getElem?_map,hdi]; rfl),← List.append_assoc]
       exact kk.snoc2
     ·rw [List.map_append,List.map_map,← List.map_take,List.map_map] at z
      have hnd:(ds.map Dee.name ++ (ls.take (i + 1)).map Loo.name).Nodup:=by
       rw [List.map_take]
       exact List.Sublist.nodup (List.Sublist.append (List.Sublist.refl _) (List.take_sublist _ _)) nd
      rw [Zd7 hdi,List.map_append,← List.append_assoc] at hnd
      exact (List.nodup_append.mp hnd).2.2 _ z de.name (List.mem_singleton.mpr rfl) rfl
   ·rintro σ H2 ⟨v3,v4,v5,kvs,rfl,kp,ea,ed,kk⟩
    rw [hkl2,List.take_of_length_le (by rw [List.length_map]; exact Nat.le_refl _)] at kk
    exact ⟨_,rfl,q d kvs H2 o1 kp hd ed ea kk⟩
structure Cl (K:PySem.W.Frag) (C:Addr):Prop where
 cl:Cls K C
 n1:NoAttr K C "many"
 n2:NoAttr K C "prices"
 n3:NoAttr K C "told_outs"
 n4:NoAttr K C "told_answers"
 n5:NoAttr K C "told_parts"
 n6:NoAttr K C "told_doable"
noncomputable def f1 (m:Int):List (Str × V):=putF "many" (.int m) []
noncomputable def f2 (m:Int) (p:Addr):List (Str × V):=putF "prices" (.ref p) (f1 m)
noncomputable def f3 (m:Int) (p o:Addr):List (Str × V):=putF "told_outs" (.ref o) (f2 m p)
noncomputable def f4 (m:Int) (p o a:Addr):List (Str × V):=putF "told_answers" (.ref a) (f3 m p o)
noncomputable def f5 (m:Int) (p o a q:Addr):List (Str × V):=putF "told_parts" (.ref q) (f4 m p o a)
noncomputable def f6 (m:Int) (p o a q d:Addr):List (Str × V):=putF "told_doable" (.ref d) (f5 m p o a q)
structure ChOk (m:Nat) (ds:List Dee) (ls:List Loo) (as:List Str):Prop where
 m1:1 ≤ m
 m2:m ≤ 200
 fd:ds.length ≤ 40
 fl:ls.length ≤ 40
 nd:(ds.map Dee.name ++ ls.map Loo.name).Nodup
 so:∀ d ∈ ds,StOk (d.name,d.price)
 sl:∀ l ∈ ls,StOk (l.name,l.price)
 de:∀ d ∈ ds,DeOk m d
 lo:∀ l ∈ ls,l.tab.length=m
 an:∀ l ∈ ls,∀ s,some s ∈ l.tab→s ∈ as
 a3:as.length ≤ 3
 ad:as.Nodup
noncomputable abbrev Zbb (ds:List Dee) (ls:List Loo):List (Str × Int):=ds.map (fun d=>(d.name,d.price)) ++ ls.map fun l=>(l.name,l.price)
noncomputable abbrev doOf (ds:List Dee) (ls:List Loo):List (Str × Nat):=ds.map (fun d=>(d.name,bt (doI (fun n=>decide (bt n ≠ 0)) d.tab))) ++ ls.map fun l=>(l.name,bt (doI Option.isSome l.tab))
inductive PaV (H:Hp) (v:V) (l:Loo):Prop
 | mk (r:Addr) (ro:Obj) (ts:List Addr) (ps zs:List (Str × V)) (e:v=.ref r) (d0:ro.dict=none) (h:H r=some (.frz ro (.tup (ts.map V.ref)))) (hp:PrAt H ts zs) (pm:zs.Perm ps) (lt:ltP zs=true) (ok:PsOk l.tab ps):PaV H v l
structure ChAt (C:Addr) (H:Hp) (x:Addr) (m:Nat) (ds:List Dee) (ls:List Loo):Prop where
 ex:∃ (dx p o a q d:Addr) (kp ko ka kq kd:List (Key × V)) (o1 o2:Obj),H x=some (.ins C dx (f6 (m:Int) p o a q d))∧H p=some (.dK kp)∧H o=some (.frz o1 (.dK ko))∧H a=some (.frz o2 (.dK ka))∧H q=some (.dK kq)∧H d=some (.dK kd) ∧
  KA (fun s:Str × Int=>s.1) (fun v s=>v=V.int s.2) kp (Zbb ds ls)∧KA Dee.name (OuV H) ko ds∧KA Loo.name (AnV H) ka ls∧KA Loo.name (PaV H) kq ls∧KA (fun s:Str × Nat=>s.1) (fun v s=>v=V.int (s.2:Int)) kd (doOf ds ls)
inductive spInitC (C:Addr) (vs:List V) (H:Hp) (Q:VK) (E0_:XK):Prop
 | mk (x dx a b:Addr) (m:Nat) (us ws:List V) (ds:List Dee) (ls:List Loo) (as:List Str) (c0:vs=[.ref x,.int (m:Int),.ref a,.ref b]) (c1:H x=some (.ins C dx [])) (c2:H a=some (.lst us)) (c3:H b=some (.lst ws)) (c4:A2 (DeV H) us ds) (c5:A2 (LoV H) ws ls) (c6:ChOk m ds ls as) (c7:∀ H':Hp,(∀ c u,H c=some u→c ≠ x→H' c=some u)→ChAt C H' x m ds ls→Q .non H'):spInitC C vs H Q E0_
noncomputable abbrev Zm6:List Str:=["self", "many", "deeds", "looks"]
noncomputable abbrev nInit:List Str:=["self", "many", "deeds", "looks"]
theorem scInit:FnScope nInit Zm6 (Zab Zif):=⟨rfl,rfl,rfl,by decide +kernel,rfl,by decide +kernel,by decide +kernel⟩
theorem StV.kx {H H':Hp} {x C dx:Addr} {fs:List (Str × V)} (k:∀ c u,H c=some u→c ≠ x→H' c=some u) (hx:H x=some (.ins C dx fs)) {v:V} {n:Str} {p:Int} {t:Addr} (h:StV H v n p t):StV H' v n p t:=by
 obtain ⟨a,e,h⟩:=h
 exact ⟨a,e,k _ _ h (Za5 h hx (by intro z; cases z))⟩
theorem EnV.kx {H H':Hp} {x C dx:Addr} {fs:List (Str × V)} (k:∀ c u,H c=some u→c ≠ x→H' c=some u) (hx:H x=some (.ins C dx fs)) {v:V} {ns:List Int} (h:EnV H v ns):EnV H' v ns:=by
 obtain ⟨a,e,h⟩:=h
 exact ⟨a,e,k _ _ h (Za5 h hx (by intro z; cases z))⟩
theorem DeV.kx {H H':Hp} {x C dx:Addr} {fs:List (Str × V)} (k:∀ c u,H c=some u→c ≠ x→H' c=some u) (hx:H x=some (.ins C dx fs)) {v:V} {d:Dee} (h:DeV H v d):DeV H' v d:=by
 obtain ⟨t,es,st,ht,he⟩:=h
 exact ⟨t,es,st.kx k hx,k _ _ ht (Za5 ht hx (by intro z; cases z)),he.mono fun v t _ r=>r.kx k hx⟩
theorem LoV.kx {H H':Hp} {x C dx:Addr} {fs:List (Str × V)} (k:∀ c u,H c=some u→c ≠ x→H' c=some u) (hx:H x=some (.ins C dx fs)) {v:V} {l:Loo} (h:LoV H v l):LoV H' v l:=by
 obtain ⟨t,st,ht⟩:=h
 exact ⟨t,st.kx k hx,k _ _ ht (Za5 ht hx (by intro z; cases z))⟩
theorem A2.map {α β:Type} {R:V→α→Prop} {S:V→β→Prop} {g:α→β} {vs:List V} {ts:List α} (h:A2 R vs ts) (m:∀ v t,R v t→S v (g t)):A2 S vs (ts.map g):=⟨by rw [List.length_map]; exact h.len,fun i v t hv ht=>by
 rw [List.getElem?_map] at ht
 cases e:ts[i]? with
 | none=>rw [e] at ht; cases ht
 | some x=>
  rw [e] at ht
  cases ht
  exact m v x (h.got i v x hv e)⟩
theorem putAll_go (kvs:List (Key × V)):∀ acc:List (Key × V),((acc ++ kvs).map (·.1)).Nodup→kvs.foldl (fun m kv=>putK m kv.1 kv.2) acc=acc ++ kvs:=by
 induction kvs with
 | nil=>exact fun acc _=>(List.append_nil _).symm
 | cons p r ih=>
  intro acc nd
  have e:acc ++ p :: r=(acc ++ [p]) ++ r:=by simp
  rw [List.foldl_cons,Zea,ih]
  ·rw [e]
  ·rw [← e]; exact nd
  ·cases hv:valV acc p.1 with
   | none=>rfl
   | some v=>
    exfalso
    rw [List.map_append,List.map_cons] at nd
    exact (List.nodup_append.mp nd).2.2 _ (Zjd hv) p.1 List.mem_cons_self rfl
theorem Zii {kvs:List (Key × V)} (nd:(kvs.map (·.1)).Nodup):L2.putAll kvs=kvs:=by
 show kvs.foldl (fun m kv=>putK m kv.1 kv.2) []=kvs
 rw [putAll_go kvs [] (by simpa using nd)]
 rfl
theorem Zlj {α:Type} {g:α→Str} {xs:List α} (nd:(xs.map g).Nodup):(xs.map fun x=>(Sum.inr (g x):Key)).Nodup:=by
 have:(xs.map fun x=>(Sum.inr (g x):Key))=(xs.map g).map Sum.inr:=by rw [List.map_map]; rfl
 rw [this]
 exact List.pairwise_map.mpr (List.Pairwise.imp (fun h e=>h (Sum.inr.inj e)) nd)
theorem Zcx (ds:List Dee) (ls:List Loo):(Zbb ds ls).map (fun s=>s.1)=ds.map Dee.name ++ ls.map Loo.name:=by
 unfold Zbb
 rw [List.map_append,List.map_map,List.map_map]
 rfl
theorem PaV.same {H H':Hp} (s:Same H H') {v:V} {l:Loo} (h:PaV H v l):PaV H' v l:=by
 obtain ⟨r,ro,ts,ps,zs,e,d0,h,hp,pm,lt,ok⟩:=h
 exact ⟨r,ro,ts,ps,zs,e,d0,s _ _ h,⟨hp.1,fun i a p h1 h2=>s _ _ (hp.2 i a p h1 h2)⟩,pm,lt,ok⟩
theorem PaV.keep {H H':Hp} (k:∀ b xs,H b=some (.tup xs)→H' b=some (.tup xs)) (k2:∀ b o xs,H b=some (.frz o (.tup xs))→H' b=some (.frz o (.tup xs))) {v:V} {l:Loo} (h:PaV H v l):PaV H' v l:=by
 obtain ⟨r,ro,ts,ps,zs,e,d0,h,hp,pm,lt,ok⟩:=h
 exact ⟨r,ro,ts,ps,zs,e,d0,k2 _ _ _ h,⟨hp.1,fun i a p h1 h2=>k _ _ (hp.2 i a p h1 h2)⟩,pm,lt,ok⟩
theorem KA.of_map {α:Type} {nm:α→Str} {R:V→α→Prop} {g:α→V} (xs:List α) (r:∀ x,R (g x) x):KA nm R (xs.map fun x=>((Sum.inr (nm x):Key),g x)) xs:=⟨List.length_map ..,fun i kv d h1 h2=>by
 rw [List.getElem?_map,h2] at h1
 cases h1
 exact ⟨rfl,r d⟩⟩
theorem ok_init {f C f1' f2' f3' f4' f5' f6':Addr} {fd d1 d2 d3 d4 d5 d6:FuncData} (F:Fun K "__init__" "Chart.__init__" Zif f fd) (L:Cl K C) (T:Bl mg) (D_check_many:Df K mg "check_many" Zcb Zei f1' d1) (G_check_many:FnOk P w K mg base CX0 1 f1' d1 Zei spCheckMany) (D_check_steps:Df K mg "check_steps" Zbk Zdo f2' d2) (G_check_steps:FnOk P w K mg base CX0 2 f2' d2 Zdo spCheckSteps)
  (D_read_deeds:Df K mg "read_deeds" Zbx Zed f3' d3) (G_read_deeds:FnOk P w K mg base CX0 2 f3' d3 Zed spReadDeeds) (D_read_looks:Df K mg "read_looks" Zb6 Zec f4' d4) (G_read_looks:FnOk P w K mg base CX0 2 f4' d4 Zec spReadLooks) (D_parted:Df K mg "parted" Zdw Zhv f5' d5) (G_parted:FnOk P w K mg base CX0 2 f5' d5 Zhv spParted)
  (D_doable_sets:Df K mg "doable_sets" Zbh Zdn f6' d6) (G_doable_sets:FnOk P w K mg base CX0 2 f6' d6 Zdn spDoable):FnOk P w K mg base CX0 3 f fd Zm6 (spInitC C):=by
 refine F.ok scInit (fun vs H Q E h=>?_) (fun cdv A outer s H vs Q E hr2 h=>?_)
 ·obtain ⟨x,dx,a,b,m,us,ws,ds,ls,as,rfl,_⟩:=h
  rfl
 ·obtain ⟨x,dx,a,b,m,us,ws,ds,ls,as,rfl,hx,ha,hb,hd,hl,ok,q⟩:=h
  have hr1:Room 1 _:=hr2.mono (by decide)
  have hsl:sizeLine=16777216:=sizeLine_eq
  refine ⟨_,(Zae (Zbg (Zaj G_check_many hr1 (by rfl) D_check_many.m D_check_many.F.kp D_check_many.b .nil Zaw (Zaa (pv 1) Zad)))
   (Zae (Zbg (Zaj G_check_steps hr2 (by rfl) D_check_steps.m D_check_steps.F.kp D_check_steps.b .nil Zaw (Zaa (pv 2) (Zaa (pv 3) Zad))))
   (Zae (Zet (pv 0) (pv 1) rfl)
   (Zae (Zet (pv 0) (Za7 (Zhf rfl) (by rfl) T.dict Zl4 (Zaa (Zel (N:=["step"]) (sc:=Zab Zif) (own:=["step"]) (fr:=[]) (js:=[]) ⟨rfl,rfl,rfl,rfl,by decide +kernel,by decide +kernel,by decide +kernel,rfl,by decide +kernel⟩ rfl (Zbd (Zaz Zj2 (Za7 Zcf (by rfl) T.list Zd5 (Zaa (pv 2) Zad)) (Za7 Zcf (by rfl) T.list Zd5 (Zaa (pv 3) Zad)))) (fun _ _ _ _=>Zaq (i:=0) (show List.Nodup (["step"]:List Str) by decide +kernel) rfl (Or.inl rfl)) (fun _ _ _ _=>Zbm) (fun _ _ _ _=>(Zbu (Zaa (Zap (Zdb K rfl) (pv 0) Zaf (fun _ _=>rfl)) (Zaa (Zap (Zdb K rfl) (pv 0) Zaf (fun _ _=>rfl)) Zad))))) Zad)) rfl)
   (Zae (Zet (pv 0) (Zaj G_read_deeds hr2 (by rfl) D_read_deeds.m D_read_deeds.F.kp D_read_deeds.b .nil Zaw (Zaa (pv 1) (Zaa (pv 2) Zad))) rfl)
   (Zae (Zet (pv 0) (Zaj G_read_looks hr2 (by rfl) D_read_looks.m D_read_looks.F.kp D_read_looks.b .nil Zaw (Zaa (pv 1) (Zaa (pv 3) Zad))) rfl)
   (Zae (Zet (pv 0) (Za7 (Zhf rfl) (by rfl) T.dict Zl4 (Zaa (Zel (N:=["name", "answers"]) (sc:=Zab Zif) (own:=["name", "answers"]) (fr:=[]) (js:=[]) ⟨rfl,rfl,rfl,rfl,by decide +kernel,by decide +kernel,by decide +kernel,rfl,by decide +kernel⟩ rfl (Zge (Zhs (Zcd (pv 0) rfl))) (fun _ _ _ _=>Zm9 K rfl (Ze9 (n:=2) rfl (Za8 (Zaq (i:=0) (show List.Nodup (["name", "answers"]:List Str) by decide +kernel) rfl (Or.inl rfl)) (Za8 (Zaq (i:=1) (show List.Nodup (["name", "answers"]:List Str) by decide +kernel) rfl (Or.inl rfl)) Zdj)))) (fun _ _ _ _=>Zbm) (fun _ _ _ _=>(Zbu (Zaa (pv 0) (Zaa (Zaj G_parted hr2 (by rfl) D_parted.m D_parted.F.kp D_parted.b .nil Zaw (Zaa (pv 1) Zad)) Zad))))) Zad)) rfl)
   (Zag (Zet (pv 0) (Zaj G_doable_sets hr2 (by rfl) D_doable_sets.m D_doable_sets.F.kp D_doable_sets.b .nil Zaw (Zaa (Zcd (pv 0) rfl) (Zaa (Zcd (pv 0) rfl) Zad))) rfl))))))))),?_⟩
  -- the checks
  refine ⟨_,rfl,(m:Int),rfl,by have:=ok.m1; lia,by have:=ok.m2; lia,?_⟩
  have hst:A2 (fun v s=>∃ t,StV H v s.1 s.2 t) (us ++ ws) (Zbb ds ls):=A2.app (hd.map fun v d r=>by obtain ⟨t,es,st,_⟩:=r; exact ⟨t,st⟩) (hl.map fun v l r=>by obtain ⟨t,st,_⟩:=r; exact ⟨t,st⟩)
  have fd':=ok.fd
  have fl':=ok.fl
  have hdl:=hd.len
  have hll:=hl.len
  have snd:((Zbb ds ls).map (fun s=>s.1)).Nodup:=by rw [Zcx]; exact ok.nd
  refine ⟨_,rfl,_,rfl,a,b,us,ws,Zbb ds ls,rfl,ha,hb,hst,by lia,by lia,snd,fun s hs=>?_,fun H1 s1=>?_⟩
  ·rcases (List.mem_append.mp hs) with z | z
   ·obtain ⟨d,hd',rfl⟩:=List.mem_map.mp z
    exact ok.so d hd'
   ·obtain ⟨l,hl',rfl⟩:=List.mem_map.mp z
    exact ok.sl l hl'
  -- the number of worlds
  have hx1:=s1 _ _ hx
  refine ⟨_,rfl,_,rfl,x,C,dx,[],rfl,hx1,L.cl,L.n1,by show 0 < 1000; decide,?_⟩
  have kc2:∀ c u,H c=some u→c ≠ x→(upd H1 x (.ins C dx (putF "many" (.int (m:Int)) []))) c=some u:=fun c u e hc=>by rw [Zak hc]; exact s1 _ _ e
  have xc2:(upd H1 x (.ins C dx (putF "many" (.int (m:Int)) []))) x=some (.ins C dx (putF "many" (.int (m:Int)) [])):=Zac
  generalize (upd H1 x (.ins C dx (putF "many" (.int (m:Int)) [])))=H2 at kc2 xc2 ⊢
  have ax:a ≠ x:=Za5 ha hx (by intro z; cases z)
  have bx:b ≠ x:=Za5 hb hx (by intro z; cases z)
  -- the prices
  refine ⟨_,rfl,a,_,rfl,.inl (SqL.of (kc2 _ _ ha ax)),fun l1 hl1=>?_⟩
  have s3:Same H2 (upd H2 l1 (.lst us)):=Same.new hl1
  have e3:(upd H2 l1 (.lst us)) l1=some (.lst us):=Zac
  generalize (upd H2 l1 (.lst us))=H3 at s3 e3 ⊢
  refine ⟨_,rfl,b,_,rfl,.inl (SqL.of (s3 _ _ (kc2 _ _ hb bx))),fun l2 hl2=>?_⟩
  have s4:Same H3 (upd H3 l2 (.lst ws)):=Same.new hl2
  have e4:(upd H3 l2 (.lst ws)) l2=some (.lst ws):=Zac
  generalize (upd H3 l2 (.lst ws))=H4 at s4 e4 ⊢
  refine ⟨l1,l2,_,_,rfl,rfl,s4 _ _ e3,e4,by lia,fun l3 hl3=>?_⟩
  have s5:Same H4 (upd H4 l3 (.lst (us ++ ws))):=Same.new hl3
  have e5:(upd H4 l3 (.lst (us ++ ws))) l3=some (.lst (us ++ ws)):=Zac
  generalize (upd H4 l3 (.lst (us ++ ws)))=H5 at s5 e5 ⊢
  have s25:=(s3.trans s4).trans s5
  have kc5:∀ c u,H c=some u→c ≠ x→H5 c=some u:=fun c u e hc=>s25 _ _ (kc2 c u e hc)
  have hst5:A2 (fun v s=>∃ t,StV H5 v s.1 s.2 t) (us ++ ws) (Zbb ds ls):=hst.mono fun v s _ ⟨t,r⟩=>⟨t,r.kx kc5 hx⟩
  have hsl2:=hst.len
  have hul:(us ++ ws).length ≤ 80:=by rw [List.length_append]; lia
  refine ⟨l3,rfl,⟨_,SqL.of e5⟩,fun D hD=>?_⟩
  refine lcJ (n:=(us ++ ws).length) (fun i ys H6=>∃ ts:List Addr,ys=ts.map V.ref∧ts.length=i∧(∀ (j:Nat) t s,ts[j]? = some t→(Zbb ds ls)[j]? = some s→H6 t=some (.tup [.str s.1,.int s.2]))∧Same H5 H6∧H6 D=some (.lst ys)) ⟨[],rfl,rfl,(fun j t s h=>by cases h),Same.new hD,Zac⟩
   (fun i ys H6 hi ⟨_,_,_,_,s6,_⟩=>⟨_,(us ++ ws)[i],SqL.of (s6 _ _ e5),List.getElem?_eq_getElem hi⟩) (fun ys H6 hh0=>by obtain ⟨_,_,_,_,s6,_⟩:=hh0; exact ⟨_,SqL.of (s6 _ _ e5),Nat.le_refl _⟩) ?_ ?_
  ·rintro i ys H6 y H7 hi ⟨ts,rfl,hts,ht,s6,e6⟩ ⟨rfl,hy⟩
   refine Zch ?_
   obtain ⟨sp,hsp,hmem,t,a',rfl,et⟩:=hst5.at (hy _ (SqL.of (s6 _ _ e5)))
   have at0:atI [V.str sp.1,V.int sp.2,V.ref t] ((0:Nat):Int)=some (.str sp.1):=Zai rfl
   have at1:atI [V.str sp.1,V.int sp.2,V.ref t] ((1:Nat):Int)=some (.int sp.2):=Zai rfl
   have et6:=s6 _ _ et
   refine ⟨_,rfl,a',_,_,_,rfl,rfl,SqT.of et6,at0,_,rfl,a',_,_,_,rfl,rfl,SqT.of et6,at1,by show 2 ≤ sizeLine; lia,fun tp htp=>?_⟩
   have s7:Same H7 (upd H7 tp (.tup [.str sp.1,.int sp.2])):=Same.new htp
   have tD:tp ≠ D:=(Zah e6 htp).symm
   refine ⟨_,s7 _ _ e6,by rw [List.length_map]; lia,ts ++ [tp],by rw [List.map_append]; rfl,by rw [List.length_append,hts]; rfl,fun j t' s' h1 h2=>?_,(s6.trans s7).put hD,Zac⟩
   by_cases hj:j < ts.length
   ·rw [List.getElem?_append_left hj] at h1
    have:=ht j t' s' h1 h2
    rw [Zak (Za5 this e6 (by intro z; cases z))]
    exact s7 _ _ this
   ·rw [List.getElem?_append_right (by lia)] at h1
    have h0:j - ts.length=0:=by
     have:=(List.getElem?_eq_some_iff.mp h1).1
     simp at this
     lia
    rw [h0] at h1
    cases h1
    have ej:j=i:=by lia
    subst ej
    rw [hsp] at h2
    cases h2
    rw [Zak tD]
    exact Zac
  rintro ys H6 ⟨ts,rfl,hts,ht,s6,e6⟩
  have nk:(((Zbb ds ls).map fun s=>((Sum.inr s.1:Key),V.int s.2)).map (·.1)).Nodup:=by
   rw [List.map_map]
   exact Zlj (g:=fun s:Str × Int=>s.1) snd
  refine ⟨D,ts,(Zbb ds ls).map fun s=>((Sum.inr s.1:Key),V.int s.2),rfl,e6,by rw [List.length_map,hts,hsl2],by rw [List.length_map,← hsl2]; lia,fun i t k v h1 h2=>?_,fun dp hdp=>?_⟩
  ·rw [List.getElem?_map] at h2
   cases hs:(Zbb ds ls)[i]? with
   | none=>rw [hs] at h2; cases h2
   | some s=>
    rw [hs] at h2
    cases h2
    exact ht i t s h1 hs
  rw [Zii nk]
  have kaP:KA (fun s:Str × Int=>s.1) (fun v s=>v=V.int s.2) ((Zbb ds ls).map fun s=>((Sum.inr s.1:Key),V.int s.2)) (Zbb ds ls):=KA.of_map (nm:=fun s:Str × Int=>s.1) (g:=fun s:Str × Int=>V.int s.2) _ fun _=>rfl
  generalize ((Zbb ds ls).map fun s=>((Sum.inr s.1:Key),V.int s.2))=kp at kaP ⊢
  have s7:Same H6 (upd H6 dp (.dK kp)):=Same.new hdp
  have s27:=(s25.trans s6).trans s7
  have xp:x ≠ dp:=fun z=>by
   have:=(s25.trans s6) _ _ xc2
   rw [z,hdp] at this
   cases this
  refine ⟨_,rfl,x,C,dx,_,rfl,s27 _ _ xc2,L.cl,L.n2,by show 1 < 1000; decide,?_⟩
  have kcA:∀ c u,H c=some u→c ≠ x→(upd (upd H6 dp (.dK kp)) x (.ins C dx (putF "prices" (.ref dp) (putF "many" (.int (m:Int)) [])))) c=some u:=fun c u e hc=>by rw [Zak hc]; exact s27 _ _ (kc2 c u e hc)
  have xcA:(upd (upd H6 dp (.dK kp)) x (.ins C dx (putF "prices" (.ref dp) (putF "many" (.int (m:Int)) [])))) x=some (.ins C dx (f2 (m:Int) dp)):=Zac
  have pA:(upd (upd H6 dp (.dK kp)) x (.ins C dx (putF "prices" (.ref dp) (putF "many" (.int (m:Int)) [])))) dp=some (.dK kp):=by rw [Zak xp.symm]; exact Zac
  generalize (upd (upd H6 dp (.dK kp)) x (.ins C dx (putF "prices" (.ref dp) (putF "many" (.int (m:Int)) []))))=HA at kcA xcA pA ⊢
  -- the deeds
  have ndD:=(List.nodup_append.mp ok.nd).1
  have ndL:=(List.nodup_append.mp ok.nd).2.1
  refine ⟨_,rfl,_,rfl,m,a,us,ds,rfl,ok.m2,kcA _ _ ha ax,hd.mono (fun v d _ r=>r.kx kcA hx),ok.de,ndD,fd',fun dO kO HB sB fB eB kaO=>?_⟩
  have xO:x ≠ dO:=fun z=>by rw [z,fB] at xcA; cases xcA
  refine ⟨_,rfl,x,C,dx,_,rfl,sB _ _ xcA,L.cl,L.n3,by show 2 < 1000; decide,?_⟩
  have kcC:∀ c u,H c=some u→c ≠ x→(upd HB x (.ins C dx (putF "told_outs" (.ref dO) (f2 (m:Int) dp)))) c=some u:=fun c u e hc=>by rw [Zak hc]; exact sB _ _ (kcA c u e hc)
  have xcC:(upd HB x (.ins C dx (putF "told_outs" (.ref dO) (f2 (m:Int) dp)))) x=some (.ins C dx (f3 (m:Int) dp dO)):=Zac
  have pC:(upd HB x (.ins C dx (putF "told_outs" (.ref dO) (f2 (m:Int) dp)))) dp=some (.dK kp):=by rw [Zak xp.symm]; exact sB _ _ pA
  have oC:(upd HB x (.ins C dx (putF "told_outs" (.ref dO) (f2 (m:Int) dp)))) dO=some (.dK kO):=by rw [Zak xO.symm]; exact eB
  have kaOC:KA Dee.name (OuV (upd HB x (.ins C dx (putF "told_outs" (.ref dO) (f2 (m:Int) dp))))) kO ds:=kaO.mono fun v d _ r=>r.keep fun b xs e=>by
   rw [Zak (Za5 e (sB _ _ xcA) (by intro z; cases z))]
   exact e
  generalize (upd HB x (.ins C dx (putF "told_outs" (.ref dO) (f2 (m:Int) dp))))=HC at kcC xcC pC oC kaOC ⊢
  -- the looks
  refine ⟨_,rfl,_,rfl,m,b,ws,ls,rfl,ok.m2,kcC _ _ hb bx,hl.mono (fun v d _ r=>r.kx kcC hx),ok.lo,ndL,fl',fun dA kA HD sD fD eD kaA=>?_⟩
  have xA:x ≠ dA:=fun z=>by rw [z,fD] at xcC; cases xcC
  have pOA:dO ≠ dA:=fun z=>by rw [z,fD] at oC; cases oC
  refine ⟨_,rfl,x,C,dx,_,rfl,sD _ _ xcC,L.cl,L.n4,by show 3 < 1000; decide,?_⟩
  have kcE:∀ c u,H c=some u→c ≠ x→(upd HD x (.ins C dx (putF "told_answers" (.ref dA) (f3 (m:Int) dp dO)))) c=some u:=fun c u e hc=>by rw [Zak hc]; exact sD _ _ (kcC c u e hc)
  have xcE:(upd HD x (.ins C dx (putF "told_answers" (.ref dA) (f3 (m:Int) dp dO)))) x=some (.ins C dx (f4 (m:Int) dp dO dA)):=Zac
  have pE:(upd HD x (.ins C dx (putF "told_answers" (.ref dA) (f3 (m:Int) dp dO)))) dp=some (.dK kp):=by rw [Zak xp.symm]; exact sD _ _ pC
  have oE:(upd HD x (.ins C dx (putF "told_answers" (.ref dA) (f3 (m:Int) dp dO)))) dO=some (.dK kO):=by rw [Zak xO.symm]; exact sD _ _ oC
  have aE:(upd HD x (.ins C dx (putF "told_answers" (.ref dA) (f3 (m:Int) dp dO)))) dA=some (.dK kA):=by rw [Zak xA.symm]; exact eD
  have tupE:∀ b xs,HD b=some (.tup xs)→(upd HD x (.ins C dx (putF "told_answers" (.ref dA) (f3 (m:Int) dp dO)))) b=some (.tup xs):=fun b xs e=>by
   rw [Zak (Za5 e (sD _ _ xcC) (by intro z; cases z))]
   exact e
  have kaOE:=kaOC.mono fun v d _ r=>OuV.keep (fun b xs e=>tupE b xs (sD _ _ e)) r
  have kaAE:=kaA.mono fun v d _ r=>AnV.keep tupE r
  generalize (upd HD x (.ins C dx (putF "told_answers" (.ref dA) (f3 (m:Int) dp dO))))=HE at kcE xcE pE oE aE kaOE kaAE ⊢
  -- the parts
  have lk4:(f4 (m:Int) dp dO dA).lookup ("told_answers" : Str)=some (.ref dA):=by
   unfold f4
   rw [Zao,if_pos rfl]
  refine ⟨_,rfl,x,C,dx,_,_,rfl,xcE,L.cl,L.n4,lk4,dA,kA,rfl,.inl aE,fun v hv=>?_⟩
  have sv:Same HE (upd HE v (Zdd v dA)):=Same.new hv
  refine ⟨v,dA,kA,rfl,Zac,.inl ⟨sv _ _ aE,fun o2=>?_⟩⟩
  have kF:∀ c u,HE c=some u→c ≠ dA→(upd (upd HE v (Zdd v dA)) dA (.frz o2 (.dK kA))) c=some u:=fun c u e hc=>by rw [Zak hc]; exact sv _ _ e
  have aF:(upd (upd HE v (Zdd v dA)) dA (.frz o2 (.dK kA))) dA=some (.frz o2 (.dK kA)):=Zac
  generalize (upd (upd HE v (Zdd v dA)) dA (.frz o2 (.dK kA)))=HF at kF aF ⊢
  have pAA:dp ≠ dA:=fun z=>by rw [z,fD] at pC; cases pC
  have xF:=kF _ _ xcE xA
  have pF:=kF _ _ pE pAA
  have oF:=kF _ _ oE pOA
  have tupF:∀ b xs,HE b=some (.tup xs)→HF b=some (.tup xs):=fun b xs e=>kF _ _ e (Za5 e aE (by intro z; cases z))
  have kaOF:=kaOE.mono fun v d _ r=>OuV.keep tupF r
  have kaAF:=kaAE.mono fun v d _ r=>AnV.keep tupF r
  have hkA:=kaAF.len
  intro D hD
  refine lcJ2 (K:=K) (n:=kA.length) (fun i ys HG=>∃ (ts:List Addr) (kvs:List (Key × V)),ys=ts.map V.ref∧ts.length=kvs.length∧(∀ (j:Nat) t k v,ts[j]? = some t→kvs[j]? = some (k,v)→HG t=some (.tup [kV k,v]))∧KA Loo.name (PaV HG) kvs (ls.take i)∧Same HF HG∧HG D=some (.lst ys)) ⟨[],[],rfl,rfl,(fun j t k v h=>by cases h),by rw [List.take_zero]; exact KA.nil,Same.new hD,Zac⟩
   (fun i ys HG hi hh0=>by obtain ⟨_,_,_,_,_,_,sG,_⟩:=hh0; exact ⟨hi,sG _ _ aF⟩) (fun ys HG hh0=>by obtain ⟨_,_,_,_,_,_,sG,_⟩:=hh0; exact ⟨Nat.le_refl _,sG _ _ aF⟩) ?_ ?_
  ·rintro i ys HG y HH hi ⟨ts,kvs,rfl,hts,ht,kk,sG,eG⟩ ⟨pp,k,v,rfl,hpp,rfl,hx2⟩
   have hil:i < ls.length:=by lia
   have hli:ls[i]? = some ls[i]:=List.getElem?_eq_getElem hil
   have hlm:ls[i] ∈ ls:=List.getElem_mem hil
   obtain ⟨ek,t,ev,htt⟩:=kaAF.got i _ _ hx2 hli
   generalize ls[i]=lo at hli hlm ek htt
   have ek':k=Sum.inr lo.name:=ek
   have ev':v=V.ref t:=ev
   subst ek' ev'
   have sP:Same HG (upd HG pp (.tup [kV (Sum.inr lo.name:Key),V.ref t])):=Same.new hpp
   refine ⟨pp,_,_,rfl,SqT.of Zac,Zch ?_⟩
   have lt:=ok.lo lo hlm
   have m2:=ok.m2
   refine ⟨_,rfl,_,rfl,t,lo.tab,as,rfl,(sG.trans sP) _ _ htt,by lia,ok.an lo hlm,ok.a3,ok.ad,fun r ro ts' ps zs HI sI rd0 er pr pm ltz po=>?_⟩
   refine ⟨by show 2 ≤ sizeLine; lia,fun tp htp=>?_⟩
   have sT:Same HI (upd HI tp (.tup [.str lo.name,.ref r])):=Same.new htp
   have eI:=(sP.trans sI) _ _ eG
   have tD:tp ≠ D:=(Zah eI htp).symm
   have kkl:=kk.len
   rw [List.length_take] at kkl
   have sAll:=(sP.trans sI).trans sT
   have tupU:∀ b xs (o:HO),(upd HI tp (.tup [.str lo.name,.ref r])) b=some (.tup xs)→(upd (upd HI tp (.tup [.str lo.name,.ref r])) D o) b=some (.tup xs):=fun b xs o e=>by
    rw [Zak (Za5 e (sT _ _ eI) (by intro z; cases z))]
    exact e
   have tupV:∀ b ob xs (o:HO),(upd HI tp (.tup [.str lo.name,.ref r])) b=some (.frz ob (.tup xs))→(upd (upd HI tp (.tup [.str lo.name,.ref r])) D o) b=some (.frz ob (.tup xs)):=fun b ob xs o e=>by
    rw [Zak (Za5 e (sT _ _ eI) (by intro z; cases z))]
    exact e
   refine ⟨_,sT _ _ eI,by rw [List.length_map]; lia,ts ++ [tp],kvs ++ [(Sum.inr lo.name,.ref r)],by rw [List.map_append]; rfl,by rw [List.length_append,List.length_append,hts]; rfl,fun j t' k' v' h1 h2=>?_,?_,(sG.trans sAll).put hD,Zac⟩
   ·by_cases hj:j < ts.length
    ·rw [List.getElem?_append_left hj] at h1
     rw [List.getElem?_append_left (by lia)] at h2
     exact tupU _ _ _ (sAll _ _ (ht j t' k' v' h1 h2))
    ·rw [List.getElem?_append_right (by lia)] at h1
     rw [List.getElem?_append_right (by lia),← hts] at h2
     have h0:j - ts.length=0:=by
      have:=(List.getElem?_eq_some_iff.mp h1).1
      simp at this
      lia
     rw [h0] at h1 h2
     cases h1
     cases h2
     rw [Zak tD]
     exact Zac
   ·rw [Zd7 hli]
    refine KA.snoc (kk.mono fun v d _ rr=>(rr.same sAll).keep (fun b xs e=>tupU _ _ _ e) (fun b o xs e=>tupV _ _ _ _ e)) ?_
    have pv:PaV HI (V.ref r) lo:=⟨r,ro,ts',ps,zs,rfl,rd0,er,pr,pm,ltz,po⟩
    exact (pv.same sT).keep (fun b xs e=>tupU _ _ _ e) (fun b o xs e=>tupV _ _ _ _ e)
  rintro ys HG ⟨ts,kq,rfl,hts,ht,kk,sG,eG⟩
  rw [hkA,List.take_length] at kk
  have nkq:(kq.map (·.1)).Nodup:=by
   rw [kk.keysE]
   exact Zlj ndL
  have kql:=kk.len
  refine ⟨D,ts,kq,rfl,eG,hts,by lia,ht,fun dq hdq=>?_⟩
  rw [Zii nkq]
  have sq:Same HG (upd HG dq (.dK kq)):=Same.new hdq
  have sGq:=sG.trans sq
  have xq:x ≠ dq:=fun z=>by
   have:=sG _ _ xF
   rw [z,hdq] at this
   cases this
  refine ⟨_,rfl,x,C,dx,_,rfl,sGq _ _ xF,L.cl,L.n5,by show 4 < 1000; decide,?_⟩
  have xI:(upd (upd HG dq (.dK kq)) x (.ins C dx (putF "told_parts" (.ref dq) (f4 (m:Int) dp dO dA)))) x=some (.ins C dx (f5 (m:Int) dp dO dA dq)):=Zac
  have kI:∀ c u,HF c=some u→c ≠ x→(upd (upd HG dq (.dK kq)) x (.ins C dx (putF "told_parts" (.ref dq) (f4 (m:Int) dp dO dA)))) c=some u:=fun c u e hc=>by rw [Zak hc]; exact sGq _ _ e
  have qI:(upd (upd HG dq (.dK kq)) x (.ins C dx (putF "told_parts" (.ref dq) (f4 (m:Int) dp dO dA)))) dq=some (.dK kq):=by rw [Zak xq.symm]; exact Zac
  have tupI:∀ b xs,HG b=some (.tup xs)→(upd (upd HG dq (.dK kq)) x (.ins C dx (putF "told_parts" (.ref dq) (f4 (m:Int) dp dO dA)))) b=some (.tup xs):=fun b xs e=>by
   rw [Zak (Za5 e (sG _ _ xF) (by intro z; cases z))]
   exact sq _ _ e
  have frzI:∀ b ob xs,HG b=some (.frz ob (.tup xs))→(upd (upd HG dq (.dK kq)) x (.ins C dx (putF "told_parts" (.ref dq) (f4 (m:Int) dp dO dA)))) b=some (.frz ob (.tup xs)):=fun b ob xs e=>by
   rw [Zak (Za5 e (sG _ _ xF) (by intro z; cases z))]
   exact sq _ _ e
  have kkI:=kk.mono fun v d _ r=>PaV.keep tupI frzI r
  generalize (upd (upd HG dq (.dK kq)) x (.ins C dx (putF "told_parts" (.ref dq) (f4 (m:Int) dp dO dA))))=HI at xI kI qI tupI kkI ⊢
  have pI:=kI _ _ pF xp.symm
  have oI:=kI _ _ oF xO.symm
  have aI:=kI _ _ aF xA.symm
  have tupI2:∀ b xs,HF b=some (.tup xs)→HI b=some (.tup xs):=fun b xs e=>tupI b xs (sG _ _ e)
  have kaOI:=kaOF.mono fun v d _ r=>OuV.keep tupI2 r
  have kaAI:=kaAF.mono fun v d _ r=>AnV.keep tupI2 r
  -- what can be done
  have lk3:(f5 (m:Int) dp dO dA dq).lookup ("told_outs" : Str)=some (.ref dO):=by
   unfold f5 f4 f3
   rw [Zao,if_neg (by decide +kernel),Zao,if_neg (by decide +kernel),Zao,if_pos rfl]
  have lk4':(f5 (m:Int) dp dO dA dq).lookup ("told_answers" : Str)=some (.ref dA):=by
   unfold f5 f4
   rw [Zao,if_neg (by decide +kernel),Zao,if_pos rfl]
  have m2:=ok.m2
  refine ⟨_,rfl,x,C,dx,_,_,rfl,xI,L.cl,L.n3,lk3,_,rfl,x,C,dx,_,_,rfl,xI,L.cl,L.n4,lk4',dO,dA,kO,kA,ds,ls,o2,rfl,pOA,oI,aI,kaOI,kaAI,ok.nd,fd',fl',(fun d hd'=>by rw [(ok.de d hd').len]; exact m2),(fun l hl'=>by rw [ok.lo l hl']; exact m2),fun dd kd HJ o1 kJ fJ eJ oJ kaD=>?_⟩
  have xO':x ≠ dO:=xO
  have xJ:=kJ _ _ xI xO'
  have xd:x ≠ dd:=fun z=>by rw [z,fJ] at xI; cases xI
  refine ⟨_,rfl,x,C,dx,_,rfl,xJ,L.cl,L.n6,by show 5 < 1000; decide,?_⟩
  have pO:dp ≠ dO:=fun z=>by rw [z,fB] at pA; cases pA
  have qO:dq ≠ dO:=fun z=>by
   have:=sG _ _ oF
   rw [← z,hdq] at this
   cases this
  have keep:∀ c u,HJ c=some u→c ≠ x→(upd HJ x (.ins C dx (putF "told_doable" (.ref dd) (f5 (m:Int) dp dO dA dq)))) c=some u:=fun c u e hc=>by rw [Zak hc]; exact e
  have tupJ:∀ b xs,HI b=some (.tup xs)→(upd HJ x (.ins C dx (putF "told_doable" (.ref dd) (f5 (m:Int) dp dO dA dq)))) b=some (.tup xs):=fun b xs e=>
   keep _ _ (kJ _ _ e (Za5 e oI (by intro z; cases z))) (Za5 e xI (by intro z; cases z))
  have frzJ:∀ b ob xs,HI b=some (.frz ob (.tup xs))→(upd HJ x (.ins C dx (putF "told_doable" (.ref dd) (f5 (m:Int) dp dO dA dq)))) b=some (.frz ob (.tup xs)):=fun b ob xs e=>
   keep _ _ (kJ _ _ e (Za5 e oI (by intro z; cases z))) (Za5 e xI (by intro z; cases z))
  refine q _ (fun c u e hc=>keep c u (kJ c u (kI c u (kF c u (kcE c u e hc) ?_) hc) ?_) hc) ⟨dx,dp,dO,dA,dq,dd,kp,kO,kA,kq,kd,o1,o2,Zac,keep _ _ (kJ _ _ pI pO) xp.symm,keep _ _ oJ xO.symm,keep _ _ (kJ _ _ aI pOA.symm) xA.symm,keep _ _ (kJ _ _ qI qO) xq.symm,keep _ _ eJ xd.symm,kaP,kaOI.mono fun v d _ r=>OuV.keep tupJ r,kaAI.mono fun v d _ r=>AnV.keep tupJ r,kkI.mono fun v d _ r=>PaV.keep tupJ frzJ r,kaD⟩
  ·intro z
   have:=kcC c u e hc
   rw [z,fD] at this
   cases this
  ·intro z
   have:=kcA c u e hc
   rw [z,fB] at this
   cases this
theorem ok_worldsof {f:Addr} {fd:FuncData} (F:Fun K "worlds_of" "worlds_of" Zcn f fd) (T:Bl mg):FnOk P w K mg base CX0 1 f fd Zil spWof:=by
 refine F.ok scWorldsOf (fun vs H Q E h=>?_) (fun cdv A outer s H vs Q E hr h=>?_)
 ·obtain ⟨m,rfl,_⟩:=h
  rfl
 ·obtain ⟨m,rfl,hm,q⟩:=h
  have hsl:sizeLine=16777216:=sizeLine_eq
  refine ⟨_,(Zag (Zan (Zel (N:=["world", "some"]) (sc:=Zab Zcn) (own:=["world"]) (fr:=["some"]) (js:=[0]) ⟨rfl,rfl,rfl,rfl,by decide +kernel,by decide +kernel,by decide +kernel,rfl,by decide +kernel⟩ rfl (Zcg (by rfl) T.range (Zaa (Zik PySem.F.plainAttrs_int PySem.F.slot_int_bit_length PySem.F.type_int_bit_length mt_bitlen (pv 0)) Zad)) (fun _ _ _ _=>Zaq (i:=0) (show List.Nodup (["world", "some"]:List Str) by decide +kernel) rfl (Or.inl rfl)) (fun _ _ _ _=>Zjh (Zav Zdr (Zaz op_and (Zaz op_shr (pv 1) (pv 0)) Zaf) Zaf (Za0 _))) (fun _ _ _ _=>(pv 0))))),?_⟩
  have hnb:nb m ≤ 200:=nb_le hm
  have hnb2:Builtin.Int.intBits (m:Int) ≤ 200:=hnb
  refine ⟨_,rfl,rfl,_,rfl,rfl,_,rfl,by lia,by lia,fun D hD=>?_⟩
  refine lcJ (n:=nb m) (fun i ys H2=>ys=(((List.range i).filter fun j=>m.testBit j).map fun (j:Nat)=>(j:Int)).map V.int∧Same H H2∧H2 D=some (.lst ys)) ⟨rfl,Same.new hD,Zac⟩
   (fun i ys H2 hi _=>by show i < _; rw [Int.toNat_natCast]; exact hi) (fun ys H2 _=>by show _ ≤ nb m; rw [Int.toNat_natCast]; exact Nat.le_refl _) ?_ ?_
  ·rintro i ys H2 x H3 hi ⟨rfl,s2,e2⟩ ⟨rfl,rfl⟩
   have e0:(0 + (i:Int)).toNat=i:=by lia
   refine ⟨_,rfl,_,rfl,_,_,rfl,rfl,by show (0:Int) ≤ 0 + (i:Int); lia,_,_,rfl,rfl,rfl,_,rfl,?_⟩
   rw [e0,bit_is]
   have hl:((((List.range i).filter fun j=>m.testBit j).map fun (j:Nat)=>(j:Int)).map V.int).length < sizeLine:=by
    rw [List.length_map,List.length_map]
    have:=List.length_filter_le (fun j=>m.testBit j) (List.range i)
    rw [List.length_range] at this
    lia
   cases hb:m.testBit i with
   | true=>
    refine iteT' rfl ?_
    refine ⟨_,rfl,_,e2,hl,?_,s2.put hD,Zac⟩
    rw [List.range_succ,List.filter_append,List.map_append,List.map_append]
    simp [hb]
   | false=>
    refine iteF' (by decide) ?_
    refine ⟨?_,s2,?_⟩
    ·rw [List.range_succ,List.filter_append]
     simp [hb]
    ·exact e2
  ·rintro ys H2 ⟨rfl,s2,e2⟩
   exact q D H2 s2 hD e2
structure Er (K:PySem.W.Frag) (mg:Str→Option Value) (G NN:Addr):Prop where
 mG:mg "GropeError" = some (.ref G)
 mN:mg "NoName" = some (.ref NN)
 oG:PySem.W.excIn K G bmV "ValueError.__new__" = true
 oN:PySem.W.excIn K NN bmV "ValueError.__new__" = true
 sub:mroIn K NN G=true
noncomputable abbrev Out (H:Hp) (E:XK) (NN:Addr):Prop:=∀ (b:Addr) (H':Hp),Same H H'→H' b=none→E (.ref b) (some NN) H'
theorem Zlr {m:Int} {p o a q d:Addr} {f:Str} (h:f ∉ (["many", "prices", "told_outs", "told_answers", "told_parts", "told_doable"]:List Str)):(f6 m p o a q d).lookup f=none:=by
 simp only [List.mem_cons,List.not_mem_nil,or_false,not_or] at h
 obtain ⟨h1,h2,h3,h4,h5,h6⟩:=h
 unfold f6 f5 f4 f3 f2 f1
 rw [Zao,if_neg h6,Zao,if_neg h5,Zao,if_neg h4,Zao,if_neg h3,Zao,if_neg h2,Zao,if_neg h1]
 rfl
theorem Zg0 {m:Int} {p o a q d:Addr}:(f6 m p o a q d).lookup ("prices" : Str)=some (.ref p):=by
 unfold f6 f5 f4 f3 f2
 rw [Zao,if_neg (by decide +kernel),Zao,if_neg (by decide +kernel),Zao,if_neg (by decide +kernel),Zao,if_neg (by decide +kernel),Zao,if_pos rfl]
theorem Zlq {m:Int} {p o a q d:Addr}:(f6 m p o a q d).lookup ("told_outs" : Str)=some (.ref o):=by
 unfold f6 f5 f4 f3
 rw [Zao,if_neg (by decide +kernel),Zao,if_neg (by decide +kernel),Zao,if_neg (by decide +kernel),Zao,if_pos rfl]
theorem Zhe {m:Int} {p o a q d:Addr}:(f6 m p o a q d).lookup ("told_answers" : Str)=some (.ref a):=by
 unfold f6 f5 f4
 rw [Zao,if_neg (by decide +kernel),Zao,if_neg (by decide +kernel),Zao,if_pos rfl]
theorem ChAt.same {C:Addr} {H H':Hp} {x:Addr} {m:Nat} {ds:List Dee} {ls:List Loo} (h:ChAt C H x m ds ls) (s:Same H H'):ChAt C H' x m ds ls:=by
 obtain ⟨dx,p,o,a,q,d,kp,ko,ka,kq,kd,o1,o2,h1,h2,h3,h4,h5,h6,k1,k2,k3,k4,k5⟩:=h.ex
 exact ⟨dx,p,o,a,q,d,kp,ko,ka,kq,kd,o1,o2,s _ _ h1,s _ _ h2,s _ _ h3,s _ _ h4,s _ _ h5,s _ _ h6,k1,k2.mono fun v d _ r=>OuV.keep (fun b xs e=>s _ _ e) r,k3.mono fun v d _ r=>AnV.keep (fun b xs e=>s _ _ e) r,k4.mono fun v d _ r=>PaV.keep (fun b xs e=>s _ _ e) (fun b o xs e=>s _ _ e) r,k5⟩
noncomputable def Rp (x:Str):Prop:=(reprText x).length ≤ 100000
inductive spCheckDeed (C NN:Addr) (vs:List V) (H:Hp) (Q:VK) (E:XK):Prop
 | mk (x:Addr) (m:Nat) (ds:List Dee) (ls:List Loo) (n:Str) (c0:vs=[.ref x,.str n]) (c1:ChAt C H x m ds ls) (c2:(ds.map Dee.name ++ ls.map Loo.name).Nodup) (c3:((n ∉ ds.map Dee.name∧Rp n∧Out H E NN) ∨ (n ∈ ds.map Dee.name∧Q .non H))):spCheckDeed C NN vs H Q E
inductive spCheckLook (C NN:Addr) (vs:List V) (H:Hp) (Q:VK) (E:XK):Prop
 | mk (x:Addr) (m:Nat) (ds:List Dee) (ls:List Loo) (n:Str) (c0:vs=[.ref x,.str n]) (c1:ChAt C H x m ds ls) (c2:(ds.map Dee.name ++ ls.map Loo.name).Nodup) (c3:((n ∉ ls.map Loo.name∧Rp n∧Out H E NN) ∨ (n ∈ ls.map Loo.name∧Q .non H))):spCheckLook C NN vs H Q E
inductive spCheckStep (C NN:Addr) (vs:List V) (H:Hp) (Q:VK) (E:XK):Prop
 | mk (x:Addr) (m:Nat) (ds:List Dee) (ls:List Loo) (n:Str) (c0:vs=[.ref x,.str n]) (c1:ChAt C H x m ds ls) (c2:(ds.map Dee.name ++ ls.map Loo.name).Nodup) (c3:((n ∉ ds.map Dee.name ++ ls.map Loo.name∧Rp n∧Out H E NN) ∨ (n ∈ ds.map Dee.name ++ ls.map Loo.name∧Q .non H))):spCheckStep C NN vs H Q E
inductive spPriceOf (C NN:Addr) (vs:List V) (H:Hp) (Q:VK) (E:XK):Prop
 | mk (x:Addr) (m:Nat) (ds:List Dee) (ls:List Loo) (n:Str) (c0:vs=[.ref x,.str n]) (c1:ChAt C H x m ds ls) (c2:(ds.map Dee.name ++ ls.map Loo.name).Nodup) (c3:((n ∉ ds.map Dee.name ++ ls.map Loo.name∧Rp n∧Out H E NN) ∨ ∃ s ∈ Zbb ds ls,s.1=n∧Q (.int s.2) H)):spPriceOf C NN vs H Q E
noncomputable abbrev Zf7:List Str:=["self", "name"]
noncomputable abbrev nPriceOf:List Str:=["self", "name"]
theorem scPriceOf:FnScope nPriceOf Zf7 (Zab Zd8):=⟨rfl,rfl,rfl,by decide +kernel,rfl,by decide +kernel,by decide +kernel⟩
noncomputable abbrev Zft:List Str:=["self", "name"]
noncomputable abbrev nCheckDeed:List Str:=["self", "name"]
theorem scCheckDeed:FnScope nCheckDeed Zft (Zab Zcv):=⟨rfl,rfl,rfl,by decide +kernel,rfl,by decide +kernel,by decide +kernel⟩
noncomputable abbrev Zfs:List Str:=["self", "name"]
noncomputable abbrev nCheckLook:List Str:=["self", "name"]
theorem scCheckLook:FnScope nCheckLook Zfs (Zab Zcu):=⟨rfl,rfl,rfl,by decide +kernel,rfl,by decide +kernel,by decide +kernel⟩
noncomputable abbrev Zfr:List Str:=["self", "name"]
noncomputable abbrev nCheckStep:List Str:=["self", "name"]
theorem scCheckStep:FnScope nCheckStep Zfr (Zab Zct):=⟨rfl,rfl,rfl,by decide +kernel,rfl,by decide +kernel,by decide +kernel⟩
theorem ok_checkdeed {f C G NN:Addr} {fd:FuncData} (F:Fun K "check_deed" "Chart.check_deed" Zcv f fd) (L:Cl K C) (R':Er K mg G NN):FnOk P w K mg base (CXe P w) 1 f fd Zft (spCheckDeed C NN):=by
 refine F.okE scCheckDeed (fun vs H Q E h=>?_) (fun cdv A outer s H vs Q E hr h=>?_)
 ·obtain ⟨x,m,ds,ls,n,rfl,_⟩:=h
  rfl
 ·obtain ⟨x,m,ds,ls,n,rfl,R,nd,q⟩:=h
  have hu:=Zgz hr
  obtain ⟨dx,p,o,a,q',d,kp,ko,ka,kq,kd,o1,o2,h1,h2,h3,h4,h5,h6,k1,k2,k3,k4,k5⟩:=R.ex
  refine ⟨_,(Zag (Zbc (Zk7 (Zgi hu (pv 1) (Zcd (pv 0) rfl))) (Zag (Zho R'.oN (by rfl) R'.mN (Zaa (Zht (pv 1) (by decide +kernel)) Zad))) Zau)),?_⟩
  rcases q with ⟨hn,rp,q⟩ | ⟨hn,q⟩
  ·have dg:DGet H o (.str n) none:=.inl ⟨ko,(Sum.inr n:Key),.inr ⟨o1,h3⟩,rfl,(k2.none hn).symm⟩
   refine ⟨_,rfl,_,rfl,x,C,dx,_,_,rfl,h1,L.cl,L.n3,Zlq,o,_,rfl,dg,_,rfl,?_⟩
   refine iteT ?_
   exact ⟨_,rfl,n,rfl,rp,by show 1 ≤ 1000; decide,fun b hb=>q b _ (Same.refl _) hb⟩
  ·obtain ⟨de,hde,rfl⟩:=List.mem_map.mp hn
   obtain ⟨v,hv,t,rfl,ht⟩:=k2.val (List.nodup_append.mp nd).1 hde
   have dg:DGet H o (.str de.name) (some (.ref t)):=.inl ⟨ko,(Sum.inr de.name:Key),.inr ⟨o1,h3⟩,rfl,hv.symm⟩
   refine ⟨_,rfl,_,rfl,x,C,dx,_,_,rfl,h1,L.cl,L.n3,Zlq,o,_,rfl,dg,_,rfl,?_⟩
   exact iteF q
theorem ok_checklook {f C G NN:Addr} {fd:FuncData} (F:Fun K "check_look" "Chart.check_look" Zcu f fd) (L:Cl K C) (R':Er K mg G NN):FnOk P w K mg base (CXe P w) 1 f fd Zfs (spCheckLook C NN):=by
 refine F.okE scCheckLook (fun vs H Q E h=>?_) (fun cdv A outer s H vs Q E hr h=>?_)
 ·obtain ⟨x,m,ds,ls,n,rfl,_⟩:=h
  rfl
 ·obtain ⟨x,m,ds,ls,n,rfl,R,nd,q⟩:=h
  have hu:=Zgz hr
  obtain ⟨dx,p,o,a,q',d,kp,ko,ka,kq,kd,o1,o2,h1,h2,h3,h4,h5,h6,k1,k2,k3,k4,k5⟩:=R.ex
  refine ⟨_,(Zag (Zbc (Zk7 (Zgi hu (pv 1) (Zcd (pv 0) rfl))) (Zag (Zho R'.oN (by rfl) R'.mN (Zaa (Zht (pv 1) (by decide +kernel)) Zad))) Zau)),?_⟩
  rcases q with ⟨hn,rp,q⟩ | ⟨hn,q⟩
  ·have dg:DGet H a (.str n) none:=.inl ⟨ka,(Sum.inr n:Key),.inr ⟨o2,h4⟩,rfl,(k3.none hn).symm⟩
   refine ⟨_,rfl,_,rfl,x,C,dx,_,_,rfl,h1,L.cl,L.n4,Zhe,a,_,rfl,dg,_,rfl,?_⟩
   refine iteT ?_
   exact ⟨_,rfl,n,rfl,rp,by show 1 ≤ 1000; decide,fun b hb=>q b _ (Same.refl _) hb⟩
  ·obtain ⟨l,hlm,rfl⟩:=List.mem_map.mp hn
   obtain ⟨v,hv,t,rfl,ht⟩:=k3.val (List.nodup_append.mp nd).2.1 hlm
   have dg:DGet H a (.str l.name) (some (.ref t)):=.inl ⟨ka,(Sum.inr l.name:Key),.inr ⟨o2,h4⟩,rfl,hv.symm⟩
   refine ⟨_,rfl,_,rfl,x,C,dx,_,_,rfl,h1,L.cl,L.n4,Zhe,a,_,rfl,dg,_,rfl,?_⟩
   exact iteF q
theorem ok_checkstep {f C G NN:Addr} {fd:FuncData} (F:Fun K "check_step" "Chart.check_step" Zct f fd) (L:Cl K C) (R':Er K mg G NN):FnOk P w K mg base (CXe P w) 1 f fd Zfr (spCheckStep C NN):=by
 refine F.okE scCheckStep (fun vs H Q E h=>?_) (fun cdv A outer s H vs Q E hr h=>?_)
 ·obtain ⟨x,m,ds,ls,n,rfl,_⟩:=h
  rfl
 ·obtain ⟨x,m,ds,ls,n,rfl,R,nd,q⟩:=h
  have hu:=Zgz hr
  obtain ⟨dx,p,o,a,q',d,kp,ko,ka,kq,kd,o1,o2,h1,h2,h3,h4,h5,h6,k1,k2,k3,k4,k5⟩:=R.ex
  refine ⟨_,(Zag (Zbc (Zk7 (Zgi hu (pv 1) (Zcd (pv 0) rfl))) (Zag (Zho R'.oN (by rfl) R'.mN (Zaa (Zht (pv 1) (by decide +kernel)) Zad))) Zau)),?_⟩
  rcases q with ⟨hn,rp,q⟩ | ⟨hn,q⟩
  ·have dg:DGet H p (.str n) none:=.inl ⟨kp,(Sum.inr n:Key),.inl h2,rfl,(k1.none (by rw [Zcx]; exact hn)).symm⟩
   refine ⟨_,rfl,_,rfl,x,C,dx,_,_,rfl,h1,L.cl,L.n2,Zg0,p,_,rfl,dg,_,rfl,?_⟩
   refine iteT ?_
   exact ⟨_,rfl,n,rfl,rp,by show 1 ≤ 1000; decide,fun b hb=>q b _ (Same.refl _) hb⟩
  ·rw [← Zcx] at hn nd
   obtain ⟨sp,hsm,rfl⟩:=List.mem_map.mp hn
   obtain ⟨v,hv,rfl⟩:=k1.val nd hsm
   have dg:DGet H p (.str sp.1) (some (.int sp.2)):=.inl ⟨kp,(Sum.inr sp.1:Key),.inl h2,rfl,hv.symm⟩
   refine ⟨_,rfl,_,rfl,x,C,dx,_,_,rfl,h1,L.cl,L.n2,Zg0,p,_,rfl,dg,_,rfl,?_⟩
   exact iteF q
theorem ok_priceof {f C G NN f1':Addr} {fd d_check_step:FuncData} (F:Fun K "price_of" "Chart.price_of" Zd8 f fd) (L:Cl K C) (R':Er K mg G NN) (b_check_step:Binds K d_check_step ["self", "name"] []) (m_check_step:Meth K C "check_step" f1') (G_check_step:FnOk P w K mg base (CXe P w) 1 f1' d_check_step Zfr (spCheckStep C NN)):FnOk P w K mg base (CXe P w) 2 f fd Zf7 (spPriceOf C NN):=by
 refine F.okE scPriceOf (fun vs H Q E h=>?_) (fun cdv A outer s H vs Q E hr1 h=>?_)
 ·obtain ⟨x,m,ds,ls,n,rfl,_⟩:=h
  rfl
 ·obtain ⟨x,m,ds,ls,n,rfl,R,nd,q⟩:=h
  have hu:=Zgz hr1
  have R0:=R
  obtain ⟨dx,p,o,a,q',d,kp,ko,ka,kq,kd,o1,o2,h1,h2,h3,h4,h5,h6,k1,k2,k3,k4,k5⟩:=R.ex
  refine ⟨_,(Zae (Zbg (Zgg (pv 0) L.cl m_check_step G_check_step hr1 b_check_step .nil Zlc (Zaa (pv 1) Zad)))
   (Zag (Zan (Zgh hu (Zcd (pv 0) rfl) (pv 1) (fun _ _=>rfl))))),?_⟩
  refine ⟨_,rfl,x,dx,_,rfl,h1,Zlr (by decide +kernel),_,rfl,x,m,ds,ls,n,rfl,R0,nd,?_⟩
  rcases q with ⟨hn,rp,q⟩ | ⟨sp,hsm,rfl,q⟩
  ·exact .inl ⟨hn,rp,q⟩
  ·refine .inr ⟨by rw [← Zcx]; exact List.mem_map.mpr ⟨sp,hsm,rfl⟩,?_⟩
   obtain ⟨v,hv,rfl⟩:=k1.val (by rw [Zcx]; exact nd) hsm
   have dg:DGet H p (.str sp.1) (some (.int sp.2)):=.inl ⟨kp,(Sum.inr sp.1:Key),.inl h2,rfl,hv.symm⟩
   exact ⟨_,rfl,x,C,dx,_,_,rfl,h1,L.cl,L.n2,Zg0,_,rfl,p,_,rfl,dg,q⟩
noncomputable abbrev Sm (x:Str):Prop:=∀ c ∈ cs x,c < 128
theorem Sm.rp {x:Str} (h:Sm x) (l:x.length ≤ 300):Rp x:=by
 have h1:=StrLaws.reprText_len x fun c hc=>by
  have:=h c hc
  lia
 unfold Rp
 lia
structure Lb (x:Str):Prop where
 l1:1 ≤ x.length
 l2:x.length ≤ 30
 sm:Sm x
theorem Lb.rp {x:Str} (h:Lb x):Rp x:=h.sm.rp (by have:=h.l2; lia)
theorem cs_mk (l:List Nat):cs ⟨l.toArray⟩=l:=rfl
theorem Zir (l:List Nat):(Str.mk l.toArray).length=l.length:=by rw [← Zkh,cs_mk]
noncomputable def cl (ns:List Int) (k:Int):Int:=ns.getD k.toNat 0
noncomputable def dw (ns:List Int) (k p m:Int):Int:=(cl ns k * 48271 + 7919 * k * k + 11) % p * 742938285 % 2147483629 % m
theorem Zna (ns:List Int) (k p:Int) {m:Int} (h:0 < m):0 ≤ dw ns k p m:=Int.emod_nonneg _ (by lia)
theorem Znb (ns:List Int) (k p:Int) {m:Int} (h:0 < m):dw ns k p m < m:=Int.emod_lt_of_pos _ h
inductive spCell (K:PySem.W.Frag) (vs:List V) (H:Hp) (Q:VK) (E0_:XK):Prop
 | mk (a:Addr) (ns:List Int) (k:Int) (c0:vs=[.ref a,.int k]) (c1:SqL K H a (ns.map V.int)) (c2:ns.length ≤ 63) (c3:0 ≤ k) (c4:Q (.int (cl ns k)) H):spCell K vs H Q E0_
inductive spDrawD (K:PySem.W.Frag) (vs:List V) (H:Hp) (Q:VK) (E0_:XK):Prop
 | mk (a:Addr) (ns:List Int) (k p m:Int) (c0:vs=[.ref a,.int k,.int p,.int m]) (c1:SqL K H a (ns.map V.int)) (c2:ns.length ≤ 63) (c3:0 ≤ k) (c4:k < 1000000) (c5:0 < p) (c6:0 < m) (c7:Q (.int (dw ns k p m)) H):spDrawD K vs H Q E0_
inductive spDraw (K:PySem.W.Frag) (vs:List V) (H:Hp) (Q:VK) (E0_:XK):Prop
 | mk (a:Addr) (ns:List Int) (k p m:Int) (c0:vs=[.ref a,.int k,.int p,.int m]) (c1:SqL K H a (ns.map V.int)) (c2:ns.length ≤ 63) (c3:0 ≤ k) (c4:k < 1000000) (c5:0 < p) (c6:0 < m) (c7:∀ r:Int,0 ≤ r→r < m→Q (.int r) H):spDraw K vs H Q E0_
noncomputable abbrev Zf2:List Str:=["_law_script", "_law_k"]
noncomputable abbrev nLCell:List Str:=["_law_script", "_law_k"]
theorem scLCell:FnScope nLCell Zf2 (Zab Zes):=⟨rfl,rfl,rfl,by decide +kernel,rfl,by decide +kernel,by decide +kernel⟩
noncomputable abbrev Zey:List Str:=["_law_script", "_law_k", "_law_prime", "_law_many"]
noncomputable abbrev nLDraw:List Str:=["_law_script", "_law_k", "_law_prime", "_law_many", "_law_mixed"]
theorem scLDraw:FnScope nLDraw Zey (Zab Zeq):=⟨rfl,rfl,rfl,by decide +kernel,rfl,by decide +kernel,by decide +kernel⟩
noncomputable def rm (H:Hp) (S:List Addr):Hp:=fun c=>if c ∈ S then none else H c
theorem Zmh {H:Hp} {S:List Addr} {c:Addr} {o:HO} (h:c ∈ S):rm (upd H c o) S=rm H S:=by
 funext b
 unfold rm
 by_cases hb:b ∈ S
 ·rw [if_pos hb,if_pos hb]
 ·rw [if_neg hb,if_neg hb,Zak (fun z=>hb (by rw [z]; exact h))]
theorem Zk5 {H:Hp} {S:List Addr} {c:Addr} (h:c ∉ S):rm H S c=H c:=if_neg h
theorem rm_le {H:Hp} {S:List Addr}:Same (rm H S) H:=fun b u e=>by
 unfold rm at e
 split at e
 ·cases e
 ·exact e
theorem Zk4 {H H':Hp} {S:List Addr} (s:Same H H'):Same (rm H S) (rm H' S):=fun b u e=>by
 unfold rm at e ⊢
 split at e
 ·cases e
 ·rename_i hb
  rw [if_neg hb]
  exact s _ _ e
theorem A2.one {α:Type} {R:V→α→Prop} {v:V} {t:α} (r:R v t):A2 R [v] [t]:=⟨rfl,fun i v' t' h1 h2=>by
 cases i with
 | zero=>cases h1; cases h2; exact r
 | succ i=>cases h1⟩
theorem A2.nil {α:Type} {R:V→α→Prop}:A2 R [] []:=⟨rfl,fun i v t h=>by cases h⟩
noncomputable abbrev Zhz:List Str:=["_law_prices_here", "_law_deeds", "_law_looks"]
noncomputable abbrev nLChart:List Str:=["_law_prices_here", "_law_deeds", "_law_looks", "_law_ones"]
theorem scLChart:FnScope nLChart Zhz (Zab Zda):=⟨rfl,rfl,rfl,by decide +kernel,rfl,by decide +kernel,by decide +kernel⟩
theorem ok_cell {f:Addr} {fd:FuncData} (F:Fun K "_law_cell" "_law_cell" Zes f fd) (T:Bl mg):FnOk P w K mg base CX0 1 f fd Zf2 (spCell K):=by
 refine F.ok scLCell (fun vs H Q E h=>?_) (fun cdv A outer s H vs Q E hr h=>?_)
 ·obtain ⟨a,ns,k,rfl,_⟩:=h
  rfl
 ·obtain ⟨a,ns,k,rfl,hS,hn,k0,q⟩:=h
  obtain ⟨j,rfl⟩:∃ j:Nat,(j:Int)=k:=⟨k.toNat,Int.toNat_of_nonneg k0⟩
  have hl:(ns.map V.int).length=ns.length:=List.length_map ..
  refine ⟨_,(Zae (Zbc (Zav Zjl (pv 1) (Zat Zbf (by rfl) T.len PySem.boot_len (Zaa (pv 0) Zad)) (Za0 _)) (Zag (Zan (Zap Za4 (pv 0) (pv 1) (fun _ _=>rfl)))) Zau)
   (Zag (Zan Zaf))),?_⟩
  refine ⟨_,rfl,_,rfl,_,_,rfl,.inl ⟨_,hS,rfl⟩,_,_,rfl,rfl,_,rfl,?_⟩
  refine ite2 (fun hp=>?_) (fun hp=>?_)
  ·have hp':j < ns.length:=by
    have:=of_decide_eq_true hp
    rw [hl] at this
    lia
   have hc:cl ns (j:Int)=ns[j]:=by
    unfold cl
    rw [Int.toNat_natCast]
    simp [List.getD,hp']
   rw [hc] at q
   exact ⟨_,rfl,_,rfl,a,_,_,_,rfl,rfl,hS,Zai (v:=V.int ns[j]) (by simp [hp']),q⟩
  ·have hp':¬ j < ns.length:=fun z=>hp (decide_eq_true (by rw [hl]; lia))
   have hc:cl ns (j:Int)=0:=by
    unfold cl
    rw [Int.toNat_natCast,List.getD_eq_getElem?_getD,List.getElem?_eq_none (by lia)]
    rfl
   rw [hc] at q
   exact q
theorem ok_drawD {f f1:Addr} {fd d1:FuncData} (F:Fun K "_law_draw" "_law_draw" Zeq f fd) (D_l_cell:Df K mg "_law_cell" Zes Zf2 f1 d1) (G_l_cell:FnOk P w K mg base CX0 1 f1 d1 Zf2 (spCell K)):FnOk P w K mg base CX0 2 f fd Zey (spDrawD K):=by
 refine F.ok scLDraw (fun vs H Q E h=>?_) (fun cdv A outer s H vs Q E hr1 h=>?_)
 ·obtain ⟨a,ns,k,p,m,rfl,_⟩:=h
  rfl
 ·obtain ⟨a,ns,k,p,m,rfl,hS,hn,k0,k1,p0,m0,q⟩:=h
  refine ⟨_,(Zae (Zax (i:=4) scLDraw.nd rfl (Or.inl rfl) (Zaz Zez (Zaz Zbv (Zaz Zbv (Zaz Zdv (Zaj G_l_cell hr1 (by rfl) D_l_cell.m D_l_cell.F.kp D_l_cell.b .nil Zaw (Zaa (pv 0) (Zaa (pv 1) Zad))) Zaf) (Zaz Zdv (Zaz Zdv Zaf (pv 1)) (pv 1))) Zaf) (pv 2)))
   (Zag (Zan (Zaz Zez (Zaz Zez (Zaz Zdv (pv 4) Zaf) Zaf) (pv 3))))),?_⟩
  refine ⟨_,rfl,_,rfl,a,ns,k,rfl,hS,hn,k0,?_⟩
  refine ⟨_,_,rfl,rfl,.inr ⟨by decide,by decide⟩,_,rfl,_,_,rfl,rfl,.inl ⟨by decide,by decide⟩,_,rfl,_,_,rfl,rfl,.inl ⟨by lia,by lia⟩,_,_,rfl,rfl,_,_,rfl,rfl,_,rfl,_,_,rfl,rfl,p0,?_⟩
  exact ⟨_,rfl,_,_,rfl,rfl,.inr ⟨by decide,by decide⟩,_,_,rfl,rfl,(by show (0:Int) < _; decide),_,rfl,_,_,rfl,rfl,m0,q⟩
theorem ok_draw {f:Addr} {fd:FuncData} (G:FnOk P w K mg base CX0 2 f fd Zey (spDrawD K)):FnOk P w K mg base CX0 2 f fd Zey (spDraw K):=
 G.imp fun vs H Q E h=>by
  obtain ⟨a,ns,k,p,m,e,hS,hn,k0,k1,p0,m0,q⟩:=h
  exact ⟨a,ns,k,p,m,e,hS,hn,k0,k1,p0,m0,q _ (Zna _ _ _ m0) (Znb _ _ _ m0)⟩
noncomputable abbrev sgA:Str:=Str.ofString " !\"#$&'()*+,-./0123456789:;<=>?@ABCDEFGHIJKLMNOPQRSTUVWXYZ[\\]^_"
noncomputable abbrev sgB:Str:=Str.ofString "`abcdefghijklmnopqrstuvwxyz{|}~"
noncomputable def sgL:List Nat:=(sgA ++ sgB).cps.toList
theorem sgL_len:sgL.length=94:=by decide +kernel
theorem sgL_lt:∀ c ∈ sgL,c < 128:=by decide +kernel
theorem sg_len:(sgA ++ sgB).length ≤ sizeLine:=by
 have h:(sgA ++ sgB).length=94:=by decide +kernel
 have:=sizeLine_eq
 lia
theorem sgA_len:sgA.length + sgB.length ≤ sizeLine:=by
 have h:sgA.length + sgB.length=94:=by decide +kernel
 have:=sizeLine_eq
 lia
noncomputable def sgn (n:Int):Nat:=sgL.getD (n % 94).toNat 0
theorem Zmf (n:Int):sgL[(n % 94).toNat]? = some (sgn n):=by
 have h0:=Int.emod_nonneg n (show (94:Int) ≠ 0 by decide)
 have h1:=Int.emod_lt_of_pos n (show (0:Int) < 94 by decide)
 have:(n % 94).toNat < sgL.length:=by rw [sgL_len]; lia
 unfold sgn
 rw [List.getD_eq_getElem?_getD,List.getElem?_eq_getElem this]
 rfl
theorem sgn_lt (n:Int):sgn n < 128:=sgL_lt _ (List.mem_of_getElem? (Zmf n))
inductive spSign (vs:List V) (H:Hp) (Q:VK) (E0_:XK):Prop
 | mk (n:Int) (c0:vs=[.int n]) (c1:Q (.str ⟨#[sgn n]⟩) H):spSign  vs H Q E0_
noncomputable def wz (ns:List Int) (k:Int):Int:=if dw ns k 15013 8=0 then 30 else 1 + dw ns k 10007 6
theorem Zkn (ns:List Int) (k:Int):1 ≤ wz ns k∧wz ns k ≤ 30:=by
 have h1:=Zna ns k 10007 (m:=6) (by decide)
 have h2:=Znb ns k 10007 (m:=6) (by decide)
 unfold wz
 split <;> lia
noncomputable def wa (ns:List Int) (k:Int):Int:=dw ns k 20011 (wz ns k)
theorem Zm4 (ns:List Int) (k:Int):0 ≤ wa ns k∧wa ns k < wz ns k:=⟨Zna _ _ _ (by have:=Zkn ns k; lia),Znb _ _ _ (by have:=Zkn ns k; lia)⟩
noncomputable def wb (ns:List Int) (k:Int) (n:Nat):List Nat:=(List.range n).map fun (m:Nat)=>sgn (dw ns (k + (m:Int)) 25013 94)
theorem Zfx (ns:List Int) (k:Int) (n:Nat):(wb ns k n).length=n:=by
 unfold wb
 rw [List.length_map,List.length_range]
theorem wb_lt (ns:List Int) (k:Int) (n:Nat):∀ c ∈ wb ns k n,c < 128:=fun c hc=>by
 obtain ⟨m,_,rfl⟩:=List.mem_map.mp hc
 exact sgn_lt _
noncomputable def wdL (ns:List Int) (k:Int) (c:Nat):List Nat:=(wb ns k (wz ns k).toNat).take (wa ns k).toNat ++ [c] ++ (wb ns k (wz ns k).toNat).drop ((wa ns k).toNat + 1)
noncomputable def wdS (ns:List Int) (k:Int) (c:Nat):Str:=⟨(wdL ns k c).toArray⟩
theorem Zku (ns:List Int) (k:Int) (c:Nat):(wdL ns k c).length=(wz ns k).toNat:=by
 have h1:=Zkn ns k
 have h2:=Zm4 ns k
 unfold wdL
 rw [List.length_append,List.length_append,List.length_take,List.length_drop,Zfx,List.length_singleton]
 lia
theorem Zl7 (ns:List Int) (k:Int) {c:Nat} (hc:c < 128):Lb (wdS ns k c):=by
 have h1:=Zkn ns k
 refine ⟨by unfold wdS; rw [Zir,Zku]; lia,by unfold wdS; rw [Zir,Zku]; lia,fun z hz=>?_⟩
 have hz':z ∈ wdL ns k c:=hz
 unfold wdL at hz'
 rcases List.mem_append.mp hz' with y | y
 ·rcases (List.mem_append.mp y) with x | x
  ·exact wb_lt _ _ _ _ (List.mem_of_mem_take x)
  ·rw [List.mem_singleton.mp x]; exact hc
 ·exact wb_lt _ _ _ _ (List.mem_of_mem_drop y)
theorem Zkt {ns:List Int} {k:Int} {c d:Nat} (h:wdS ns k c=wdS ns k d):c=d:=by
 have e:wdL ns k c=wdL ns k d:=congrArg cs h
 have h1:=Zkn ns k
 have h2:=Zm4 ns k
 have e2:(wdL ns k c)[(wa ns k).toNat]? = (wdL ns k d)[(wa ns k).toNat]?:=by rw [e]
 have lt:((wb ns k (wz ns k).toNat).take (wa ns k).toNat).length=(wa ns k).toNat:=by
  rw [List.length_take,Zfx]
  lia
 have g:∀ (A B:List Nat) (x n:Nat),A.length=n→(A ++ [x] ++ B)[n]? = some x:=fun A B x n e=>by subst e; simp
 unfold wdL at e2
 rw [g _ _ _ _ lt,g _ _ _ _ lt] at e2
 exact Option.some.inj e2
theorem Zh8 {ns:List Int} {k:Int} {l:List Nat} (h:l.Nodup):(l.map (wdS ns k)).Nodup:=List.pairwise_map.mpr (h.imp fun n e=>n (Zkt e))
theorem join_none:∀ xs:List Str,cs (Txt.join (Str.ofString "") xs)=(xs.map cs).flatten:=fun xs=>by
 have e:Txt.join (Str.ofString "") xs=Str.join (Str.ofString "") xs:=StrLaws.glued_eq_join _ _
 rw [e]
 induction xs with
 | nil=>rfl
 | cons x r ih=>
  cases r with
  | nil=>show cs x=_; simp
  | cons y r=>
   show cs (x ++ Str.ofString "" ++ Str.join (Str.ofString "") (y :: r))=_
   rw [Ze0,Ze0,ih (StrLaws.glued_eq_join _ _),show cs (Str.ofString "")=[] from by decide +kernel]
   simp
theorem one_flat {α:Type} (xs:List α) (g:α→Nat):((xs.map fun m=>(⟨#[g m]⟩:Str)).map cs).flatten=xs.map g:=by
 induction xs with
 | nil=>rfl
 | cons x r ih=>rw [List.map_cons,List.map_cons,List.flatten_cons,ih]; rfl
theorem join_wb (ns:List Int) (k:Int) (n:Nat):Txt.join (Str.ofString "") ((List.range n).map fun (m:Nat)=>(⟨#[sgn (dw ns (k + (m:Int)) 25013 94)]⟩:Str))=⟨(wb ns k n).toArray⟩:=by
 apply Zm2
 rw [join_none,one_flat (g:=fun (m:Nat)=>sgn (dw ns (k + (m:Int)) 25013 94))]
 rfl
inductive spWords (K:PySem.W.Frag) (vs:List V) (H:Hp) (Q:VK) (E0_:XK):Prop
 | mk (a:Addr) (ns:List Int) (k:Int) (z:Str) (c0:vs=[.ref a,.int k,.str z]) (c1:SqL K H a (ns.map V.int)) (c2:ns.length ≤ 63) (c3:0 ≤ k) (c4:k < 1000) (c5:Sm z) (c6:z.length ≤ 10) (c7:∀ (l:Addr) (H':Hp),Same H H'→H l=none→H' l=some (.lst (((cs z).map (wdS ns k)).map V.str))→Q (.ref l) H'):spWords K vs H Q E0_
noncomputable abbrev Zj0:List Str:=["_law_number"]
noncomputable abbrev nLSign:List Str:=["_law_number", "_law_some"]
theorem scLSign:FnScope nLSign Zj0 (Zab Zfz):=⟨rfl,rfl,rfl,by decide +kernel,rfl,by decide +kernel,by decide +kernel⟩
noncomputable abbrev Zfq:List Str:=["_law_script", "_law_k", "_law_letters"]
noncomputable abbrev nLWords:List Str:=["_law_script", "_law_k", "_law_letters", "_law_size", "_law_at", "_law_base"]
theorem scLWords:FnScope nLWords Zfq (Zab Zcz):=⟨rfl,rfl,rfl,by decide +kernel,rfl,by decide +kernel,by decide +kernel⟩
theorem ok_sign {f:Addr} {fd:FuncData} (F:Fun K "_law_sign" "_law_sign" Zfz f fd):FnOk P w K mg base CX0 1 f fd Zj0 spSign:=by
 refine F.ok scLSign (fun vs H Q E h=>?_) (fun cdv A outer s H vs Q E hr h=>?_)
 ·obtain ⟨n,rfl,_⟩:=h
  rfl
 ·obtain ⟨n,rfl,q⟩:=h
  refine ⟨_,(Zae (Zax (i:=1) scLSign.nd rfl (Or.inl rfl) Za1)
   (Zae (Zax (i:=1) scLSign.nd rfl (Or.inl rfl) (Zaz Zbi (pv 1) Za1))
   (Zag (Zan (Zap ix_str (pv 1) (Zaz Zez (pv 0) Zaf) (fun _ _=>rfl)))))),?_⟩
  refine ⟨_,rfl,sgA,sgB,rfl,rfl,sgA_len,?_⟩
  have hat:=Zai (Zmf n)
  rw [Int.toNat_of_nonneg (Int.emod_nonneg n (by decide))] at hat
  exact ⟨_,rfl,_,rfl,_,_,rfl,rfl,(by show (0:Int) < _; decide),_,_,_,rfl,rfl,sg_len,hat,q⟩
theorem ok_words {f f1 f2:Addr} {fd d1 d2:FuncData} (F:Fun K "_law_words" "_law_words" Zcz f fd) (T:Bl mg) (D_l_draw:Df K mg "_law_draw" Zeq Zey f1 d1) (G_l_draw:FnOk P w K mg base CX0 2 f1 d1 Zey (spDrawD K)) (D_l_sign:Df K mg "_law_sign" Zfz Zj0 f2 d2) (G_l_sign:FnOk P w K mg base CX0 1 f2 d2 Zj0 spSign):FnOk P w K mg base CX0 3 f fd Zfq (spWords K):=by
 refine F.ok scLWords (fun vs H Q E h=>?_) (fun cdv A outer s H vs Q E hr2 h=>?_)
 ·obtain ⟨a,ns,k,z,rfl,_⟩:=h
  rfl
 ·obtain ⟨a,ns,k,z,rfl,hS,hn,k0,k1,hz,hzl,q⟩:=h
  have hr1:Room 1 _:=hr2.mono (by decide)
  have hsl:sizeLine=16777216:=sizeLine_eq
  refine ⟨_,(Zae (Zax (i:=3) scLWords.nd rfl (Or.inl rfl) (Zaz Zbv Zaf (Zaj G_l_draw hr2 (by rfl) D_l_draw.m D_l_draw.F.kp D_l_draw.b .nil Zaw (Zaa (pv 0) (Zaa (pv 1) (Zaa Zaf (Zaa Zaf Zad)))))))
   (Zae (Zbc (Zav Zdr (Zaj G_l_draw hr2 (by rfl) D_l_draw.m D_l_draw.F.kp D_l_draw.b .nil Zaw (Zaa (pv 0) (Zaa (pv 1) (Zaa Zaf (Zaa Zaf Zad))))) Zaf (Za0 _)) (Zag (Zax (i:=3) scLWords.nd rfl (Or.inl rfl) Zaf)) Zau)
   (Zae (Zax (i:=4) scLWords.nd rfl (Or.inr rfl) (Zaj G_l_draw hr2 (by rfl) D_l_draw.m D_l_draw.F.kp D_l_draw.b .nil Zaw (Zaa (pv 0) (Zaa (pv 1) (Zaa Zaf (Zaa (pv 3) Zad))))))
   (Zae (Zax (i:=5) scLWords.nd rfl (Or.inr rfl) (Zhu PySem.F.plainAttrs_str PySem.F.slot_str_join PySem.F.type_str_join mt_join Za1 (Zaa (Zel (N:=["_law_m", "_law_script", "_law_k"]) (sc:=Zab Zcz) (own:=["_law_m"]) (fr:=["_law_script", "_law_k"]) (js:=[0,1]) ⟨rfl,rfl,rfl,rfl,by decide +kernel,by decide +kernel,by decide +kernel,rfl,by decide +kernel⟩ rfl (Zcg (by rfl) T.range (Zaa (pv 3) Zad)) (fun _ _ _ _=>Zaq (i:=0) (show List.Nodup (["_law_m", "_law_script", "_law_k"]:List Str) by decide +kernel) rfl (Or.inl rfl)) (fun _ _ _ _=>Zbm) (fun _ _ _ _=>(Zaj G_l_sign hr1 (by rfl) D_l_sign.m D_l_sign.F.kp D_l_sign.b .nil Zaw (Zaa (Zaj G_l_draw hr2 (by rfl) D_l_draw.m D_l_draw.F.kp D_l_draw.b .nil Zaw (Zaa (pv 1) (Zaa (Zaz Zbv (pv 2) (pv 0)) (Zaa Zaf (Zaa Zaf Zad))))) Zad)))) Zad)))
   (Zag (Zan (Zel (N:=["_law_letter", "_law_base", "_law_at"]) (sc:=Zab Zcz) (own:=["_law_letter"]) (fr:=["_law_base", "_law_at"]) (js:=[5,4]) ⟨rfl,rfl,rfl,rfl,by decide +kernel,by decide +kernel,by decide +kernel,rfl,by decide +kernel⟩ rfl (pi_str (pv 2)) (fun _ _ _ _=>Zaq (i:=0) (show List.Nodup (["_law_letter", "_law_base", "_law_at"]:List Str) by decide +kernel) rfl (Or.inl rfl)) (fun _ _ _ _=>Zbm) (fun _ _ _ _=>(Zaz Zbi (Zaz Zbi (Zhq Zme (pv 1) Zjg (Zjf (pv 2))) (pv 0)) (Zhq Zme (pv 1) (Zjf (Zaz Zbv (pv 2) Zaf)) Zjg)))))))))),?_⟩
  have z1:=Zkn ns k
  have a1:=Zm4 ns k
  refine ⟨_,rfl,_,rfl,a,ns,k,_,_,rfl,hS,hn,k0,by lia,by decide,by decide,⟨_,_,rfl,rfl,?_⟩⟩
  dsimp only
  refine Zhi (fun σ' H'=>σ'=[some (.ref a),some (.int k),some (.str z),some (.int (wz ns k)),none,none]∧H'=H) ?_ (fun N hN=>?_)
  ·rintro σ' H' ⟨rfl,rfl⟩
   refine ⟨_,rfl,_,rfl,_,rfl,a,ns,k,_,_,rfl,hS,hn,k0,by lia,by decide,by lia,?_⟩
   have ea:dw ns k 20011 (wz ns k)=wa ns k:=rfl
   rw [ea]
   refine ⟨rfl,_,rfl,_,rfl,by lia,by lia,fun D hD=>?_⟩
   refine lcJ (n:=(wz ns k).toNat) (fun i ys H2=>ys=((List.range i).map fun (m:Nat)=>(⟨#[sgn (dw ns (k + (m:Int)) 25013 94)]⟩:Str)).map V.str∧Same H' H2∧H2 D=some (.lst ys)) ⟨rfl,Same.new hD,Zac⟩
    (fun i _ _ hi _=>hi) (fun _ _ _=>Nat.le_refl _) ?_ ?_
   ·rintro i ys H2 v H3 hi ⟨rfl,s2,e2⟩ ⟨rfl,rfl⟩
    refine Zch ?_
    refine ⟨_,rfl,_,rfl,_,rfl,_,_,rfl,rfl,a,ns,_,_,_,rfl,s2.seq hS,hn,by lia,by lia,by decide,by decide,_,rfl,?_⟩
    refine ⟨_,e2,by rw [List.length_map,List.length_map,List.length_range]; lia,?_,s2.put hD,Zac⟩
    rw [List.range_succ,List.map_append,List.map_append,Int.zero_add]
    rfl
   rintro ys H2 ⟨rfl,s2,e2⟩
   have hb:=join_wb ns k (wz ns k).toNat
   refine ⟨_,D,_,rfl,rfl,SqL.of e2,?_,?_⟩
   ·have:(((List.range (wz ns k).toNat).map fun (m:Nat)=>(⟨#[sgn (dw ns (k + (m:Int)) 25013 94)]⟩:Str)).map (·.length)).sum ≤ 30:=by
     have go:∀ l:List Nat,((l.map fun (m:Nat)=>(⟨#[sgn (dw ns (k + (m:Int)) 25013 94)]⟩:Str)).map (·.length)).sum=l.length:=fun l=>by
      induction l with
      | nil=>rfl
      | cons x r ih=>rw [List.map_cons,List.map_cons,List.sum_cons,ih,List.length_cons]; show 1 + _=_; lia
     rw [go,List.length_range]
     lia
    rw [List.length_map,List.length_range,show (Str.ofString "").length=0 from by decide +kernel]
    lia
   have hb':Txt.join (Str.ofString "") ((List.range (wz ns k).toNat).map fun (m:Nat)=>(⟨#[sgn (dw ns (k + (m:Int)) 25013 94)]⟩:Str))=⟨(wb ns k (wz ns k).toNat).toArray⟩:=hb
   rw [hb']
   have bl:(Str.mk (wb ns k (wz ns k).toNat).toArray).length=(wz ns k).toNat:=by rw [Zir,Zfx]
   refine ⟨_,rfl,z,rfl,?_,fun D2 hD2=>?_⟩
   ·rw [← Array.all_toList]
    exact List.all_eq_true.mpr fun c hc=>decide_eq_true (hz c hc)
   refine lcJ (n:=z.cps.size) (fun i ys H3=>ys=(((cs z).take i).map (wdS ns k)).map V.str∧Same H2 H3∧H3 D2=some (.lst ys)) ⟨rfl,Same.new hD2,Zac⟩ (fun i _ _ hi _=>hi) (fun _ _ _=>Nat.le_refl _) ?_ ?_
   ·rintro i ys H3 v H4 hi ⟨rfl,s3,e3⟩ ⟨rfl,c,hc,rfl⟩
    refine Zch ?_
    have hc':(cs z)[i]? = some c:=by
     show z.cps.toList[i]? = some c
     simpa using hc
    have l1:(Txt.slice (Str.mk (wb ns k (wz ns k).toNat).toArray) none (some (wa ns k)))=⟨((wb ns k (wz ns k).toNat).take (wa ns k).toNat).toArray⟩:=by
     have:=StrLaws.sliceText_to (x:=Str.mk (wb ns k (wz ns k).toNat).toArray) (j:=wa ns k) ⟨a1.1,by show wa ns k ≤ ((wb ns k (wz ns k).toNat).length:Int); rw [Zfx]; lia⟩
     refine this.trans ?_
     show Str.mk (((wb ns k (wz ns k).toNat).drop 0).take (wa ns k - 0).toNat).toArray=_
     rw [List.drop_zero,Int.sub_zero]
    have l2:(Txt.slice (Str.mk (wb ns k (wz ns k).toNat).toArray) (some (wa ns k + 1)) none)=⟨((wb ns k (wz ns k).toNat).drop ((wa ns k).toNat + 1)).toArray⟩:=by
     have:=StrLaws.sliceText_from (x:=Str.mk (wb ns k (wz ns k).toNat).toArray) (i:=wa ns k + 1) ⟨by lia,by show wa ns k + 1 ≤ ((wb ns k (wz ns k).toNat).length:Int); rw [Zfx]; lia⟩
     refine this.trans ?_
     show Str.mk (((wb ns k (wz ns k).toNat).drop (wa ns k + 1).toNat).take (((wb ns k (wz ns k).toNat).length:Int) - (wa ns k + 1)).toNat).toArray=_
     rw [show (wa ns k + 1).toNat=(wa ns k).toNat + 1 from by lia,List.take_of_length_le (by rw [List.length_drop]; lia)]
    refine ⟨_,rfl,_,rfl,_,rfl,_,rfl,by rw [bl]; lia,?_⟩
    rw [l1]
    refine ⟨_,rfl,_,_,rfl,rfl,?_,?_⟩
    ·rw [Zir,List.length_take,Zfx]
     show min _ _ + 1 ≤ sizeLine
     lia
    refine ⟨_,rfl,_,rfl,_,_,rfl,rfl,_,rfl,_,rfl,by rw [bl]; lia,?_⟩
    rw [l2]
    refine ⟨_,_,rfl,rfl,?_,?_⟩
    ·rw [← Zkh,Ze0,List.length_append,cs_mk,List.length_take,Zfx,Zir,List.length_drop,Zfx]
     show min _ _ + 1 + _ ≤ sizeLine
     lia
    have ew:(Str.mk ((wb ns k (wz ns k).toNat).take (wa ns k).toNat).toArray) ++ (⟨#[c]⟩:Str) ++ (Str.mk ((wb ns k (wz ns k).toNat).drop ((wa ns k).toNat + 1)).toArray)=wdS ns k c:=by
     apply Zm2
     rw [Ze0,Ze0]
     rfl
    rw [ew]
    have zl:(cs z).length=z.length:=Zkh z
    refine ⟨_,e3,by rw [List.length_map,List.length_map,List.length_take]; lia,?_,s3.put hD2,Zac⟩
    rw [List.take_succ,hc',List.map_append,List.map_append]
    rfl
   ·rintro ys H3 ⟨rfl,s3,e3⟩
    rw [List.take_of_length_le (by rw [Zkh]; exact Nat.le_refl _)] at e3
    exact q D2 H3 (s2.trans s3) (s2.free hD2) e3
  ·refine ⟨_,rfl,_,rfl,a,ns,k,_,_,rfl,hS,hn,k0,by lia,by decide,by decide,rfl,_,rfl,?_⟩
   refine ite2 (fun hc=>?_) (fun hc=>?_)
   ·have hw:wz ns k=30:=if_pos (V.int.inj (of_decide_eq_true hc))
    rw [hw] at hN
    exact hN _ _ ⟨rfl,rfl⟩
   ·have hw:wz ns k=1 + dw ns k 10007 6:=if_neg fun z=>hc (decide_eq_true (by rw [z]))
    rw [hw] at hN
    exact hN _ _ ⟨rfl,rfl⟩
inductive spPrice (K:PySem.W.Frag) (vs:List V) (H:Hp) (Q:VK) (E0_:XK):Prop
 | mk (a:Addr) (ns:List Int) (k:Int) (c0:vs=[.ref a,.int k]) (c1:SqL K H a (ns.map V.int)) (c2:ns.length ≤ 63) (c3:0 ≤ k) (c4:k < 1000) (c5:∀ r:Int,1 ≤ r→r ≤ 1000000000→Q (.int r) H):spPrice K vs H Q E0_
inductive spWhole (vs:List V) (H:Hp) (Q:VK) (E0_:XK):Prop
 | mk (i:Int) (c0:vs=[.int i]) (c1:Q (.bl true) H):spWhole  vs H Q E0_
noncomputable abbrev Zhy:List Str:=["_law_script", "_law_k"]
noncomputable abbrev nLPrice:List Str:=["_law_script", "_law_k"]
theorem scLPrice:FnScope nLPrice Zhy (Zab Zdz):=⟨rfl,rfl,rfl,by decide +kernel,rfl,by decide +kernel,by decide +kernel⟩
noncomputable abbrev Zhw:List Str:=["_law_thing"]
noncomputable abbrev nLWhole:List Str:=["_law_thing"]
theorem scLWhole:FnScope nLWhole Zhw (Zab Zdx):=⟨rfl,rfl,rfl,by decide +kernel,rfl,by decide +kernel,by decide +kernel⟩
theorem ok_price {f f1 f2:Addr} {fd d1 d2:FuncData} (F:Fun K "_law_price" "_law_price" Zdz f fd) (D_l_draw:Df K mg "_law_draw" Zeq Zey f1 d1) (G_l_draw:FnOk P w K mg base CX0 2 f1 d1 Zey (spDraw K)) (D_l_cell:Df K mg "_law_cell" Zes Zf2 f2 d2) (G_l_cell:FnOk P w K mg base CX0 1 f2 d2 Zf2 (spCell K)):FnOk P w K mg base CX0 3 f fd Zhy (spPrice K):=by
 refine F.ok scLPrice (fun vs H Q E h=>?_) (fun cdv A outer s H vs Q E hr2 h=>?_)
 ·obtain ⟨a,ns,k,rfl,_⟩:=h
  rfl
 ·obtain ⟨a,ns,k,rfl,hS,hn,k0,k1,q⟩:=h
  have hr1:Room 1 _:=hr2.mono (by decide)
  have pw:(10:Int) ^ (9:Int).toNat=1000000000:=by decide +kernel
  refine ⟨_,(Zae (Zbc (Zav Zdr (Zaj G_l_draw hr2 (by rfl) D_l_draw.m D_l_draw.F.kp D_l_draw.b .nil Zaw (Zaa (pv 0) (Zaa (pv 1) (Zaa Zaf (Zaa Zaf Zad))))) Zaf (Za0 _)) (Zag (Zan (Zaz Zbv Zaf (Zaz Zez (Zaz Zdv (Zaj G_l_cell hr1 (by rfl) D_l_cell.m D_l_cell.F.kp D_l_cell.b .nil Zaw (Zaa (pv 0) (Zaa (pv 1) Zad))) Zaf) (Zaz op_pow Zaf Zaf))))) Zau)
   (Zag (Zan (Zaz Zbv Zaf (Zaj G_l_draw hr2 (by rfl) D_l_draw.m D_l_draw.F.kp D_l_draw.b .nil Zaw (Zaa (pv 0) (Zaa (pv 1) (Zaa Zaf (Zaa Zaf Zad))))))))),?_⟩
  refine ⟨_,rfl,_,rfl,a,ns,k,_,_,rfl,hS,hn,k0,by lia,by decide,by decide,fun r a1 b1=>⟨rfl,_,rfl,?_⟩⟩
  refine ite2 (fun _=>?_) (fun _=>?_)
  ·refine ⟨_,rfl,_,rfl,a,ns,k,rfl,hS,hn,k0,_,_,rfl,rfl,.inr ⟨by decide,by decide⟩,_,_,rfl,rfl,⟨by decide,by decide,by decide⟩,_,_,rfl,rfl,(by show (0:Int) < _; rw [pw]; decide),_,_,rfl,rfl,?_⟩
   have h0:=Int.emod_nonneg (cl ns k * 48271) (show (1000000000:Int) ≠ 0 by decide)
   have h1:=Int.emod_lt_of_pos (cl ns k * 48271) (show (0:Int) < 1000000000 by decide)
   rw [pw]
   exact q _ (by lia) (by lia)
  ·unfold tNext
   dsimp only
   refine ⟨_,rfl,_,rfl,a,ns,k,_,_,rfl,hS,hn,k0,by lia,by decide,by decide,fun r a1 b1=>⟨_,_,rfl,rfl,q _ (by lia) (by lia)⟩⟩
theorem ok_whole {f:Addr} {fd:FuncData} (F:Fun K "_law_whole" "_law_whole" Zdx f fd) (T:Bl mg):FnOk P w K mg base CX0 1 f fd Zhw spWhole:=by
 refine F.ok scLWhole (fun vs H Q E h=>?_) (fun cdv A outer s H vs Q E hr h=>?_)
 ·obtain ⟨i,rfl,_⟩:=h
  rfl
 ·obtain ⟨i,rfl,q⟩:=h
  refine ⟨_,(Zag (Zan (pe_and (Zat Zkl (by rfl) T.isi Zdh (Zaa (pv 0) (Zaa (Zdl (v:=.ty "int") (by rfl) T.int bt_int rfl) Zad))) (pe_one (pe_not (Zat Zkl (by rfl) T.isi Zdh (Zaa (pv 0) (Zaa (Zdl (v:=.ty "bool") (by rfl) T.bool bt_bool rfl) Zad)))))))),?_⟩
  refine ⟨_,rfl,i,_,rfl,.inl ⟨rfl,_,rfl,?_⟩⟩
  refine iteT ?_
  exact ⟨_,rfl,i,_,rfl,.inr ⟨rfl,_,rfl,q⟩⟩
inductive Pn where
 | stop
 | dd (d:Str) (r:Pn)
 | lk (l:Str) (ws:Pn)
 | nil
 | way (a:Str) (p r:Pn)
noncomputable abbrev tStop:Str:=Str.ofString "stop"
noncomputable abbrev tDo:Str:=Str.ofString "do "
noncomputable abbrev tLook:Str:=Str.ofString "look "
noncomputable abbrev tCase:Str:=Str.ofString " case "
noncomputable abbrev tTwo:Str:=Str.ofString "  "
theorem Zmc {a b:Str} (e:cs a=cs b):a=b:=by
 have e2:a.cps=b.cps:=Array.toList_inj.mp e
 cases a
 cases b
 cases e2
 rfl
theorem Zdt (a b c:Str):a ++ b ++ c=a ++ (b ++ c):=Zmc (by rw [Ze0,Ze0,Ze0,Ze0,List.append_assoc])
theorem Zmy (a:Str):Str.empty ++ a=a:=Zmc (by rw [Ze0]; rfl)
noncomputable def anP:Pn→List Str
 | .way a _ r=>a :: anP r
 | _=>[]
noncomputable def okP:Bool→Pn→Prop
 | true,.stop=>True
 | true,.dd d r=>Lb d∧okP true r
 | true,.lk l ws=>Lb l∧ws ≠ .nil∧((anP ws).Nodup∧(anP ws).length ≤ 1000)∧okP false ws
 | false,.nil=>True
 | false,.way a p r=>Lb a∧okP true p∧okP false r
 | _,_=>False
noncomputable def htP:Pn→Nat
 | .stop=>1
 | .dd _ r=>htP r + 1
 | .lk _ ws=>htP ws + 1
 | .nil=>0
 | .way _ p r=>max (htP p) (htP r)
noncomputable def szP:Pn→Nat
 | .stop=>1
 | .dd _ r=>szP r + 1
 | .lk _ ws=>szP ws + 1
 | .nil=>0
 | .way _ p r=>szP p + szP r
noncomputable def Zg3:Pn→Str
 | .dd d _=>tDo ++ d
 | .lk l _=>tLook ++ l
 | _=>tStop
noncomputable def lnsP:Pn→List Str
 | .stop=>[tStop]
 | .dd d r=>(tDo ++ d) :: lnsP r
 | .lk l ws=>(tLook ++ l) :: lnsP ws
 | .nil=>[]
 | .way a p r=>(tCase ++ a) :: ((lnsP p).map (tTwo ++ ·) ++ lnsP r)
noncomputable def wtP:Pn→Nat
 | .stop=>1
 | .dd _ r=>wtP r + 1
 | .lk _ ws=>wtP ws + 1
 | .nil=>0
 | .way _ p r=>wtP p + wtP r + 1
theorem Zd4:∀ t:Pn,(lnsP t).length=wtP t
 | .stop=>rfl
 | .dd _ r=>congrArg (· + 1) (Zd4 r)
 | .lk _ ws=>congrArg (· + 1) (Zd4 ws)
 | .nil=>rfl
 | .way a p r=>by
  show ((lnsP p).map (tTwo ++ ·) ++ lnsP r).length + 1=_
  rw [List.length_append,List.length_map,Zd4 p,Zd4 r]
  rfl
theorem Zhg:∀ t:Pn,szP t ≤ wtP t
 | .stop=>Nat.le_refl _
 | .dd _ r=>Nat.succ_le_succ (Zhg r)
 | .lk _ ws=>Nat.succ_le_succ (Zhg ws)
 | .nil=>Nat.le_refl _
 | .way _ p r=>by
  have h1:=Zhg p
  have h2:=Zhg r
  show szP p + szP r ≤ wtP p + wtP r + 1
  lia
noncomputable abbrev Rw:=Pn × Option Nat × Option Str
noncomputable def rwsP:Pn→Nat→Option Nat→Option Str→List Rw
 | .stop,_,b,a=>[(.stop,b,a)]
 | .dd d r,n,b,a=>(.dd d r,b,a) :: rwsP r (n + 1) (some n) none
 | .lk l ws,n,b,a=>(.lk l ws,b,a) :: rwsP ws (n + 1) (some n) none
 | .nil,_,_,_=>[]
 | .way x p r,n,b,_=>rwsP p n b (some x) ++ rwsP r (n + szP p) b none
theorem Zcq:∀ (t:Pn) (n:Nat) (b:Option Nat) (a:Option Str),(rwsP t n b a).length=szP t
 | .stop,_,_,_=>rfl
 | .dd _ r,_,_,_=>congrArg (· + 1) (Zcq r _ _ _)
 | .lk _ ws,_,_,_=>congrArg (· + 1) (Zcq ws _ _ _)
 | .nil,_,_,_=>rfl
 | .way x p r,n,b,a=>by
  show (rwsP p n b (some x) ++ rwsP r (n + szP p) b none).length=_
  rw [List.length_append,Zcq p,Zcq r]
  rfl
noncomputable def rstP:List Rw→Nat→List Rw
 | [],_=>[]
 | w :: r,n=>rwsP w.1 n w.2.1 w.2.2 ++ rstP r (n + szP w.1)
noncomputable def kidW:Pn→Nat→List Rw
 | .way a p r,n=>(p,some n,some a) :: kidW r n
 | _,_=>[]
noncomputable def kids:Pn→Nat→List Rw
 | .dd _ r,n=>[(r,some n,none)]
 | .lk _ ws,n=>kidW ws n
 | _,_=>[]
theorem Zju:∀ (ws:Pn) (n m:Nat) (r:List Rw),okP false ws→rwsP ws m (some n) none ++ rstP r (m + szP ws)=rstP (kidW ws n ++ r) m
 | .nil,_,_,_,_=>rfl
 | .way a p q,n,m,r,h=>by
  have e:=Zju q n (m + szP p) r h.2.2
  show (rwsP p m (some n) (some a) ++ rwsP q (m + szP p) (some n) none) ++ rstP r (m + (szP p + szP q))=rwsP p m (some n) (some a) ++ rstP (kidW q n ++ r) (m + szP p)
  rw [List.append_assoc,← e,Nat.add_assoc]
 | .stop,_,_,_,h=>h.elim
 | .dd _ _,_,_,_,h=>h.elim
 | .lk _ _,_,_,_,h=>h.elim
theorem rst_step {t:Pn} {b:Option Nat} {a:Option Str} (r:List Rw) (n:Nat) (h:okP true t):rstP ((t,b,a) :: r) n=(t,b,a) :: rstP (kids t n ++ r) (n + 1):=by
 cases t with
 | stop=>rfl
 | dd d q=>
  show (.dd d q,b,a) :: (rwsP q (n + 1) (some n) none ++ rstP r (n + (szP q + 1)))=(.dd d q,b,a) :: (rwsP q (n + 1) (some n) none ++ rstP r (n + 1 + szP q))
  rw [show n + (szP q + 1)=n + 1 + szP q by lia]
 | lk l ws=>
  show (.lk l ws,b,a) :: (rwsP ws (n + 1) (some n) none ++ rstP r (n + (szP ws + 1)))=(.lk l ws,b,a) :: rstP (kidW ws n ++ r) (n + 1)
  rw [← Zju ws n (n + 1) r h.2.2.2,show n + (szP ws + 1)=n + 1 + szP ws by lia]
 | nil=>exact h.elim
 | way _ _ _=>exact h.elim
noncomputable def indP (ind:List Str) (b:Option Nat):Str:=match b with
 | none=>Str.empty
 | some k=>ind.getD k Str.empty
noncomputable def stepL (st:List Str × List Str) (w:Rw):List Str × List Str:=match w.2.2 with
 | none=>(st.1 ++ [indP st.2 w.2.1 ++ Zg3 w.1],st.2 ++ [indP st.2 w.2.1])
 | some a=>(st.1 ++ [indP st.2 w.2.1 ++ tCase ++ a] ++ [indP st.2 w.2.1 ++ tTwo ++ Zg3 w.1],st.2 ++ [indP st.2 w.2.1 ++ tTwo])
noncomputable def lnA (t:Pn):Option Str→List Str
 | none=>lnsP t
 | some a=>(tCase ++ a) :: (lnsP t).map (tTwo ++ ·)
theorem Zf9 (ind:List Str) (x:Str):indP (ind ++ [x]) (some ind.length)=x:=by
 show (ind ++ [x]).getD ind.length Str.empty=x
 rw [List.getD_eq_getElem?_getD,List.getElem?_append_right (Nat.le_refl _),Nat.sub_self]
 rfl
noncomputable def inB (n:Nat):Option Nat→Prop
 | none=>True
 | some k=>k < n
theorem ind_app {ind:List Str} (L:List Str) {b:Option Nat} (h:inB ind.length b):indP (ind ++ L) b=indP ind b:=by
 cases b with
 | none=>rfl
 | some k=>
  show (ind ++ L).getD k Str.empty=ind.getD k Str.empty
  rw [List.getD_eq_getElem?_getD,List.getD_eq_getElem?_getD,List.getElem?_append_left h]
theorem Zgs (a b:Str) (xs:List Str):(xs.map (b ++ ·)).map (a ++ ·)=xs.map (a ++ b ++ ·):=by
 rw [List.map_map]
 exact List.map_congr_left fun x _=>(Zdt a b x).symm
theorem Zfk:∀ (t:Pn) (p:Bool) (a:Option Str) (b:Option Nat) (n:Nat) (st:List Str × List Str),okP p t→(p=false→a=none)→st.2.length=n→inB n b →
  ∃ L:List Str,L.length=szP t∧(rwsP t n b a).foldl stepL st=(st.1 ++ (lnA t a).map (indP st.2 b ++ ·),st.2 ++ L)
 | .stop,_,none,b,n,st,_,_,_,_=>⟨[indP st.2 b],rfl,rfl⟩
 | .stop,_,some a,b,n,st,_,_,_,_=>⟨[indP st.2 b ++ tTwo],rfl,by
  show (st.1 ++ [indP st.2 b ++ tCase ++ a] ++ [indP st.2 b ++ tTwo ++ tStop],_)=(st.1 ++ [indP st.2 b ++ (tCase ++ a),indP st.2 b ++ (tTwo ++ tStop)],_)
  rw [List.append_assoc,Zdt,Zdt]
  rfl⟩
 | .dd d r,true,a,b,n,st,h,_,hn,hb=>by
  obtain ⟨L,hL,e⟩:=Zfk r true none (some n) (n + 1) (stepL st (.dd d r,b,a)) h.2 (fun z=>by cases z) (by cases a <;> simp [stepL,hn]) (Nat.lt_succ_self n)
  cases a with
  | none=>
   refine ⟨indP st.2 b :: L,by rw [List.length_cons,hL]; rfl,?_⟩
   have e1:indP (st.2 ++ [indP st.2 b]) (some n)=indP st.2 b:=by rw [← hn]; exact Zf9 _ _
   have e':(rwsP r (n + 1) (some n) none).foldl stepL (st.1 ++ [indP st.2 b ++ (tDo ++ d)],st.2 ++ [indP st.2 b])=((st.1 ++ [indP st.2 b ++ (tDo ++ d)]) ++ (lnsP r).map (indP (st.2 ++ [indP st.2 b]) (some n) ++ ·),(st.2 ++ [indP st.2 b]) ++ L):=e
   show (rwsP r (n + 1) (some n) none).foldl stepL (st.1 ++ [indP st.2 b ++ (tDo ++ d)],st.2 ++ [indP st.2 b])=(st.1 ++ (indP st.2 b ++ (tDo ++ d)) :: (lnsP r).map (indP st.2 b ++ ·),_)
   rw [e',e1,List.append_assoc,List.append_assoc]
   rfl
  | some a=>
   refine ⟨(indP st.2 b ++ tTwo) :: L,by rw [List.length_cons,hL]; rfl,?_⟩
   have e1:indP (st.2 ++ [indP st.2 b ++ tTwo]) (some n)=indP st.2 b ++ tTwo:=by rw [← hn]; exact Zf9 _ _
   have e':(rwsP r (n + 1) (some n) none).foldl stepL (st.1 ++ [indP st.2 b ++ tCase ++ a] ++ [indP st.2 b ++ tTwo ++ (tDo ++ d)],st.2 ++ [indP st.2 b ++ tTwo])=((st.1 ++ [indP st.2 b ++ tCase ++ a] ++ [indP st.2 b ++ tTwo ++ (tDo ++ d)]) ++ (lnsP r).map (indP (st.2 ++ [indP st.2 b ++ tTwo]) (some n) ++ ·),(st.2 ++ [indP st.2 b ++ tTwo]) ++ L):=e
   show (rwsP r (n + 1) (some n) none).foldl stepL (st.1 ++ [indP st.2 b ++ tCase ++ a] ++ [indP st.2 b ++ tTwo ++ (tDo ++ d)],st.2 ++ [indP st.2 b ++ tTwo])=(st.1 ++ (indP st.2 b ++ (tCase ++ a)) :: (indP st.2 b ++ (tTwo ++ (tDo ++ d))) :: ((lnsP r).map (tTwo ++ ·)).map (indP st.2 b ++ ·),_)
   rw [e',e1,Zgs,Zdt _ tCase a,Zdt _ tTwo (tDo ++ d),List.append_assoc,List.append_assoc,List.append_assoc]
   rfl
 | .lk l ws,true,a,b,n,st,h,_,hn,hb=>by
  obtain ⟨L,hL,e⟩:=Zfk ws false none (some n) (n + 1) (stepL st (.lk l ws,b,a)) h.2.2.2 (fun _=>rfl) (by cases a <;> simp [stepL,hn]) (Nat.lt_succ_self n)
  cases a with
  | none=>
   refine ⟨indP st.2 b :: L,by rw [List.length_cons,hL]; rfl,?_⟩
   have e1:indP (st.2 ++ [indP st.2 b]) (some n)=indP st.2 b:=by rw [← hn]; exact Zf9 _ _
   have e':(rwsP ws (n + 1) (some n) none).foldl stepL (st.1 ++ [indP st.2 b ++ (tLook ++ l)],st.2 ++ [indP st.2 b])=((st.1 ++ [indP st.2 b ++ (tLook ++ l)]) ++ (lnsP ws).map (indP (st.2 ++ [indP st.2 b]) (some n) ++ ·),(st.2 ++ [indP st.2 b]) ++ L):=e
   show (rwsP ws (n + 1) (some n) none).foldl stepL (st.1 ++ [indP st.2 b ++ (tLook ++ l)],st.2 ++ [indP st.2 b])=(st.1 ++ (indP st.2 b ++ (tLook ++ l)) :: (lnsP ws).map (indP st.2 b ++ ·),_)
   rw [e',e1,List.append_assoc,List.append_assoc]
   rfl
  | some a=>
   refine ⟨(indP st.2 b ++ tTwo) :: L,by rw [List.length_cons,hL]; rfl,?_⟩
   have e1:indP (st.2 ++ [indP st.2 b ++ tTwo]) (some n)=indP st.2 b ++ tTwo:=by rw [← hn]; exact Zf9 _ _
   have e':(rwsP ws (n + 1) (some n) none).foldl stepL (st.1 ++ [indP st.2 b ++ tCase ++ a] ++ [indP st.2 b ++ tTwo ++ (tLook ++ l)],st.2 ++ [indP st.2 b ++ tTwo])=((st.1 ++ [indP st.2 b ++ tCase ++ a] ++ [indP st.2 b ++ tTwo ++ (tLook ++ l)]) ++ (lnsP ws).map (indP (st.2 ++ [indP st.2 b ++ tTwo]) (some n) ++ ·),(st.2 ++ [indP st.2 b ++ tTwo]) ++ L):=e
   show (rwsP ws (n + 1) (some n) none).foldl stepL (st.1 ++ [indP st.2 b ++ tCase ++ a] ++ [indP st.2 b ++ tTwo ++ (tLook ++ l)],st.2 ++ [indP st.2 b ++ tTwo])=(st.1 ++ (indP st.2 b ++ (tCase ++ a)) :: (indP st.2 b ++ (tTwo ++ (tLook ++ l))) :: ((lnsP ws).map (tTwo ++ ·)).map (indP st.2 b ++ ·),_)
   rw [e',e1,Zgs,Zdt _ tCase a,Zdt _ tTwo (tLook ++ l),List.append_assoc,List.append_assoc,List.append_assoc]
   rfl
 | .nil,false,a,b,n,st,_,ha,_,_=>⟨[],rfl,by
  rw [ha rfl]
  show st=(st.1 ++ [],st.2 ++ [])
  rw [List.append_nil,List.append_nil]⟩
 | .way x p r,false,a,b,n,st,h,ha,hn,hb=>by
  obtain rfl:=ha rfl
  obtain ⟨L1,h1,e1⟩:=Zfk p true (some x) b n st h.2.1 (fun z=>by cases z) hn hb
  obtain ⟨L2,h2,e2⟩:=Zfk r false none b (n + szP p) (st.1 ++ (lnA p (some x)).map (indP st.2 b ++ ·),st.2 ++ L1) h.2.2 (fun _=>rfl) (by show (st.2 ++ L1).length=_; rw [List.length_append,hn,h1]) (by cases b with
   | none=>trivial
   | some k=>exact Nat.lt_of_lt_of_le hb (Nat.le_add_right ..))
  refine ⟨L1 ++ L2,by rw [List.length_append,h1,h2]; rfl,?_⟩
  show (rwsP p n b (some x) ++ rwsP r (n + szP p) b none).foldl stepL st=_
  rw [List.foldl_append,e1,e2,ind_app L1 (by rw [hn]; exact hb)]
  show ((st.1 ++ (lnA p (some x)).map (indP st.2 b ++ ·)) ++ (lnsP r).map (indP st.2 b ++ ·),(st.2 ++ L1) ++ L2)=(st.1 ++ ((tCase ++ x) :: ((lnsP p).map (tTwo ++ ·) ++ lnsP r)).map (indP st.2 b ++ ·),st.2 ++ (L1 ++ L2))
  rw [List.append_assoc,List.append_assoc,← List.map_append]
  rfl
 | .nil,true,_,_,_,_,h,_,_,_=>h.elim
 | .way _ _ _,true,_,_,_,_,h,_,_,_=>h.elim
 | .dd _ _,false,_,_,_,_,h,_,_,_=>h.elim
 | .lk _ _,false,_,_,_,_,h,_,_,_=>h.elim
theorem fold_lns {t:Pn} (h:okP true t):∃ L:List Str,L.length=szP t∧(rstP [(t,none,none)] 0).foldl stepL ([],[])=(lnsP t,L):=by
 obtain ⟨L,hL,e⟩:=Zfk t true none none 0 ([],[]) h (fun z=>by cases z) rfl trivial
 refine ⟨L,hL,?_⟩
 show (rwsP t 0 none none ++ []).foldl stepL ([],[])=_
 rw [List.append_nil,e]
 have e2:∀ xs:List Str,xs.map (Str.empty ++ ·)=xs:=fun xs=>by
  have:(fun x:Str=>Str.empty ++ x)=id:=funext fun x=>Zmy x
  rw [this,List.map_id]
 show ([] ++ (lnsP t).map (Str.empty ++ ·),[] ++ L)=_
 rw [e2]
 rfl
end
end K36
namespace K36
open PySem L2 Tx Rk PyProof.Rows PySem.SeqAt
open PySem.PyData (strOk)
end K36
namespace K36
open PySem L2 Tx Rk PyProof.Rows PySem.SeqAt
open PySem.PyData (strOk)
section
variable {P:Program} {w:World} {K:PySem.W.Frag} {mg:Str→Option Value} {base:Heap}
noncomputable def TrAt (H:Hp):Pn→List V→Prop
 | .stop,vs=>∃ t:Addr,vs=[.ref t]∧H t=some (.tup [.str tStop])
 | .dd d r,vs=>∃ (t:Addr) (v:V),vs=[.ref t]∧H t=some (.tup [.str (Str.ofString "do"),.str d,v])∧TrAt H r [v]
 | .lk l ws,vs=>∃ (t u:Addr) (us:List V),vs=[.ref t]∧H t=some (.tup [.str (Str.ofString "look"),.str l,.ref u])∧H u=some (.lst us)∧TrAt H ws us
 | .nil,vs=>vs=[]
 | .way a p r,vs=>∃ (t:Addr) (v:V) (us:List V),vs=.ref t :: us∧H t=some (.tup [.str a,v])∧TrAt H p [v]∧TrAt H r us
theorem TrAt.same {H H':Hp} (s:Same H H'):∀ {t:Pn} {vs:List V},TrAt H t vs→TrAt H' t vs
 | .stop,_,⟨t,e,h⟩=>⟨t,e,s _ _ h⟩
 | .dd _ _,_,⟨t,v,e,h,r⟩=>⟨t,v,e,s _ _ h,TrAt.same s r⟩
 | .lk _ _,_,⟨t,u,us,e,h,h2,r⟩=>⟨t,u,us,e,s _ _ h,s _ _ h2,TrAt.same s r⟩
 | .nil,_,e=>e
 | .way _ _ _,_,⟨t,v,us,e,h,p,r⟩=>⟨t,v,us,e,s _ _ h,TrAt.same s p,TrAt.same s r⟩
structure C3 where
 s:Addr
 d:Addr
 l:Addr
noncomputable def fDo (d:Str) (v:V):List (Str × V):=putF "rest" v (putF "deed" (.str d) [])
noncomputable def fLk (l:Str) (v:V):List (Str × V):=putF "told_ways" v (putF "look" (.str l) [])
noncomputable def PlAt (C:C3) (H:Hp):Pn→List V→Prop
 | .stop,vs=>∃ o dx:Addr,vs=[.ref o]∧H o=some (.ins C.s dx [])
 | .dd d r,vs=>∃ (o dx:Addr) (v:V),vs=[.ref o]∧H o=some (.ins C.d dx (fDo d v))∧PlAt C H r [v]
 | .lk l ws,vs=>∃ (o dx u:Addr) (us:List V),vs=[.ref o]∧H o=some (.ins C.l dx (fLk l (.ref u)))∧H u=some (.tup us)∧PlAt C H ws us
 | .nil,vs=>vs=[]
 | .way a p r,vs=>∃ (t:Addr) (v:V) (us:List V),vs=.ref t :: us∧H t=some (.tup [.str a,v])∧PlAt C H p [v]∧PlAt C H r us
theorem PlAt.same {C:C3} {H H':Hp} (s:Same H H'):∀ {t:Pn} {vs:List V},PlAt C H t vs→PlAt C H' t vs
 | .stop,_,⟨t,dx,e,h⟩=>⟨t,dx,e,s _ _ h⟩
 | .dd _ _,_,⟨t,dx,v,e,h,r⟩=>⟨t,dx,v,e,s _ _ h,PlAt.same s r⟩
 | .lk _ _,_,⟨t,dx,u,us,e,h,h2,r⟩=>⟨t,dx,u,us,e,s _ _ h,s _ _ h2,PlAt.same s r⟩
 | .nil,_,e=>e
 | .way _ _ _,_,⟨t,v,us,e,h,p,r⟩=>⟨t,v,us,e,s _ _ h,PlAt.same s p,PlAt.same s r⟩
structure ClD (K:PySem.W.Frag) (C:Addr):Prop where
 cl:Cls K C
 n1:NoAttr K C "deed"
 n2:NoAttr K C "rest"
structure ClL (K:PySem.W.Frag) (C:Addr):Prop where
 cl:Cls K C
 n1:NoAttr K C "look"
 n2:NoAttr K C "told_ways"
theorem Zlp (d:Str) (v:V):(fDo d v).lookup ("deed" : Str)=some (.str d):=rfl
theorem fDo_r (d:Str) (v:V):(fDo d v).lookup ("rest" : Str)=some v:=rfl
theorem Zlo (l:Str) (v:V):(fLk l v).lookup ("look" : Str)=some (.str l):=rfl
theorem fLk_w (l:Str) (v:V):(fLk l v).lookup ("told_ways" : Str)=some v:=rfl
structure WyAt (H:Hp) (us:List V) (as:List Str):Prop where
 len:us.length=as.length
 got:∀ (i:Nat) u a,us[i]? = some u→as[i]? = some a→∃ (t:Addr) (v:V),u=.ref t∧H t=some (.tup [.str a,v])
theorem WyAt.same {H H':Hp} {us:List V} {as:List Str} (h:WyAt H us as) (s:Same H H'):WyAt H' us as:=⟨h.len,fun i u a h1 h2=>by
 obtain ⟨t,v,e,z⟩:=h.got i u a h1 h2
 exact ⟨t,v,e,s _ _ z⟩⟩
theorem WyAt.at {H:Hp} {us:List V} {as:List Str} (h:WyAt H us as) {i:Nat} {u:V} (e:us[i]? = some u):∃ (a:Str) (t:Addr) (v:V),as[i]? = some a∧u=.ref t∧H t=some (.tup [.str a,v]):=by
 have hi:=(List.getElem?_eq_some_iff.mp e).1
 have ha:as[i]? = some (as[i]'(by rw [← h.len]; exact hi)):=List.getElem?_eq_getElem _
 obtain ⟨t,v,e1,e2⟩:=h.got i u _ e ha
 exact ⟨_,t,v,ha,e1,e2⟩
noncomputable abbrev Zgj:List Str:=["self"]
noncomputable abbrev nStopGoesOn:List Str:=["self"]
theorem scStopGoesOn:FnScope nStopGoesOn Zgj (Zab Zcj):=⟨rfl,rfl,rfl,by decide +kernel,rfl,by decide +kernel,by decide +kernel⟩
noncomputable abbrev Zfc:List Str:=["self"]
noncomputable abbrev nStopLineHere:List Str:=["self"]
theorem scStopLineHere:FnScope nStopLineHere Zfc (Zab Zbw):=⟨rfl,rfl,rfl,by decide +kernel,rfl,by decide +kernel,by decide +kernel⟩
noncomputable abbrev Zjj:List Str:=["self", "deed", "rest"]
noncomputable abbrev nDoInit:List Str:=["self", "deed", "rest"]
theorem scDoInit:FnScope nDoInit Zjj (Zab Zfp):=⟨rfl,rfl,rfl,by decide +kernel,rfl,by decide +kernel,by decide +kernel⟩
noncomputable abbrev Zin:List Str:=["self"]
noncomputable abbrev nDoGoesOn:List Str:=["self"]
theorem scDoGoesOn:FnScope nDoGoesOn Zin (Zab Zdf):=⟨rfl,rfl,rfl,by decide +kernel,rfl,by decide +kernel,by decide +kernel⟩
noncomputable abbrev Zgq:List Str:=["self"]
noncomputable abbrev nDoLineHere:List Str:=["self"]
theorem scDoLineHere:FnScope nDoLineHere Zgq (Zab Zcl):=⟨rfl,rfl,rfl,by decide +kernel,rfl,by decide +kernel,by decide +kernel⟩
noncomputable abbrev Zeg:List Str:=["ways"]
noncomputable abbrev nCheckWays:List Str:=["ways", "answers"]
theorem scCheckWays:FnScope nCheckWays Zeg (Zab Zbz):=⟨rfl,rfl,rfl,by decide +kernel,rfl,by decide +kernel,by decide +kernel⟩
noncomputable abbrev Zfe:List Str:=["self", "look", "ways"]
noncomputable abbrev nLookInit:List Str:=["self", "look", "ways", "told"]
theorem scLookInit:FnScope nLookInit Zfe (Zab Zcy):=⟨rfl,rfl,rfl,by decide +kernel,rfl,by decide +kernel,by decide +kernel⟩
noncomputable abbrev Zgk:List Str:=["self"]
noncomputable abbrev nLookWays:List Str:=["self"]
theorem scLookWays:FnScope nLookWays Zgk (Zab Zde):=⟨rfl,rfl,rfl,by decide +kernel,rfl,by decide +kernel,by decide +kernel⟩
noncomputable abbrev Zgl:List Str:=["self"]
noncomputable abbrev nLookGoesOn:List Str:=["self"]
theorem scLookGoesOn:FnScope nLookGoesOn Zgl (Zab Zck):=⟨rfl,rfl,rfl,by decide +kernel,rfl,by decide +kernel,by decide +kernel⟩
noncomputable abbrev Zfd:List Str:=["self"]
noncomputable abbrev nLookLineHere:List Str:=["self"]
theorem scLookLineHere:FnScope nLookLineHere Zfd (Zab Zby):=⟨rfl,rfl,rfl,by decide +kernel,rfl,by decide +kernel,by decide +kernel⟩
inductive spStopGo (vs:List V) (H:Hp) (Q:VK) (E0_:XK):Prop
 | mk (x:V) (c0:vs=[x]) (c1:∀ l:Addr,H l=none→Q (.ref l) (upd H l (.lst []))):spStopGo  vs H Q E0_
inductive spStopHere (vs:List V) (H:Hp) (Q:VK) (E0_:XK):Prop
 | mk (x:V) (c0:vs=[x]) (c1:Q (.str tStop) H):spStopHere  vs H Q E0_
inductive spDoInit (C:Addr) (vs:List V) (H:Hp) (Q:VK) (E0_:XK):Prop
 | mk (x dx:Addr) (d:Str) (v:V) (c0:vs=[.ref x,.str d,v]) (c1:H x=some (.ins C dx [])) (c2:∀ H':Hp,(∀ c u,H c=some u→c ≠ x→H' c=some u)→H' x=some (.ins C dx (fDo d v))→Q .non H'):spDoInit C vs H Q E0_
inductive spDoGo (C:Addr) (vs:List V) (H:Hp) (Q:VK) (E0_:XK):Prop
 | mk (x dx:Addr) (d:Str) (v:V) (c0:vs=[.ref x]) (c1:H x=some (.ins C dx (fDo d v))) (c2:∀ (l t:Addr) (H':Hp),Same H H'→H l=none→H' l=some (.lst [.ref t])→H' t=some (.tup [.non,v])→Q (.ref l) H'):spDoGo C vs H Q E0_
inductive spDoHere (C:Addr) (vs:List V) (H:Hp) (Q:VK) (E0_:XK):Prop
 | mk (x dx:Addr) (d:Str) (v:V) (c0:vs=[.ref x]) (c1:H x=some (.ins C dx (fDo d v))) (c2:d.length ≤ 1000) (c3:Q (.str (tDo ++ d)) H):spDoHere C vs H Q E0_
inductive spCheckWays (vs:List V) (H:Hp) (Q:VK) (E0_:XK):Prop
 | mk (t:Addr) (us:List V) (as:List Str) (c0:vs=[.ref t]) (c1:H t=some (.tup us)) (c2:WyAt H us as) (c3:as ≠ []) (c4:as.Nodup) (c5:as.length ≤ 1000) (c6:∀ H':Hp,Same H H'→Q .non H'):spCheckWays  vs H Q E0_
inductive spLkInit (C:Addr) (vs:List V) (H:Hp) (Q:VK) (E0_:XK):Prop
 | mk (x dx u:Addr) (l:Str) (us:List V) (as:List Str) (c0:vs=[.ref x,.str l,.ref u]) (c1:H x=some (.ins C dx [])) (c2:H u=some (.lst us)) (c3:WyAt H us as) (c4:as ≠ []) (c5:as.Nodup) (c6:as.length ≤ 1000) (c7:∀ (tw:Addr) (H':Hp),(∀ c u,H c=some u→c ≠ x→H' c=some u)→H' x=some (.ins C dx (fLk l (.ref tw)))→H' tw=some (.tup us)→Q .non H'):spLkInit C vs H Q E0_
inductive spLkWays (C:Addr) (vs:List V) (H:Hp) (Q:VK) (E0_:XK):Prop
 | mk (x dx u:Addr) (l:Str) (us:List V) (c0:vs=[.ref x]) (c1:H x=some (.ins C dx (fLk l (.ref u)))) (c2:H u=some (.tup us)) (c3:∀ r:Addr,H r=none→Q (.ref r) (upd H r (.lst us))):spLkWays C vs H Q E0_
inductive spLkHere (C:Addr) (vs:List V) (H:Hp) (Q:VK) (E0_:XK):Prop
 | mk (x dx:Addr) (l:Str) (v:V) (c0:vs=[.ref x]) (c1:H x=some (.ins C dx (fLk l v))) (c2:l.length ≤ 1000) (c3:Q (.str (tLook ++ l)) H):spLkHere C vs H Q E0_
theorem ok_stopgo {f:Addr} {fd:FuncData} (F:Fun K "goes_on" "Stop.goes_on" Zcj f fd):FnOk P w K mg base CX0 1 f fd Zgj spStopGo:=by
 refine F.ok scStopGoesOn (fun vs H Q E h=>?_) (fun cdv A outer s H vs Q E hr h=>?_)
 ·obtain ⟨x,rfl,_⟩:=h
  rfl
 ·obtain ⟨x,rfl,q⟩:=h
  refine ⟨_,(Zag (Zan (Zc0 Zad))),?_⟩
  exact ⟨by show 0 ≤ sizeLine; lia,q⟩
theorem ok_stophere {f:Addr} {fd:FuncData} (F:Fun K "line_here" "Stop.line_here" Zbw f fd):FnOk P w K mg base CX0 1 f fd Zfc spStopHere:=by
 refine F.ok scStopLineHere (fun vs H Q E h=>?_) (fun cdv A outer s H vs Q E hr h=>?_)
 ·obtain ⟨x,rfl,_⟩:=h
  rfl
 ·obtain ⟨x,rfl,q⟩:=h
  refine ⟨_,(Zag (Zan Za1)),?_⟩
  exact q
theorem ok_doinit {f C:Addr} {fd:FuncData} (F:Fun K "__init__" "Do.__init__" Zfp f fd) (L:ClD K C):FnOk P w K mg base CX0 1 f fd Zjj (spDoInit C):=by
 refine F.ok scDoInit (fun vs H Q E h=>?_) (fun cdv A outer s H vs Q E hr h=>?_)
 ·obtain ⟨x,dx,d,v,rfl,_⟩:=h
  rfl
 ·obtain ⟨x,dx,d,v,rfl,hx,q⟩:=h
  refine ⟨_,(Zae (Zet (pv 0) (pv 1) rfl)
   (Zag (Zet (pv 0) (pv 2) rfl))),?_⟩
  refine ⟨_,rfl,_,rfl,x,C,dx,[],rfl,hx,L.cl,L.n1,by show 0 < 1000; decide,?_⟩
  refine ⟨_,rfl,_,rfl,x,C,dx,_,rfl,Zac,L.cl,L.n2,by show 1 < 1000; decide,?_⟩
  refine q _ (fun c u e hc=>by rw [Zak hc,Zak hc]; exact e) ?_
  rw [Zac]
  rfl
theorem ok_dogo {f C:Addr} {fd:FuncData} (F:Fun K "goes_on" "Do.goes_on" Zdf f fd) (L:ClD K C):FnOk P w K mg base CX0 1 f fd Zin (spDoGo C):=by
 refine F.ok scDoGoesOn (fun vs H Q E h=>?_) (fun cdv A outer s H vs Q E hr h=>?_)
 ·obtain ⟨x,dx,d,v,rfl,_⟩:=h
  rfl
 ·obtain ⟨x,dx,d,v,rfl,hx,q⟩:=h
  have hsl:sizeLine=16777216:=sizeLine_eq
  refine ⟨_,(Zag (Zan (Zc0 (Zaa (Zbu (Zaa Zgf (Zaa (Zcd (pv 0) rfl) Zad))) Zad)))),?_⟩
  refine ⟨_,rfl,x,C,dx,_,_,rfl,hx,L.cl,L.n2,fDo_r d v,by show 2 ≤ sizeLine; lia,fun t ht=>?_⟩
  have s1:=Same.new (o:=.tup [.non,v]) ht
  refine ⟨by show 1 ≤ sizeLine; lia,fun l hl=>?_⟩
  exact q l t _ (s1.trans (Same.new hl)) (s1.free hl) Zac (by rw [Zak (Zah Zac hl)]; exact Zac)
theorem ok_dohere {f C:Addr} {fd:FuncData} (F:Fun K "line_here" "Do.line_here" Zcl f fd) (L:ClD K C):FnOk P w K mg base CX0 1 f fd Zgq (spDoHere C):=by
 refine F.ok scDoLineHere (fun vs H Q E h=>?_) (fun cdv A outer s H vs Q E hr h=>?_)
 ·obtain ⟨x,dx,d,v,rfl,_⟩:=h
  rfl
 ·obtain ⟨x,dx,d,v,rfl,hx,hd,q⟩:=h
  have hsl:sizeLine=16777216:=sizeLine_eq
  have h3:tDo.length=3:=by decide +kernel
  refine ⟨_,(Zag (Zan (Zaz Zbi Za1 (Zcd (pv 0) rfl)))),?_⟩
  refine ⟨_,rfl,x,C,dx,_,_,rfl,hx,L.cl,L.n1,Zlp d v,_,_,rfl,rfl,by show tDo.length + d.length ≤ _; lia,q⟩
theorem ok_checkways {f:Addr} {fd:FuncData} (F:Fun K "check_ways" "check_ways" Zbz f fd) (T:Bl mg):FnOk P w K mg base CX0 1 f fd Zeg spCheckWays:=by
 refine F.ok scCheckWays (fun vs H Q E h=>?_) (fun cdv A outer s H vs Q E hr h=>?_)
 ·obtain ⟨t,us,as,rfl,_⟩:=h
  rfl
 ·obtain ⟨t,us,as,rfl,ht,wy,ne,nd,ml,q⟩:=h
  have hsl:sizeLine=16777216:=sizeLine_eq
  have hul:=wy.len
  refine ⟨_,(Zae (Zk8 (i:=1) (N:=["way"]) (sc:=Zab Zbz) (own:=["way"]) (fr:=[]) (js:=[]) scCheckWays.nd rfl rfl ⟨rfl,rfl,rfl,rfl,by decide +kernel,by decide +kernel,by decide +kernel,rfl,by decide +kernel⟩ rfl (pi_tup (pv 0)) (fun _ _ _ _=>Zaq (i:=0) (show List.Nodup (["way"]:List Str) by decide +kernel) rfl (Or.inl rfl)) (fun _ _ _ _=>Zbm) (fun _ _ _ _=>(Zap (Zdb K rfl) (pv 0) Zaf (fun _ _=>rfl))))
   (Zae (Zbc (Zav Zdr (Zat Zbf (by rfl) T.len PySem.boot_len (Zaa (pv 1) Zad)) Zaf (Za0 _)) Zb2 Zau)
   (Zag (Zbc (Zav Zjl (Zat Zi5 (by rfl) T.len PySem.boot_len (Zaa (Za7 (Zi3 rfl) (by rfl) T.set Zl2 (Zaa (pv 1) Zad)) Zad)) (Zat Zbf (by rfl) T.len PySem.boot_len (Zaa (pv 1) Zad)) (Za0 _)) Zb2 Zau)))),?_⟩
  refine ⟨_,rfl,t,rfl,⟨_,SqT.of ht⟩,fun D hD=>?_⟩
  refine lcJ (n:=us.length) (fun i ys H4=>ys=(as.take i).map V.str∧Same H H4∧H4 D=some (.lst ys)) ⟨rfl,Same.new hD,Zac⟩
   (fun i ys H4 hi hh0=>by obtain ⟨_,s4,_⟩:=hh0; exact ⟨_,us[i],SqT.of (s4 _ _ ht),by simp [hi]⟩) (fun ys H4 hh0=>by obtain ⟨_,s4,_⟩:=hh0; exact ⟨_,SqT.of (s4 _ _ ht),by simp⟩) ?_ ?_
  ·rintro i ys H4 y H5 hi ⟨rfl,s4,e4⟩ ⟨rfl,hy⟩
   refine Zch ?_
   obtain ⟨a,a',v,ha,rfl,et⟩:=wy.at (hy _ (SqT.of (s4 _ _ ht)))
   have at0:atI [V.str a,v] ((0:Nat):Int)=some (.str a):=Zai rfl
   refine ⟨_,rfl,a',_,_,_,rfl,rfl,SqT.of (s4 _ _ et),at0,_,e4,by simp only [List.length_map,List.length_take]; lia,?_,s4.put hD,Zac⟩
   obtain ⟨hi2,e⟩:=List.getElem?_eq_some_iff.mp ha
   rw [List.take_succ_eq_append_getElem hi2,List.map_append,e]
   rfl
  rintro ys H4 ⟨rfl,s4,e4⟩
  rw [hul,List.take_length] at e4
  have hml:(as.map V.str).length=as.length:=List.length_map ..
  have h0:0 < as.length:=List.length_pos_iff.mpr ne
  refine ⟨_,rfl,_,_,rfl,.inl ⟨_,SqL.of e4,rfl⟩,rfl,_,rfl,?_⟩
  refine ite2 (fun z=>?_) (fun _=>?_)
  ·exfalso
   have h9:=of_decide_eq_true z
   rw [hml] at h9
   have h8:=V.int.inj h9
   lia
  have ek:as.map V.str=(as.map (Sum.inr:Str→Key)).map kV:=by
   rw [List.map_map]
   rfl
  have hdd:=Zk2 nd
  have hks:(as.map (Sum.inr:Str→Key)).length=as.length:=List.length_map ..
  refine ⟨_,rfl,D,as.map Sum.inr,rfl,SqL.of (by rw [← ek]; exact e4),by lia,fun st' hst'=>?_⟩
  have s5:Same H4 (upd H4 st' (setO P w st' (SK.dd (kAt (as.map (Sum.inr:Str→Key))) (as.map (Sum.inr:Str→Key)).length).length)):=Same.new hst'
  refine ⟨st',_,rfl,Zac,_,rfl,_,_,rfl,.inl ⟨_,SqL.of (s5 _ _ e4),rfl⟩,_,_,rfl,rfl,_,rfl,?_⟩
  refine ite2 (fun z=>?_) (fun _=>?_)
  ·exfalso
   have:=of_decide_eq_true z
   rw [hdd,hml] at this
   lia
  exact q _ (s4.trans s5)
theorem ok_lkhere {f C:Addr} {fd:FuncData} (F:Fun K "line_here" "Look.line_here" Zby f fd) (LL:ClL K C):FnOk P w K mg base CX0 1 f fd Zfd (spLkHere C):=by
 refine F.ok scLookLineHere (fun vs H Q E h=>?_) (fun cdv A outer s H vs Q E hr h=>?_)
 ·obtain ⟨x,dx,l,v,rfl,_⟩:=h
  rfl
 ·obtain ⟨x,dx,l,v,rfl,hx,hd,q⟩:=h
  have hsl:sizeLine=16777216:=sizeLine_eq
  have h3:tLook.length=5:=by decide +kernel
  refine ⟨_,(Zag (Zan (Zaz Zbi Za1 (Zcd (pv 0) rfl)))),?_⟩
  exact ⟨_,rfl,x,C,dx,_,_,rfl,hx,LL.cl,LL.n1,Zlo l v,_,_,rfl,rfl,by show tLook.length + l.length ≤ _; lia,q⟩
theorem ok_lkways {f C:Addr} {fd:FuncData} (F:Fun K "ways" "Look.ways" Zde f fd) (LL:ClL K C) (T:Bl mg):FnOk P w K mg base CX0 1 f fd Zgk (spLkWays C):=by
 refine F.ok scLookWays (fun vs H Q E h=>?_) (fun cdv A outer s H vs Q E hr h=>?_)
 ·obtain ⟨x,dx,u,l,us,rfl,_⟩:=h
  rfl
 ·obtain ⟨x,dx,u,l,us,rfl,hx,hu,q⟩:=h
  refine ⟨_,(Zag (Zan (Za7 Zcf (by rfl) T.list Zd5 (Zaa (Zcd (pv 0) rfl) Zad)))),?_⟩
  exact ⟨_,rfl,x,C,dx,_,_,rfl,hx,LL.cl,LL.n2,fLk_w l _,u,_,rfl,.inr (SqT.of hu),q⟩
theorem ok_lkgo {f f1 C:Addr} {fd d1:FuncData} (F:Fun K "goes_on" "Look.goes_on" Zck f fd) (LL:ClL K C) (b_ways:Binds K d1 ["self"] []) (m_ways:Meth K C "ways" f1) (G_ways:FnOk P w K mg base CX0 1 f1 d1 Zgk (spLkWays C)):FnOk P w K mg base CX0 2 f fd Zgl (spLkWays C):=by
 refine F.ok scLookGoesOn (fun vs H Q E h=>?_) (fun cdv A outer s H vs Q E hr1 h=>?_)
 ·obtain ⟨x,dx,u,l,us,rfl,_⟩:=h
  rfl
 ·obtain ⟨x,dx,u,l,us,rfl,hx,hu,q⟩:=h
  refine ⟨_,(Zag (Zan (pe_meth0 (pv 0) LL.cl m_ways G_ways hr1 b_ways .nil Zaw))),?_⟩
  exact ⟨_,rfl,x,dx,_,rfl,hx,rfl,x,dx,u,l,us,rfl,hx,hu,q⟩
theorem ok_lkinit {f f1 C:Addr} {fd d1:FuncData} (F:Fun K "__init__" "Look.__init__" Zcy f fd) (LL:ClL K C) (T:Bl mg) (D_check_ways:Df K mg "check_ways" Zbz Zeg f1 d1) (G_check_ways:FnOk P w K mg base CX0 1 f1 d1 Zeg spCheckWays):FnOk P w K mg base CX0 2 f fd Zfe (spLkInit C):=by
 refine F.ok scLookInit (fun vs H Q E h=>?_) (fun cdv A outer s H vs Q E hr1 h=>?_)
 ·obtain ⟨x,dx,u,l,us,as,rfl,_⟩:=h
  rfl
 ·obtain ⟨x,dx,u,l,us,as,rfl,hx,hu,wy,ne,nd,ml,q⟩:=h
  have hsl:sizeLine=16777216:=sizeLine_eq
  have hul:=wy.len
  refine ⟨_,(Zae (Zax (i:=3) scLookInit.nd rfl (Or.inl rfl) (Za7 Zcs (by rfl) T.tuple Zek (Zaa (Zel (N:=["way"]) (sc:=Zab Zcy) (own:=["way"]) (fr:=[]) (js:=[]) ⟨rfl,rfl,rfl,rfl,by decide +kernel,by decide +kernel,by decide +kernel,rfl,by decide +kernel⟩ rfl (Zbd (pv 2)) (fun _ _ _ _=>Zaq (i:=0) (show List.Nodup (["way"]:List Str) by decide +kernel) rfl (Or.inl rfl)) (fun _ _ _ _=>Zbm) (fun _ _ _ _=>(Za7 (call_tupK K rfl) (by rfl) T.tuple Zek (Zaa (pv 0) Zad)))) Zad)))
   (Zae (Zbg (Zaj G_check_ways hr1 (by rfl) D_check_ways.m D_check_ways.F.kp D_check_ways.b .nil Zaw (Zaa (pv 3) Zad)))
   (Zae (Zet (pv 0) (pv 1) rfl)
   (Zag (Zet (pv 0) (pv 3) rfl))))),?_⟩
  refine ⟨_,rfl,u,rfl,⟨_,SqL.of hu⟩,fun D hD=>?_⟩
  refine lcJ (n:=us.length) (fun i ys H4=>ys=us.take i∧Same H H4∧H4 D=some (.lst ys)) ⟨rfl,Same.new hD,Zac⟩
   (fun i ys H4 hi hh0=>by obtain ⟨_,s4,_⟩:=hh0; exact ⟨_,us[i],SqL.of (s4 _ _ hu),by simp [hi]⟩) (fun ys H4 hh0=>by obtain ⟨_,s4,_⟩:=hh0; exact ⟨_,SqL.of (s4 _ _ hu),by simp⟩) ?_ ?_
  ·rintro i ys H4 y H5 hi ⟨rfl,s4,e4⟩ ⟨rfl,hy⟩
   refine Zch ?_
   have hyu:=hy _ (SqL.of (s4 _ _ hu))
   obtain ⟨a,a',v,ha,rfl,et⟩:=wy.at hyu
   refine ⟨_,rfl,a',_,rfl,.inr ⟨SqT.of (s4 _ _ et),?_⟩⟩
   refine ⟨_,e4,by rw [List.length_take]; lia,?_,s4.put hD,Zac⟩
   obtain ⟨hi2,e⟩:=List.getElem?_eq_some_iff.mp hyu
   rw [List.take_succ_eq_append_getElem hi2,e]
  rintro ys H4 ⟨rfl,s4,e4⟩
  rw [List.take_length] at e4
  refine ⟨D,_,rfl,.inl ⟨SqL.of e4,fun tw htw=>?_⟩⟩
  have s5:Same H4 (upd H4 tw (.tup us)):=Same.new htw
  have e5:(upd H4 tw (.tup us)) tw=some (.tup us):=Zac
  generalize (upd H4 tw (.tup us))=H5 at s5 e5 ⊢
  have s05:=s4.trans s5
  refine ⟨_,rfl,tw,us,as,rfl,e5,wy.same s05,ne,nd,ml,fun H6 s6=>?_⟩
  have s06:=s05.trans s6
  have hx6:=s06 _ _ hx
  have e6:=s6 _ _ e5
  have nx:tw ≠ x:=Za5 e6 hx6 (by intro z; cases z)
  refine ⟨_,rfl,_,rfl,x,C,dx,[],rfl,hx6,LL.cl,LL.n1,by show 0 < 1000; decide,?_⟩
  refine ⟨_,rfl,_,rfl,x,C,dx,_,rfl,Zac,LL.cl,LL.n2,by show 1 < 1000; decide,?_⟩
  refine q tw _ (fun c u e hc=>by rw [Zak hc,Zak hc]; exact s06 _ _ e) ?_ (by rw [Zak nx,Zak nx]; exact e6)
  rw [Zac]
  rfl
theorem PlAt.kx {C:C3} {H H':Hp} {m:Addr} {xs:List V} (k:∀ c u,H c=some u→c ≠ m→H' c=some u) (hm:H m=some (.lst xs)):∀ {t:Pn} {vs:List V},PlAt C H t vs→PlAt C H' t vs
 | .stop,_,⟨t,dx,e,h⟩=>⟨t,dx,e,k _ _ h (Za5 h hm (by intro z; cases z))⟩
 | .dd _ _,_,⟨t,dx,v,e,h,r⟩=>⟨t,dx,v,e,k _ _ h (Za5 h hm (by intro z; cases z)),PlAt.kx k hm r⟩
 | .lk _ _,_,⟨t,dx,u,us,e,h,h2,r⟩=>⟨t,dx,u,us,e,k _ _ h (Za5 h hm (by intro z; cases z)),k _ _ h2 (Za5 h2 hm (by intro z; cases z)),PlAt.kx k hm r⟩
 | .nil,_,e=>e
 | .way _ _ _,_,⟨t,v,us,e,h,p,r⟩=>⟨t,v,us,e,k _ _ h (Za5 h hm (by intro z; cases z)),PlAt.kx k hm p,PlAt.kx k hm r⟩
theorem atI_last {xs:List V} {v:V}:atI (xs ++ [v]) (-1)=some v:=by
 unfold atI ixN
 rw [if_neg (by decide),if_pos (by rw [List.length_append,List.length_singleton]; lia)]
 have e:((-1:Int) + ((xs ++ [v]).length:Nat)).toNat=xs.length:=by rw [List.length_append,List.length_singleton]; lia
 rw [e]
 show (xs ++ [v])[xs.length]? = some v
 rw [List.getElem?_append_right (Nat.le_refl _),Nat.sub_self]
 rfl
noncomputable def ofL:List (Str × Pn)→Pn→Pn
 | [],w=>w
 | x :: r,w=>.way x.1 x.2 (ofL r w)
theorem PlAt.put {C:C3} {H:Hp} {t:Addr} {a:Str} {v:V} {p:Pn} (h1:H t=some (.tup [.str a,v])) (h2:PlAt C H p [v]):∀ {pre:List (Str × Pn)} {us:List V},PlAt C H (ofL pre .nil) us→PlAt C H (ofL (pre ++ [(a,p)]) .nil) (us ++ [.ref t])
 | [],us,e=>by
  rw [show us=[] from e]
  exact ⟨t,v,[],rfl,h1,h2,rfl⟩
 | x :: r,us,⟨t',v',us',e,z1,z2,z3⟩=>by
  rw [e]
  exact ⟨t',v',us' ++ [.ref t],rfl,z1,z2,PlAt.put h1 h2 z3⟩
noncomputable def isW:Pn→Prop
 | .nil=>True
 | .way _ _ r=>isW r
 | _=>False
theorem PlAt.wy {C:C3} {H:Hp}:∀ {ws:Pn} {us:List V},isW ws→PlAt C H ws us→WyAt H us (anP ws)
 | .nil,us,_,e=>by
  rw [show us=[] from e]
  exact ⟨rfl,fun i u a h=>by cases h⟩
 | .way a p r,us,h,⟨t,v,us',e,h1,_,h3⟩=>by
  have ih:=PlAt.wy (ws:=r) h h3
  rw [e]
  refine ⟨congrArg (· + 1) ih.len,fun i u a' g1 g2=>?_⟩
  cases i with
  | zero=>
   cases g1
   cases g2
   exact ⟨t,v,rfl,h1⟩
  | succ i=>exact ih.got i u a' g1 g2
theorem an_ne {ws:Pn} (h:isW ws) (n:ws ≠ .nil):anP ws ≠ []:=by
 cases ws with
 | nil=>exact absurd rfl n
 | way a p r=>exact List.cons_ne_nil _ _
 | stop=>exact h.elim
 | dd _ _=>exact h.elim
 | lk _ _=>exact h.elim
structure MkO (K:PySem.W.Frag) (C:Addr):Prop where
 ma:PySem.W.makesIn K C=true
 hi:PySem.W.findIn K (.ref C) "__init__" = some (some (.builtin "object.__init__"))
 so:PySem.W.subIn K (.ref C) (.type "object")=some true
 kp:PySem.W.keepIn K (.ref C)=true
theorem bt_rev:bootBuiltins "reversed" = some (.type "reversed"):=by decide +kernel
inductive Z2 {α:Type} (R:V→α→Prop):List V→List α→Prop
 | nil:Z2 R [] []
 | cons {v:V} {t:α} {vs:List V} {ts:List α} (h:R v t) (r:Z2 R vs ts):Z2 R (v :: vs) (t :: ts)
theorem Z2.mono {α:Type} {R S:V→α→Prop} (m:∀ v t,R v t→S v t) {vs:List V} {ts:List α} (h:Z2 R vs ts):Z2 S vs ts:=by
 induction h with
 | nil=>exact .nil
 | cons a _ ih=>exact .cons (m _ _ a) ih
theorem Z2.len {α:Type} {R:V→α→Prop} {vs:List V} {ts:List α} (h:Z2 R vs ts):vs.length=ts.length:=by
 induction h with
 | nil=>rfl
 | cons _ _ ih=>rw [List.length_cons,(List.length_cons),ih]
theorem Z2.app {α:Type} {R:V→α→Prop} {vs vs':List V} {ts ts':List α} (h:Z2 R vs ts) (h':Z2 R vs' ts'):Z2 R (vs ++ vs') (ts ++ ts'):=by
 induction h with
 | nil=>exact h'
 | cons a _ ih=>exact .cons a ih
theorem Z2.rev {α:Type} {R:V→α→Prop} {vs:List V} {ts:List α} (h:Z2 R vs ts):Z2 R vs.reverse ts.reverse:=by
 induction h with
 | nil=>exact .nil
 | cons a _ ih=>rw [List.reverse_cons,List.reverse_cons]; exact ih.app (.cons a .nil)
theorem Z2.at {α:Type} {R:V→α→Prop} {vs:List V} {ts:List α} (h:Z2 R vs ts):∀ {i:Nat} {v:V},vs[i]? = some v→∃ t,ts[i]? = some t∧R v t:=by
 induction h with
 | nil=>intro i v e; cases e
 | cons a _ ih=>
  intro i v e
  cases i with
  | zero=>cases e; exact ⟨_,rfl,a⟩
  | succ i=>exact ih e
noncomputable def oN:Option Nat→V
 | none=>.non
 | some k=>.int (k:Int)
noncomputable def RwV (C:C3) (H:Hp) (v:V) (x:Rw):Prop:=∃ (t:Addr) (p:V),v=.ref t∧H t=some (.tup [p,oN x.2.1,oS x.2.2])∧PlAt C H x.1 [p]∧okP true x.1
noncomputable def KdV (C:C3) (H:Hp) (v:V) (x:Rw):Prop:=∃ (t:Addr) (p:V),v=.ref t∧H t=some (.tup [oS x.2.2,p])∧PlAt C H x.1 [p]∧okP true x.1
theorem RwV.same {C:C3} {H H':Hp} (s:Same H H') (v:V) (x:Rw):RwV C H v x→RwV C H' v x:=fun ⟨t,p,e,h,pl,ok⟩=>⟨t,p,e,s _ _ h,pl.same s,ok⟩
theorem RwV.kx {C:C3} {H H':Hp} {m:Addr} {xs:List V} (k:∀ c u,H c=some u→c ≠ m→H' c=some u) (hm:H m=some (.lst xs)) (v:V) (x:Rw):RwV C H v x→RwV C H' v x:=fun ⟨t,p,e,h,pl,ok⟩=>⟨t,p,e,k _ _ h (Za5 h hm (by intro z; cases z)),pl.kx k hm,ok⟩
theorem Zli {C:C3} {H:Hp} (n:Nat):∀ {ws:Pn} {us:List V},okP false ws→PlAt C H ws us→Z2 (KdV C H) us (kidW ws n)
 | .nil,us,_,e=>by
  rw [show us=[] from e]
  exact .nil
 | .way a p r,us,h,⟨t,v,us',e,h1,h2,h3⟩=>by
  rw [e]
  exact .cons ⟨t,v,rfl,h1,h2,h.2.1⟩ (Zli n h.2.2 h3)
theorem Zmb {t:Pn} (h:okP true t):1 ≤ szP t:=by
 cases t with
 | stop=>exact Nat.le_refl _
 | dd _ _=>exact Nat.le_add_left ..
 | lk _ _=>exact Nat.le_add_left ..
 | nil=>exact h.elim
 | way _ _ _=>exact h.elim
theorem rst_len {R:V→Rw→Prop} (hR:∀ v x,R v x→okP true x.1) {vs:List V} {ws:List Rw} (h:Z2 R vs ws):∀ n:Nat,ws.length ≤ (rstP ws n).length:=by
 induction h with
 | nil=>intro n; exact Nat.le_refl _
 | @cons v x _ ts a _ ih=>
  intro n
  have h1:=ih (n + szP x.1)
  have h2:=Zmb (hR _ _ a)
  show ts.length + 1 ≤ (rwsP x.1 n x.2.1 x.2.2 ++ rstP ts (n + szP x.1)).length
  rw [List.length_append,Zcq]
  lia
structure MV (P:Program) (w:World) (K:PySem.W.Frag) (mg:Str→Option Value) (base:Heap) (C:Addr) (x:Str) (k:Nat) (sp:Sp):Prop where
 cl:Cls K C
 ex:∃ (f:Addr) (fd:FuncData),Meth K C x f∧FnOk P w K mg base CX0 k f fd ["self"] sp∧Binds K fd ["self"] []
noncomputable def VGo (C:C3) (a:Addr) (sp:Sp):Prop:=(a=C.s∧sp=spStopGo) ∨ (a=C.d∧sp=spDoGo C.d) ∨ (a=C.l∧sp=spLkWays C.l)
inductive spRowsIn (C:C3) (vs:List V) (H:Hp) (Q:VK) (E0_:XK):Prop
 | mk (p:V) (t:Pn) (c0:vs=[p]) (c1:PlAt C H t [p]) (c2:okP true t) (c3:wtP t ≤ 40000) (c4:∀ (r:Addr) (us:List V) (H':Hp),Same H H'→H r=none→H' r=some (.lst us)→Z2 (RwV C H') us (rstP [(t,none,none)] 0)→Q (.ref r) H'):spRowsIn C vs H Q E0_
theorem Zmu {n:Nat}:∀ {t:Pn} {x:Rw},x ∈ kidW t n→x.2.1=some n
 | .way a p r,x,h=>by
  rcases (List.mem_cons.mp h) with e | h
  ·rw [e]
  ·exact Zmu h
 | .nil,_,h=>nomatch h
 | .stop,_,h=>nomatch h
 | .dd _ _,_,h=>nomatch h
 | .lk _ _,_,h=>nomatch h
theorem kids_n {n:Nat} {t:Pn} {x:Rw} (h:x ∈ kids t n):x.2.1=some n:=by
 cases t with
 | dd d r=>rw [List.mem_singleton.mp h]
 | lk l ws=>exact Zmu h
 | stop=>exact nomatch h
 | nil=>exact nomatch h
 | way _ _ _=>exact nomatch h
theorem go_any {C:C3} {H:Hp} {t:Pn} {v:V} (n:Nat) (E:XK) (h:PlAt C H t [v]) (ok:okP true t):∃ (a C' dx:Addr) (fs:List (Str × V)) (sp:Sp),v=.ref a∧H a=some (.ins C' dx fs)∧fs.lookup ("goes_on" : Str)=none∧VGo C C' sp∧∀ Q:VK,(∀ (g:Addr) (us:List V) (H':Hp),Same H H'→H g=none→H' g=some (.lst us)→Z2 (KdV C H') us (kids t n)→Q (.ref g) H')→sp [.ref a] H Q E:=by
 cases t with
 | stop=>
  obtain ⟨o,dx,e,h⟩:=h
  cases e
  exact ⟨o,C.s,dx,[],spStopGo,rfl,h,rfl,.inl ⟨rfl,rfl⟩,fun Q q=>⟨.ref o,rfl,fun l hl=>q l [] _ (Same.new hl) hl Zac .nil⟩⟩
 | dd d r=>
  obtain ⟨o,dx,v',e,h,pl⟩:=h
  cases e
  exact ⟨o,C.d,dx,_,spDoGo C.d,rfl,h,rfl,.inr (.inl ⟨rfl,rfl⟩),fun Q q=>⟨o,dx,d,v',rfl,h,fun l t H' s hl e1 e2=>q l [.ref t] H' s hl e1 (.cons ⟨t,v',rfl,e2,pl.same s,ok.2⟩ .nil)⟩⟩
 | lk l ws=>
  obtain ⟨o,dx,u,us,e,h,hu,pl⟩:=h
  cases e
  exact ⟨o,C.l,dx,_,spLkWays C.l,rfl,h,rfl,.inr (.inr ⟨rfl,rfl⟩),fun Q q=>⟨o,dx,u,l,us,rfl,h,hu,fun g hg=>q g us _ (Same.new hg) hg Zac (Zli n ok.2.2.2 (pl.same (Same.new hg)))⟩⟩
 | nil=>exact ok.elim
 | way _ _ _=>exact ok.elim
noncomputable def RIn (C:C3) (H:Hp) (full:List Rw) (p:V) (r wv:Addr) (n:Nat) (σ:L2.St) (H':Hp):Prop:=∃ (v3 v4 v5:Option V) (dn st:List Rw) (ds ss:List V),σ = [some p,some (.ref r),some (.ref wv),v3,v4,v5]∧n=full.length - dn.length∧Same H H'∧H' r=some (.lst ds)∧H' wv=some (.lst ss)∧Z2 (RwV C H') ds dn∧Z2 (RwV C H') ss.reverse st∧dn ++ rstP st dn.length=full
noncomputable abbrev Zd2:List Str:=["plan"]
noncomputable abbrev nRowsIn:List Str:=["plan", "rows", "waiting", "row", "answer", "rest"]
theorem scRowsIn:FnScope nRowsIn Zd2 (Zab Zc8):=⟨rfl,rfl,rfl,by decide +kernel,rfl,by decide +kernel,by decide +kernel⟩
theorem ok_rowsin {f:Addr} {C:C3} {fd:FuncData} (F:Fun K "rows_in" "rows_in" Zc8 f fd) (T:Bl mg) (GS:MV P w K mg base C.s "goes_on" 1 spStopGo) (GD:MV P w K mg base C.d "goes_on" 1 (spDoGo C.d)) (GL:MV P w K mg base C.l "goes_on" 2 (spLkWays C.l)):FnOk P w K mg base CX0 3 f fd Zd2 (spRowsIn C):=by
 refine F.ok scRowsIn (fun vs H Q E h=>?_) (fun cdv A outer s H vs Q E hr2 h=>?_)
 ·obtain ⟨p,t,rfl,_⟩:=h
  rfl
 ·obtain ⟨p,t,rfl,hp,ok,wt,q⟩:=h
  have hr1:Room 1 _:=hr2.mono (by decide)
  have hsl:sizeLine=16777216:=sizeLine_eq
  have hV_goes_on:∀ C' sp,VGo C C' sp→∃ (k:Nat) (f:Addr) (fd:FuncData) (ps:List Str),Cls K C'∧Meth K C' "goes_on" f∧FnOk P w K mg base CX0 k f fd ps sp∧Room k _∧Binds K fd ps []:=fun C' sp hv=>by
   rcases hv with ⟨rfl,rfl⟩ | ⟨rfl,rfl⟩ | ⟨rfl,rfl⟩
   ·obtain ⟨f',fd',m',g',b'⟩:=GS.ex
    exact ⟨1,f',fd',["self"],GS.cl,m',g',hr1,b'⟩
   ·obtain ⟨f',fd',m',g',b'⟩:=GD.ex
    exact ⟨1,f',fd',["self"],GD.cl,m',g',hr1,b'⟩
   ·obtain ⟨f',fd',m',g',b'⟩:=GL.ex
    exact ⟨2,f',fd',["self"],GL.cl,m',g',hr2,b'⟩
  have hfl:(rstP [(t,none,none)] 0).length ≤ 40000:=by
   show (rwsP t 0 none none ++ []).length ≤ _
   rw [List.append_nil,Zcq]
   have:=Zhg t
   lia
  generalize hfu:rstP [(t,none,none)] 0=full at hfl q
  refine ⟨_,(Zae (Zax (i:=1) scRowsIn.nd rfl (Or.inl rfl) (Zc0 Zad))
   (Zae (Zax (i:=2) scRowsIn.nd rfl (Or.inl rfl) (Zc0 (Zaa (Zbu (Zaa (pv 0) (Zaa Zgf (Zaa Zgf Zad)))) Zad)))
   (Zae (ps_while PassesOwn.never (Zav Zm7 (Zat Zbf (by rfl) T.len PySem.boot_len (Zaa (pv 2) Zad)) Zaf (Za0 _))
    (Zae (Zax (i:=3) scRowsIn.nd rfl (Or.inl rfl) (Zik PySem.F.plainAttrs_list PySem.F.slot_list_pop PySem.F.type_list_pop Zlg (pv 2)))
   (Zae (Zbg (Zhu PySem.F.plainAttrs_list PySem.F.slot_list_append PySem.F.type_list_append Zb3 (pv 1) (Zaa (pv 3) Zad)))
   (Zag (Zcc PassesOwn.never rfl (pi_revL (by rfl) T.reversed bt_rev (Zaa (Zc5 (Zap Zar (pv 3) Zaf (fun _ _=>rfl)) hV_goes_on) Zad)) (Ze9 rfl (Za8 (Zaq (i:=4) scRowsIn.nd rfl (Or.inl rfl)) (Za8 (Zaq (i:=5) scRowsIn.nd rfl (Or.inl rfl)) Zdj)))
    (Zag (Zbg (Zhu PySem.F.plainAttrs_list PySem.F.slot_list_append PySem.F.type_list_append Zb3 (pv 2) (Zaa (Zbu (Zaa (pv 5) (Zaa (Zaz Zj1 (Zat Zbf (by rfl) T.len PySem.boot_len (Zaa (pv 1) Zad)) Zaf) (Zaa (pv 4) Zad)))) Zad)))))))))
   (Zag (Zan (pv 1)))))),?_⟩
  refine ⟨by show 0 ≤ sizeLine; lia,fun r hr'=>?_⟩
  have s1:Same H (upd H r (.lst [])):=Same.new hr'
  have e1:(upd H r (.lst [])) r=some (.lst []):=Zac
  generalize (upd H r (.lst []))=H1 at s1 e1 ⊢
  refine ⟨_,rfl,by show 3 ≤ sizeLine; lia,fun t0 ht0=>?_⟩
  have s2:Same H1 (upd H1 t0 (.tup [p,.non,.non])):=Same.new ht0
  have e2:(upd H1 t0 (.tup [p,.non,.non])) t0=some (.tup [p,.non,.non]):=Zac
  generalize (upd H1 t0 (.tup [p,.non,.non]))=H2 at s2 e2 ⊢
  refine ⟨by show 1 ≤ sizeLine; lia,fun wv hwv=>?_⟩
  have s3:Same H2 (upd H2 wv (.lst [.ref t0])):=Same.new hwv
  have e3:(upd H2 wv (.lst [.ref t0])) wv=some (.lst [.ref t0]):=Zac
  generalize (upd H2 wv (.lst [.ref t0]))=H3 at s3 e3 ⊢
  have rw':r ≠ wv:=Zah (s2 _ _ e1) hwv
  have s03:=(s1.trans s2).trans s3
  have hw0:H wv=none:=(s1.trans s2).free hwv
  refine ⟨RIn C H full p r wv,⟨full.length,none,none,none,[],[(t,none,none)],[],[.ref t0],rfl,rfl,s03,s3 _ _ (s2 _ _ e1),e3,.nil,.cons ⟨t0,p,rfl,s3 _ _ e2,hp.same s03,ok⟩ .nil,hfu⟩,?_⟩
  rintro n σ H4 ⟨v3,v4,v5,dn,st,ds,ss,rfl,rfl,s4,er,ew,zd,zs,ef⟩
  have hzd:=zd.len
  have hfd:dn.length ≤ full.length:=by rw [← ef,List.length_append]; lia
  refine ⟨_,rfl,_,_,rfl,.inl ⟨_,SqL.of ew,rfl⟩,_,_,rfl,rfl,_,rfl,?_⟩
  generalize hrv:ss.reverse=rs at zs
  cases zs with
  | nil=>
   have hs0:ss=[]:=List.reverse_eq_nil_iff.mp hrv
   refine ite2 (fun z=>?_) (fun _=>?_)
   ·exfalso
    have:=of_decide_eq_true z
    rw [hs0] at this
    exact absurd this (by decide)
   refine ⟨_,rfl,q r ds H4 s4 hr' er ?_⟩
   have e9:dn=full:=by rw [← ef]; exact (List.append_nil _).symm
   rw [← e9]
   exact zd
  | @cons v x rs st' hx zs=>
   have hss:ss=rs.reverse ++ [v]:=by rw [← List.reverse_reverse ss,hrv,List.reverse_cons]
   subst hss
   have hl:(rs.reverse ++ [v]).length=rs.reverse.length + 1:=by rw [List.length_append]; rfl
   have hg:(rs.reverse ++ [v])[(rs.reverse ++ [v]).length - 1]? = some v:=by
    rw [hl,Nat.add_sub_cancel,List.getElem?_append_right (Nat.le_refl _),Nat.sub_self]
    rfl
   refine ite2 (fun _=>?_) (fun z=>absurd (decide_eq_true (by rw [hl]; lia)) z)
   refine ⟨fun σ' H'=>∃ m',m' < full.length - dn.length∧RIn C H full p r wv m' σ' H',fun _ _ z=>z,?_⟩
   refine ⟨_,rfl,.inl ⟨rfl,_,SqL.of ew⟩,wv,_,_,rfl,rfl,ew,hg,?_⟩
   rw [List.dropLast_concat]
   have k5:∀ c u,H4 c=some u→c ≠ wv→(upd H4 wv (.lst rs.reverse)) c=some u:=fun c u e hc=>by rw [Zak hc]; exact e
   have ew5:(upd H4 wv (.lst rs.reverse)) wv=some (.lst rs.reverse):=Zac
   generalize (upd H4 wv (.lst rs.reverse))=H5 at k5 ew5 ⊢
   have er5:=k5 _ _ er rw'
   obtain ⟨tt,pv,rfl,ht4,hpl4,hok⟩:=hx
   have nw:tt ≠ wv:=Za5 ht4 ew (by intro z; cases z)
   have nr:tt ≠ r:=Za5 ht4 er (by intro z; cases z)
   have hef:=rst_step (t:=x.1) (b:=x.2.1) (a:=x.2.2) st' dn.length hok
   have ef':dn ++ (x :: rstP (kids x.1 dn.length ++ st') (dn.length + 1))=full:=by rw [← ef]; exact congrArg (dn ++ ·) hef.symm
   have hfl2:dn.length + 1 ≤ full.length:=by rw [← ef',List.length_append,List.length_cons]; lia
   refine ⟨_,rfl,.inl ⟨rfl,_,SqL.of er5⟩,_,rfl,r,_,_,rfl,rfl,er5,by lia,?_⟩
   have k6:∀ c u,H5 c=some u→c ≠ r→(upd H5 r (.lst (ds ++ [.ref tt]))) c=some u:=fun c u e hc=>by rw [Zak hc]; exact e
   have er6:(upd H5 r (.lst (ds ++ [.ref tt]))) r=some (.lst (ds ++ [.ref tt])):=Zac
   generalize (upd H5 r (.lst (ds ++ [.ref tt])))=H6 at k6 er6 ⊢
   have ew6:=k6 _ _ ew5 rw'.symm
   have ht6:=k6 _ _ (k5 _ _ ht4 nw) nr
   have pl6:=(hpl4.kx k5 ew).kx k6 er5
   have s46:∀ c u,H c=some u→H6 c=some u:=fun c u e=>k6 c u (k5 c u (s4 _ _ e) (Zah e hw0)) (Zah e hr')
   have zd6:Z2 (RwV C H6) (ds ++ [.ref tt]) (dn ++ [x]):=((zd.mono (RwV.kx k5 ew)).mono (RwV.kx k6 er5)).app (.cons ⟨tt,pv,rfl,ht6,pl6,hok⟩ .nil)
   have zs6:=(zs.mono (RwV.kx k5 ew)).mono (RwV.kx k6 er5)
   have at0:atI [pv,oN x.2.1,oS x.2.2] ((0:Nat):Int)=some pv:=Zai rfl
   obtain ⟨a,C',dx,fs,sp,rfl,ha,hlk,hv,go⟩:=go_any dn.length E0 pl6 hok
   refine ⟨_,rfl,tt,_,_,_,rfl,rfl,SqT.of ht6,at0,a,C',dx,fs,sp,rfl,ha,hlk,hv,go _ fun g us H7 s7 hg eg zk=>?_⟩
   have zk7:=zk.len
   refine ⟨g,us,rfl,SqL.of eg,?_⟩
   have gw:g ≠ wv:=(Zah ew6 hg).symm
   have gr:g ≠ r:=(Zah er6 hg).symm
   have hall:(kids x.1 dn.length ++ st').length ≤ 40000:=by
    have h1:=rst_len (R:=fun _ y=>okP true y.1) (fun _ _ z=>z) ((zk.mono (fun _ _ hh0=>by obtain ⟨_,_,_,_,_,z⟩:=hh0; exact z)).app (zs6.mono (fun _ _ hh0=>by obtain ⟨_,_,_,_,_,z⟩:=hh0; exact z))) (dn.length + 1)
    have h2:full.length=dn.length + ((rstP (kids x.1 dn.length ++ st') (dn.length + 1)).length + 1):=by rw [← ef',List.length_append,List.length_cons]
    lia
   rw [List.length_append] at hall
   have hrl:rs.reverse.length=st'.length:=by rw [List.length_reverse]; exact zs.len
   refine for_listR (K:=K) (a:=g) (xs:=us) (fun i σ H8=>∃ (v4 v5:Option V) (ts:List V),σ = [some p,some (.ref r),some (.ref wv),some (.ref tt),v4,v5]∧(∀ c u,H7 c=some u→c ≠ wv→H8 c=some u)∧H8 wv=some (.lst (rs.reverse ++ ts))∧Z2 (RwV C H8) ts ((kids x.1 dn.length).reverse.take i))
    ⟨v4,v5,[],rfl,fun c u e _=>e,by rw [List.append_nil]; exact s7 _ _ ew6,.nil⟩ (fun i σ H8 _ hh0=>by obtain ⟨_,_,_,_,k8,_⟩:=hh0; exact SqL.of (k8 _ _ eg gw)) ?_ ?_
   ·rintro i y σ H8 hy ⟨v4,v5,ts,rfl,k8,ew8,zt⟩
    have hiu:=(List.getElem?_eq_some_iff.mp hy).1
    rw [List.length_reverse] at hiu
    obtain ⟨kd,hkd,tk,pk,rfl,htk,plk,okk⟩:=zk.rev.at hy
    have htk8:=k8 _ _ htk (Za5 htk (s7 _ _ ew6) (by intro z; cases z))
    have plk8:=plk.kx k8 (s7 _ _ ew6)
    have er8:=k8 _ _ (s7 _ _ er6) rw'
    have hkn:kd.2.1=some dn.length:=kids_n (List.mem_reverse.mp (List.mem_of_getElem? hkd))
    obtain ⟨hik,ekd⟩:=List.getElem?_eq_some_iff.mp hkd
    have htl:=zt.len
    rw [List.length_take] at htl
    have hds:(ds ++ [V.ref tt]).length=dn.length + 1:=by rw [List.length_append,List.length_singleton,hzd]
    have hrt:(rs.reverse ++ ts).length=rs.reverse.length + ts.length:=List.length_append ..
    refine ⟨tk,_,rfl,SqT.of htk8,rfl,_,_,rfl,_,_,rfl,rfl,?_⟩
    refine ⟨_,rfl,.inl ⟨rfl,_,SqL.of ew8⟩,_,rfl,_,rfl,_,_,rfl,.inl ⟨_,SqL.of er8,rfl⟩,_,_,rfl,rfl,_,rfl,by show 3 ≤ sizeLine; lia,fun t9 ht9=>?_⟩
    rw [show (((ds ++ [V.ref tt]).length:Nat):Int) - 1=(dn.length:Int) by lia]
    have s9:Same H8 (upd H8 t9 (.tup [pk,.int (dn.length:Int),oS kd.2.2])):=Same.new ht9
    have e9:(upd H8 t9 (.tup [pk,.int (dn.length:Int),oS kd.2.2])) t9=some (.tup [pk,.int (dn.length:Int),oS kd.2.2]):=Zac
    generalize (upd H8 t9 (.tup [pk,.int (dn.length:Int),oS kd.2.2]))=H9 at s9 e9 ⊢
    have ew9:=s9 _ _ ew8
    refine ⟨wv,_,_,rfl,rfl,ew9,by lia,?_⟩
    have kA:∀ c u,H9 c=some u→c ≠ wv→(upd H9 wv (.lst (rs.reverse ++ ts ++ [.ref t9]))) c=some u:=fun c u e hc=>by rw [Zak hc]; exact e
    have nt:t9 ≠ wv:=Za5 e9 ew9 (by intro z; cases z)
    refine ⟨some (oS kd.2.2),some pk,ts ++ [.ref t9],rfl,fun c u e hc=>kA c u (s9 _ _ (k8 c u e hc)) hc,by rw [← List.append_assoc]; exact Zac,?_⟩
    rw [List.take_succ_eq_append_getElem hik,ekd]
    refine ((zt.mono (RwV.same s9)).mono (RwV.kx kA ew9)).app (.cons ⟨t9,pk,rfl,?_,(plk8.same s9).kx kA ew9,okk⟩ .nil)
    rw [hkn]
    exact kA _ _ e9 nt
   ·rintro σ H8 ⟨v4,v5,ts,rfl,k8,ew8,zt⟩
    rw [zk7,← List.length_reverse,List.take_length] at zt
    have sx:∀ c u,H6 c=some u→c ≠ wv→H8 c=some u:=fun c u e hc=>k8 c u (s7 _ _ e) hc
    refine ⟨full.length - (dn ++ [x]).length,by rw [List.length_append,List.length_singleton]; lia,some (.ref tt),v4,v5,dn ++ [x],kids x.1 dn.length ++ st',ds ++ [.ref tt],rs.reverse ++ ts,rfl,rfl,fun c u e=>sx c u (s46 c u e) (Zah e hw0),sx _ _ er6 rw',ew8,zd6.mono (RwV.kx sx ew6),?_,?_⟩
    ·rw [List.reverse_append,List.reverse_reverse]
     have z1:=zt.rev
     rw [List.reverse_reverse] at z1
     exact z1.app (zs6.mono (RwV.kx sx ew6))
    ·rw [List.length_append,List.length_singleton,List.append_assoc]
     exact ef'
theorem Zdg:∀ (t:Pn) (n:Nat) (b:Option Nat) (a:Option Str) (i:Nat) (x:Rw),(rwsP t n b a)[i]? = some x→x.2.1=b ∨ ∃ k,x.2.1=some k∧n ≤ k∧k < n + i
 | .stop,_,b,a,i,x,h=>by
  cases i with
  | zero=>cases h; exact .inl rfl
  | succ i=>cases h
 | .dd d r,n,b,a,i,x,h=>by
  cases i with
  | zero=>cases h; exact .inl rfl
  | succ i=>
   rcases Zdg r (n + 1) (some n) none i x h with e | ⟨k,e,h1,h2⟩
   ·exact .inr ⟨n,e,Nat.le_refl _,by lia⟩
   ·exact .inr ⟨k,e,by lia,by lia⟩
 | .lk l ws,n,b,a,i,x,h=>by
  cases i with
  | zero=>cases h; exact .inl rfl
  | succ i=>
   rcases Zdg ws (n + 1) (some n) none i x h with e | ⟨k,e,h1,h2⟩
   ·exact .inr ⟨n,e,Nat.le_refl _,by lia⟩
   ·exact .inr ⟨k,e,by lia,by lia⟩
 | .nil,_,_,_,_,_,h=>by cases h
 | .way y p r,n,b,a,i,x,h=>by
  have h':(rwsP p n b (some y) ++ rwsP r (n + szP p) b none)[i]? = some x:=h
  by_cases hi:i < (rwsP p n b (some y)).length
  ·rw [List.getElem?_append_left hi] at h'
   exact Zdg p n b (some y) i x h'
  ·rw [List.getElem?_append_right (by lia)] at h'
   rw [Zcq] at hi h'
   rcases Zdg r (n + szP p) b none (i - szP p) x h' with e | ⟨k,e,h1,h2⟩
   ·exact .inl e
   ·exact .inr ⟨k,e,by lia,by lia⟩
theorem Zig:∀ (t:Pn) (q:Bool) (n:Nat) (b:Option Nat) (a:Option Str),okP q t→(∀ y,a=some y→Lb y)→∀ x ∈ rwsP t n b a,∀ y,x.2.2=some y→Lb y
 | .stop,_,_,b,a,_,ha,x,hx=>by rw [List.mem_singleton.mp hx]; exact ha
 | .dd d r,true,n,b,a,h,ha,x,hx=>by
  rcases (List.mem_cons.mp hx) with e | hx
  ·rw [e]; exact ha
  ·exact Zig r true _ _ none h.2 (fun y z=>by cases z) x hx
 | .lk l ws,true,n,b,a,h,ha,x,hx=>by
  rcases (List.mem_cons.mp hx) with e | hx
  ·rw [e]; exact ha
  ·exact Zig ws false _ _ none h.2.2.2 (fun y z=>by cases z) x hx
 | .nil,_,_,_,_,_,_,_,hx=>nomatch hx
 | .way y p r,false,n,b,a,h,_,x,hx=>by
  rcases (List.mem_append.mp hx) with hx | hx
  ·exact Zig p true n b (some y) h.2.1 (fun z e=>by cases e; exact h.1) x hx
  ·exact Zig r false _ b none h.2.2 (fun z e=>by cases e) x hx
 | .dd _ _,false,_,_,_,h,_,_,_=>h.elim
 | .lk _ _,false,_,_,_,h,_,_,_=>h.elim
 | .way _ _ _,true,_,_,_,h,_,_,_=>h.elim
noncomputable def VHe (C:C3) (a:Addr) (sp:Sp):Prop:=(a=C.s∧sp=spStopHere) ∨ (a=C.d∧sp=spDoHere C.d) ∨ (a=C.l∧sp=spLkHere C.l)
theorem here_len {t:Pn} (h:okP true t):(Zg3 t).length ≤ 40:=by
 cases t with
 | stop=>decide +kernel
 | dd d r=>have:=h.1.l2; show (tDo ++ d).length ≤ 40; rw [Zen,show tDo.length=3 by decide +kernel]; lia
 | lk d r=>have:=h.1.l2; show (tLook ++ d).length ≤ 40; rw [Zen,show tLook.length=5 by decide +kernel]; lia
 | nil=>exact h.elim
 | way _ _ _=>exact h.elim
theorem here_any {C:C3} {H:Hp} {t:Pn} {v:V} (E:XK) (h:PlAt C H t [v]) (ok:okP true t):∃ (a C' dx:Addr) (fs:List (Str × V)) (sp:Sp),v=.ref a∧H a=some (.ins C' dx fs)∧fs.lookup ("line_here" : Str)=none∧VHe C C' sp∧∀ Q:VK,Q (.str (Zg3 t)) H→sp [.ref a] H Q E:=by
 cases t with
 | stop=>
  obtain ⟨o,dx,e,h⟩:=h
  cases e
  exact ⟨o,C.s,dx,[],spStopHere,rfl,h,rfl,.inl ⟨rfl,rfl⟩,fun Q q=>⟨.ref o,rfl,q⟩⟩
 | dd d r=>
  obtain ⟨o,dx,v',e,h,pl⟩:=h
  cases e
  exact ⟨o,C.d,dx,_,spDoHere C.d,rfl,h,rfl,.inr (.inl ⟨rfl,rfl⟩),fun Q q=>⟨o,dx,d,v',rfl,h,by have:=ok.1.l2; lia,q⟩⟩
 | lk l ws=>
  obtain ⟨o,dx,u,us,e,h,hu,pl⟩:=h
  cases e
  exact ⟨o,C.l,dx,_,spLkHere C.l,rfl,h,rfl,.inr (.inr ⟨rfl,rfl⟩),fun Q q=>⟨o,dx,l,.ref u,rfl,h,by have:=ok.1.l2; lia,q⟩⟩
 | nil=>exact ok.elim
 | way _ _ _=>exact ok.elim
inductive spLinesP (C:C3) (vs:List V) (H:Hp) (Q:VK) (E0_:XK):Prop
 | mk (p:V) (t:Pn) (c0:vs=[p]) (c1:PlAt C H t [p]) (c2:okP true t) (c3:wtP t ≤ 40000) (c4:∀ (r:Addr) (H':Hp),Same H H'→H r=none→H' r=some (.lst ((lnsP t).map V.str))→Q (.ref r) H'):spLinesP C vs H Q E0_
noncomputable def fdL (full:List Rw) (i:Nat):List Str × List Str:=(full.take i).foldl stepL ([],[])
theorem Zkf {full:List Rw} {i:Nat} {x:Rw} (h:full[i]? = some x):fdL full (i + 1)=stepL (fdL full i) x:=by
 (obtain ⟨hi,e⟩:=List.getElem?_eq_some_iff.mp h)
 unfold fdL
 rw [List.take_succ_eq_append_getElem hi,List.foldl_append,e]
 rfl
theorem Zga:tTwo.length=2:=by decide +kernel
theorem Zll {ind:List Str} {b:Option Nat} {m:Nat} (h:∀ y ∈ ind,y.length ≤ m):(indP ind b).length ≤ m:=by
 cases b with
 | none=>exact Nat.zero_le _
 | some k=>
  show (ind.getD k Str.empty).length ≤ m
  (rw [List.getD_eq_getElem?_getD])
  cases e:ind[k]? with
  | none=>exact Nat.zero_le _
  | some y=>exact h y (List.mem_of_getElem? e)
theorem Zmx (full:List Rw):∀ i:Nat,i ≤ full.length→(fdL full i).2.length=i∧(fdL full i).1.length ≤ 2 * i∧∀ y ∈ (fdL full i).2,y.length ≤ 2 * i
 | 0,_=>⟨rfl,Nat.le_refl _,fun y h=>nomatch h⟩
 | i + 1,hi=>by
  obtain ⟨h1,h2,h3⟩:=Zmx full i (by lia)
  rw [Zkf (List.getElem?_eq_getElem (show i < full.length by lia))]
  generalize full[i]=x
  have hd:=Zll (b:=x.2.1) h3
  unfold stepL
  cases x.2.2 with
  | none=>
   refine ⟨by show ((fdL full i).2 ++ [_]).length=_; rw [List.length_append,h1]; rfl,by show ((fdL full i).1 ++ [_]).length ≤ _; rw [List.length_append]; show _ + 1 ≤ _; lia,fun y hy=>?_⟩
   rcases (List.mem_append.mp hy) with hy | hy
   ·have:=h3 y hy; lia
   ·rw [List.mem_singleton.mp hy]; lia
  | some a=>
   refine ⟨by show ((fdL full i).2 ++ [_]).length=_; rw [List.length_append,h1]; rfl,by show ((fdL full i).1 ++ [_] ++ [_]).length ≤ _; rw [List.length_append,List.length_append]; show _ + 1 + 1 ≤ _; lia,fun y hy=>?_⟩
   rcases (List.mem_append.mp hy) with hy | hy
   ·have:=h3 y hy; lia
   ·rw [List.mem_singleton.mp hy,Zen,Zga]; lia
noncomputable abbrev Zmo:List Str:=["self"]
noncomputable abbrev nLines:List Str:=["self", "told", "indents", "plan", "above", "answer", "indent"]
theorem scLines:FnScope nLines Zmo (Zab Zc3):=⟨rfl,rfl,rfl,by decide +kernel,rfl,by decide +kernel,by decide +kernel⟩
noncomputable def midT (st:List Str × List Str) (x:Rw):List Str:=match x.2.2 with
 | none=>st.1
 | some a=>st.1 ++ [indP st.2 x.2.1 ++ tCase ++ a]
noncomputable def midI (st:List Str × List Str) (x:Rw):Str:=match x.2.2 with
 | none=>indP st.2 x.2.1
 | some _=>indP st.2 x.2.1 ++ tTwo
theorem Zie (st:List Str × List Str) (x:Rw):stepL st x=(midT st x ++ [midI st x ++ Zg3 x.1],st.2 ++ [midI st x]):=by
 unfold stepL midT midI
 cases x.2.2 <;> rfl
theorem Zfi (xs:List Str) (y:Str):(xs ++ [y]).map V.str=xs.map V.str ++ [.str y]:=by rw [List.map_append]; rfl
theorem PlAt.k2 {C:C3} {H H':Hp} {m m':Addr} {xs xs':List V} (k:∀ c u,H c=some u→c ≠ m→c ≠ m'→H' c=some u) (hm:H m=some (.lst xs)) (hm':H m'=some (.lst xs')):∀ {t:Pn} {vs:List V},PlAt C H t vs→PlAt C H' t vs
 | .stop,_,⟨t,dx,e,h⟩=>⟨t,dx,e,k _ _ h (Za5 h hm (by intro z; cases z)) (Za5 h hm' (by intro z; cases z))⟩
 | .dd _ _,_,⟨t,dx,v,e,h,r⟩=>⟨t,dx,v,e,k _ _ h (Za5 h hm (by intro z; cases z)) (Za5 h hm' (by intro z; cases z)),PlAt.k2 k hm hm' r⟩
 | .lk _ _,_,⟨t,dx,u,us,e,h,h2,r⟩=>⟨t,dx,u,us,e,k _ _ h (Za5 h hm (by intro z; cases z)) (Za5 h hm' (by intro z; cases z)),k _ _ h2 (Za5 h2 hm (by intro z; cases z)) (Za5 h2 hm' (by intro z; cases z)),PlAt.k2 k hm hm' r⟩
 | .nil,_,e=>e
 | .way _ _ _,_,⟨t,v,us,e,h,p,r⟩=>⟨t,v,us,e,k _ _ h (Za5 h hm (by intro z; cases z)) (Za5 h hm' (by intro z; cases z)),PlAt.k2 k hm hm' p,PlAt.k2 k hm hm' r⟩
theorem Zgr {f f1:Addr} {C:C3} {fd d1:FuncData} (F:Fun K "lines" "Plan.lines" Zc3 f fd) (D_rows_in:Df K mg "rows_in" Zc8 Zd2 f1 d1) (G_rows_in:FnOk P w K mg base CX0 3 f1 d1 Zd2 (spRowsIn C)) (GS:MV P w K mg base C.s "line_here" 1 spStopHere) (GD:MV P w K mg base C.d "line_here" 1 (spDoHere C.d)) (GL:MV P w K mg base C.l "line_here" 1 (spLkHere C.l)):FnOk P w K mg base CX0 4 f fd Zmo (spLinesP C):=by
 refine F.ok scLines (fun vs H Q E h=>?_) (fun cdv A outer s H vs Q E hr3 h=>?_)
 ·obtain ⟨p,t,rfl,_⟩:=h
  rfl
 ·obtain ⟨p,t,rfl,hp,ok,wt,q⟩:=h
  have hr1:Room 1 _:=hr3.mono (by decide)
  have hsl:sizeLine=16777216:=sizeLine_eq
  have hV_line_here:∀ C' sp,VHe C C' sp→∃ (k:Nat) (f:Addr) (fd:FuncData) (ps:List Str),Cls K C'∧Meth K C' "line_here" f∧FnOk P w K mg base CX0 k f fd ps sp∧Room k _∧Binds K fd ps []:=fun C' sp hv=>by
   rcases hv with ⟨rfl,rfl⟩ | ⟨rfl,rfl⟩ | ⟨rfl,rfl⟩
   ·obtain ⟨f',fd',m',g',b'⟩:=GS.ex
    exact ⟨1,f',fd',["self"],GS.cl,m',g',hr1,b'⟩
   ·obtain ⟨f',fd',m',g',b'⟩:=GD.ex
    exact ⟨1,f',fd',["self"],GD.cl,m',g',hr1,b'⟩
   ·obtain ⟨f',fd',m',g',b'⟩:=GL.ex
    exact ⟨1,f',fd',["self"],GL.cl,m',g',hr1,b'⟩
  have hfl:(rstP [(t,none,none)] 0).length ≤ 40000:=by
   show (rwsP t 0 none none ++ []).length ≤ _
   rw [List.append_nil,Zcq]
   have:=Zhg t
   lia
  have hab:∀ (i:Nat) (x:Rw),(rstP [(t,none,none)] 0)[i]? = some x→inB i x.2.1:=fun i x h=>by
   have h':(rwsP t 0 none none ++ [])[i]? = some x:=h
   rw [List.append_nil] at h'
   rcases Zdg t 0 none none i x h' with e | ⟨k,e,_,h2⟩
   ·rw [e]; trivial
   ·rw [e]; show k < i; lia
  have han:∀ x ∈ rstP [(t,none,none)] 0,∀ y,x.2.2=some y→Lb y:=fun x h=>by
   have h':x ∈ rwsP t 0 none none ++ []:=h
   rw [List.append_nil] at h'
   exact Zig t true 0 none none ok (fun y z=>by cases z) x h'
  obtain ⟨Lf,_,hfold⟩:=fold_lns ok
  generalize hfu:rstP [(t,none,none)] 0=full at hfl hab han hfold
  refine ⟨_,(Zae (Zax (i:=1) scLines.nd rfl (Or.inl rfl) (Zc0 Zad))
   (Zae (Zax (i:=2) scLines.nd rfl (Or.inl rfl) (Zc0 Zad))
   (Zae (Zcc PassesOwn.never rfl (Zbd (Zaj G_rows_in hr3 (by rfl) D_rows_in.m D_rows_in.F.kp D_rows_in.b .nil Zaw (Zaa (pv 0) Zad))) (Ze9 rfl (Za8 (Zaq (i:=3) scLines.nd rfl (Or.inl rfl)) (Za8 (Zaq (i:=4) scLines.nd rfl (Or.inl rfl)) (Za8 (Zaq (i:=5) scLines.nd rfl (Or.inl rfl)) Zdj))))
    (Zae (Zax (i:=6) scLines.nd rfl (Or.inl rfl) (pe_ifExp (Zav op_isN (pv 4) Zgf (Za0 _)) Za1 (Zap Za4 (pv 2) (pv 4) (fun _ _=>rfl))))
   (Zae (Zbc (Zav Zjk (pv 5) Zgf (Za0 _)) (Zae (Zbg (Zhu PySem.F.plainAttrs_list PySem.F.slot_list_append PySem.F.type_list_append Zb3 (pv 1) (Zaa (pe_joined (Zmm (pv 6) (pj_str (Zmm (pv 5) pj_nil)))) Zad)))
   (Zag (Zax (i:=6) scLines.nd rfl (Or.inl rfl) (Zaz Zbi (pv 6) Za1)))) Zau)
   (Zae (Zbg (Zhu PySem.F.plainAttrs_list PySem.F.slot_list_append PySem.F.type_list_append Zb3 (pv 1) (Zaa (Zaz Zbi (pv 6) (Zc5 (pv 3) hV_line_here)) Zad)))
   (Zag (Zbg (Zhu PySem.F.plainAttrs_list PySem.F.slot_list_append PySem.F.type_list_append Zb3 (pv 2) (Zaa (pv 6) Zad))))))))
   (Zag (Zan (pv 1)))))),?_⟩
  refine ⟨by show 0 ≤ sizeLine; lia,fun r hr'=>?_⟩
  have s1:Same H (upd H r (.lst [])):=Same.new hr'
  have e1:(upd H r (.lst [])) r=some (.lst []):=Zac
  generalize (upd H r (.lst []))=H1 at s1 e1 ⊢
  refine ⟨by show 0 ≤ sizeLine; lia,fun d hd=>?_⟩
  have s2:Same H1 (upd H1 d (.lst [])):=Same.new hd
  have e2:(upd H1 d (.lst [])) d=some (.lst []):=Zac
  generalize (upd H1 d (.lst []))=H2 at s2 e2 ⊢
  have rd:r ≠ d:=Zah e1 hd
  have s02:=s1.trans s2
  have hd0:H d=none:=s1.free hd
  refine ⟨_,rfl,p,t,rfl,hp.same s02,ok,wt,fun g us H3 s3 hg eg zr=>?_⟩
  rw [hfu] at zr
  have hur:=zr.len
  have er3:=s3 _ _ (s2 _ _ e1)
  have ed3:=s3 _ _ e2
  have gr:g ≠ r:=(Zah (s2 _ _ e1) hg).symm
  have gd:g ≠ d:=(Zah e2 hg).symm
  refine ⟨g,rfl,⟨_,SqL.of eg⟩,?_⟩
  refine Zc6 (K:=K) (a:=g) (xs:=us) (fun i σ H4=>∃ (v3 v4 v5 v6:Option V),σ = [some p,some (.ref r),some (.ref d),v3,v4,v5,v6]∧(∀ c u,H3 c=some u→c ≠ r→c ≠ d→H4 c=some u)∧H4 r=some (.lst ((fdL full i).1.map V.str))∧H4 d=some (.lst ((fdL full i).2.map V.str)))
   ⟨none,none,none,none,rfl,fun c u e _ _=>e,er3,ed3⟩ (fun i σ H4 _ hh0=>by obtain ⟨_,_,_,_,_,k4,_⟩:=hh0; exact SqL.of (k4 _ _ eg gr gd)) ?_ ?_
  ·rintro i y σ H4 hy ⟨v3,v4,v5,v6,rfl,k4,er4,ed4⟩
   obtain ⟨x,hx,tt,pv,rfl,ht3,pl3,okx⟩:=zr.at hy
   obtain ⟨hi,_⟩:=List.getElem?_eq_some_iff.mp hx
   obtain ⟨f1,f2,f3⟩:=Zmx full i (by lia)
   have hil:=Zll (b:=x.2.1) f3
   have ht4:=k4 _ _ ht3 (Za5 ht3 er3 (by intro z; cases z)) (Za5 ht3 ed3 (by intro z; cases z))
   have pl4:=pl3.k2 k4 er3 ed3
   have hbi:=hab i x hx
   rw [Zkf hx]
   generalize hst:fdL full i=st at *
   refine ⟨tt,_,rfl,SqT.of ht4,rfl,_,_,rfl,_,_,rfl,_,_,rfl,rfl,?_⟩
   refine Zhj (fun σ' H'=>σ'=[some p,some (.ref r),some (.ref d),some pv,some (oN x.2.1),some (oS x.2.2),some (.str (indP st.2 x.2.1))]∧H4=H') ?_ ?_
   ·rintro σ' H' ⟨rfl,rfl⟩
    have m1:((st.1).map V.str).length=st.1.length:=List.length_map ..
    have m2:((st.2).map V.str).length=st.2.length:=List.length_map ..
    have c6:tCase.length=6:=by decide +kernel
    refine Zhj (fun σ' H'=>σ'=[some p,some (.ref r),some (.ref d),some pv,some (oN x.2.1),some (oS x.2.2),some (.str (midI st x))]∧(∀ c u,H4 c=some u→c ≠ r→H' c=some u)∧H' r=some (.lst ((midT st x).map V.str))∧(midT st x).length ≤ 2 * i + 1∧(midI st x).length ≤ 2 * i + 2) ?_ ?_
    ·rintro σ' H5 ⟨rfl,k5,er5,lt,li⟩
     have ed5:=k5 _ _ ed4 rd.symm
     have pl5:=pl4.kx k5 er4
     have mt:((midT st x).map V.str).length=(midT st x).length:=List.length_map ..
     have hh:=here_len okx
     obtain ⟨a,C',dx,fs,sp,rfl,ha,hlk,hv,go⟩:=here_any E0 pl5 okx
     refine ⟨_,rfl,.inl ⟨rfl,_,SqL.of er5⟩,_,rfl,_,rfl,a,C',dx,fs,sp,rfl,ha,hlk,hv,go _ ?_⟩
     refine ⟨_,_,rfl,rfl,by show (midI st x).length + (Zg3 x.1).length ≤ _; lia,?_⟩
     refine ⟨r,_,_,rfl,rfl,er5,by lia,?_⟩
     rw [← Zfi]
     have k6:∀ c u,H5 c=some u→c ≠ r→(upd H5 r (.lst ((midT st x ++ [midI st x ++ Zg3 x.1]).map V.str))) c=some u:=fun c u e hc=>by rw [Zak hc]; exact e
     have er6:(upd H5 r (.lst ((midT st x ++ [midI st x ++ Zg3 x.1]).map V.str))) r=some (.lst ((midT st x ++ [midI st x ++ Zg3 x.1]).map V.str)):=Zac
     generalize (upd H5 r (.lst ((midT st x ++ [midI st x ++ Zg3 x.1]).map V.str)))=H6 at k6 er6 ⊢
     have ed6:=k6 _ _ ed5 rd.symm
     refine ⟨_,rfl,.inl ⟨rfl,_,SqL.of ed6⟩,_,rfl,d,_,_,rfl,rfl,ed6,by lia,?_⟩
     refine ⟨_,_,_,_,rfl,fun c u e h1 h2=>?_,?_,?_⟩
     ·rw [Zak h2]
      exact k6 c u (k5 c u (k4 c u e h1 h2) h1) h1
     ·rw [Zak rd,Zie]
      exact er6
     ·rw [Zac,Zie,Zfi]
    ·intro N hN
     have hlb:∀ a,x.2.2=some a→Lb a:=han x (List.mem_of_getElem? hx)
     refine ⟨_,rfl,rfl,_,rfl,?_⟩
     cases hx2:x.2.2 with
     | none=>
      refine iteF ?_
      refine hN _ _ ⟨?_,fun c u e _=>e,?_,?_,?_⟩
      ·unfold midI
       rw [hx2]
      ·unfold midT
       rw [hx2]
       exact er4
      ·unfold midT
       rw [hx2]
       show st.1.length ≤ _
       lia
      ·unfold midI
       rw [hx2]
       show (indP st.2 x.2.1).length ≤ _
       lia
     | some a=>
      have la:=hlb a hx2
      have l2:=la.l2
      refine iteT ?_
      have z1:=Zen (indP st.2 x.2.1) tCase
      have z2:=Zen (indP st.2 x.2.1 ++ tCase) a
      have z3:Str.empty ++ indP st.2 x.2.1=indP st.2 x.2.1:=Zmy _
      refine ⟨_,rfl,.inl ⟨rfl,_,SqL.of er4⟩,_,rfl,indP st.2 x.2.1,rfl,by lia,by rw [z3]; lia,by rw [z3]; show (indP st.2 x.2.1 ++ tCase).length ≤ _; lia,_,rfl,a,rfl,by lia,by rw [z3]; show (indP st.2 x.2.1 ++ tCase ++ a).length ≤ _; lia,?_⟩
      rw [z3]
      refine ⟨r,_,_,rfl,rfl,er4,by lia,?_⟩
      refine ⟨_,rfl,_,_,rfl,rfl,by show (indP st.2 x.2.1).length + tTwo.length ≤ _; rw [Zga]; lia,?_⟩
      refine hN _ _ ⟨?_,fun c u e hc=>by rw [Zak hc]; exact e,?_,?_,?_⟩
      ·unfold midI
       rw [hx2]
       rfl
      ·unfold midT
       rw [hx2,Zac]
       show _=some (HO.lst ((st.1 ++ [indP st.2 x.2.1 ++ tCase ++ a]).map V.str))
       rw [Zfi]
      ·unfold midT
       rw [hx2]
       show (st.1 ++ [indP st.2 x.2.1 ++ tCase ++ a]).length ≤ _
       rw [List.length_append,List.length_singleton]
       lia
      ·unfold midI
       rw [hx2]
       show (indP st.2 x.2.1 ++ tTwo).length ≤ _
       rw [Zen,Zga]
       lia
   ·intro N hN
    refine ⟨_,rfl,rfl,_,rfl,?_⟩
    cases hx1:x.2.1 with
    | none=>
     refine iteT ?_
     exact hN _ _ ⟨by rw [hx1]; rfl,rfl⟩
    | some k=>
     refine iteF ?_
     rw [hx1] at hbi
     have hk:k < st.2.length:=by rw [f1]; exact hbi
     refine ⟨_,rfl,_,rfl,d,_,_,_,rfl,rfl,SqL.of ed4,Zai (v:=V.str (st.2.getD k Str.empty)) (by rw [List.getElem?_map,List.getElem?_eq_getElem hk,List.getD_eq_getElem?_getD,List.getElem?_eq_getElem hk]; rfl),?_⟩
     exact hN _ _ ⟨by rw [hx1]; rfl,rfl⟩
  ·rintro σ H4 ⟨v3,v4,v5,v6,rfl,k4,er4,ed4⟩
   refine ⟨_,rfl,q r H4 (fun c u e=>k4 c u (s3 _ _ (s02 _ _ e)) (Zah e hr') (Zah e hd0)) hr' ?_⟩
   have e9:fdL full us.length=(lnsP t,Lf):=by
    unfold fdL
    rw [hur,List.take_length]
    exact hfold
   rw [e9] at er4
   exact er4
noncomputable def okW:Bool→Pn→Prop
 | true,.stop=>True
 | true,.dd d r=>Lb d∧okW true r
 | true,.lk l ws=>Lb l∧okW false ws
 | false,.nil=>True
 | false,.way a p r=>Lb a∧okW true p∧okW false r
 | _,_=>False
theorem okP.wk:∀ {t:Pn} {p:Bool},okP p t→okW p t
 | .stop,true,_=>trivial
 | .dd _ _,true,h=>⟨h.1,okP.wk h.2⟩
 | .lk _ _,true,h=>⟨h.1,okP.wk h.2.2.2⟩
 | .nil,false,_=>trivial
 | .way _ _ _,false,h=>⟨h.1,okP.wk h.2.1,okP.wk h.2.2⟩
 | .stop,false,h=>h.elim
 | .dd _ _,false,h=>h.elim
 | .lk _ _,false,h=>h.elim
 | .nil,true,h=>h.elim
 | .way _ _ _,true,h=>h.elim
noncomputable abbrev Zgo:List Str:=["_law_tree_here"]
noncomputable abbrev nLLines:List Str:=["_law_tree_here", "_law_lines_here", "_law_answer", "_law_rest", "_law_line"]
theorem scLLines:FnScope nLLines Zgo (Zab Zdi):=⟨rfl,rfl,rfl,by decide +kernel,rfl,by decide +kernel,by decide +kernel⟩
theorem Zhd {t:Pn} (h:okW true t):1 ≤ htP t:=by
 cases t with
 | stop=>exact Nat.le_refl _
 | dd _ _=>exact Nat.le_add_left ..
 | lk _ _=>exact Nat.le_add_left ..
 | nil=>exact h.elim
 | way _ _ _=>exact h.elim
theorem Zd3:∀ (t:Pn) (p:Bool),okW p t→∀ y ∈ lnsP t,y.length ≤ (if p=true then 42 else 44) + 2 * htP t
 | .stop,true,_,y,hy=>by
  rw [List.mem_singleton.mp hy]
  exact Nat.le_trans (show tStop.length ≤ 42 by decide +kernel) (Nat.le_add_right ..)
 | .dd d r,true,h,y,hy=>by
  rcases (List.mem_cons.mp hy) with e | hy
  ·have:=h.1.l2
   rw [e,Zen,show tDo.length=3 by decide +kernel]
   show _ ≤ 42 + 2 * _
   lia
  ·have h1:y.length ≤ 42 + 2 * htP r:=Zd3 r true h.2 y hy
   show _ ≤ 42 + 2 * (htP r + 1)
   lia
 | .lk l ws,true,h,y,hy=>by
  rcases (List.mem_cons.mp hy) with e | hy
  ·have:=h.1.l2
   rw [e,Zen,show tLook.length=5 by decide +kernel]
   show _ ≤ 42 + 2 * _
   lia
  ·have h1:y.length ≤ 44 + 2 * htP ws:=Zd3 ws false h.2 y hy
   show _ ≤ 42 + 2 * (htP ws + 1)
   lia
 | .nil,false,_,_,hy=>nomatch hy
 | .way a p r,false,h,y,hy=>by
  have hm:htP p ≤ htP (.way a p r)∧htP r ≤ htP (.way a p r):=⟨Nat.le_max_left ..,Nat.le_max_right ..⟩
  show _ ≤ 44 + 2 * _
  rcases (List.mem_cons.mp hy) with e | hy
  ·have:=h.1.l2
   rw [e,Zen,show tCase.length=6 by decide +kernel]
   lia
  ·rcases (List.mem_append.mp hy) with hy | hy
   ·obtain ⟨z,hz,rfl⟩:=List.mem_map.mp hy
    have h1:z.length ≤ 42 + 2 * htP p:=Zd3 p true h.2.1 z hz
    rw [Zen,Zga]
    lia
   ·have h1:y.length ≤ 44 + 2 * htP r:=Zd3 r false h.2.2 y hy
    lia
 | .stop,false,h,_,_=>h.elim
 | .dd _ _,false,h,_,_=>h.elim
 | .lk _ _,false,h,_,_=>h.elim
 | .nil,true,h,_,_=>h.elim
 | .way _ _ _,true,h,_,_=>h.elim
inductive spLLines (n:Nat) (vs:List V) (H:Hp) (Q:VK) (E0_:XK):Prop
 | mk (v:V) (t:Pn) (c0:vs=[v]) (c1:TrAt H t [v]) (c2:okW true t) (c3:htP t ≤ n) (c4:n ≤ 100) (c5:wtP t ≤ 40000) (c6:∀ (r:Addr) (H':Hp),Same H H'→H r=none→H' r=some (.lst ((lnsP t).map V.str))→Q (.ref r) H'):spLLines n vs H Q E0_
theorem Ze7 {f:Addr} {fd:FuncData} {k:Nat} {ps:List Str} {sp:Sp} (h:∀ vs H Q E,¬ sp vs H Q E):FnOk P w K mg base CX0 k f fd ps sp:=⟨fun vs H Q E z=>absurd z (h vs H Q E),fun _ _ _ H _ _ vs Q E _ _ _ _ z=>absurd z (h vs H Q E)⟩
noncomputable def wyL:Pn→List (Str × Pn)
 | .way a p r=>(a,p) :: wyL r
 | _=>[]
noncomputable def lnW (x:Str × Pn):List Str:=(tCase ++ x.1) :: (lnsP x.2).map (tTwo ++ ·)
noncomputable def lnWs (xs:List (Str × Pn)):List Str:=(xs.map lnW).flatten
theorem lnWs_snoc (xs:List (Str × Pn)) (x:Str × Pn):lnWs (xs ++ [x])=lnWs xs ++ lnW x:=by
 unfold lnWs
 rw [List.map_append,List.flatten_append]
 simp
theorem Zj9:∀ {ws:Pn},okW false ws→lnsP ws=lnWs (wyL ws)
 | .nil,_=>rfl
 | .way a p r,h=>by
  show (tCase ++ a) :: ((lnsP p).map (tTwo ++ ·) ++ lnsP r)=lnW (a,p) ++ lnWs (wyL r)
  rw [Zj9 h.2.2]
  rfl
noncomputable def WtV (H:Hp) (n m:Nat) (v:V) (x:Str × Pn):Prop:=∃ (t:Addr) (u:V),v=.ref t∧H t=some (.tup [.str x.1,u])∧TrAt H x.2 [u]∧Lb x.1∧okW true x.2∧htP x.2 ≤ n∧wtP x.2 ≤ m
theorem WtV.same {H H':Hp} {n m:Nat} (s:Same H H') (v:V) (x:Str × Pn):WtV H n m v x→WtV H' n m v x:=fun ⟨t,u,e,h,tr,z⟩=>⟨t,u,e,s _ _ h,tr.same s,z⟩
theorem Zfn {H:Hp} {n m:Nat}:∀ {ws:Pn} {us:List V},okW false ws→htP ws ≤ n→wtP ws ≤ m→TrAt H ws us→Z2 (WtV H n m) us (wyL ws)
 | .nil,us,_,_,_,e=>by
  rw [show us=[] from e]
  exact .nil
 | .way a p r,us,h,hh,hw,⟨t,v,us',e,h1,h2,h3⟩=>by
  rw [e]
  have hh':max (htP p) (htP r) ≤ n:=hh
  have hw':wtP p + wtP r + 1 ≤ m:=hw
  have hm:=Nat.max_le.mp hh'
  have z1:wtP p ≤ m:=by lia
  have z2:wtP r ≤ m:=by lia
  exact .cons ⟨t,v,rfl,h1,h2,h.1,h.2.1,hm.1,z1⟩ (Zfn h.2.2 hm.2 z2 h3)
theorem Zlh:∀ {ws:Pn} (i:Nat),okW false ws→(lnWs ((wyL ws).take i)).length ≤ wtP ws
 | .nil,i,_=>by
  show (lnWs (List.take i [])).length ≤ 0
  rw [List.take_nil]
  exact Nat.le_refl _
 | .way a p r,0,_=>Nat.zero_le _
 | .way a p r,i + 1,h=>by
  have h1:=Zlh (ws:=r) i h.2.2
  have h2:=Zd4 p
  show (lnW (a,p) ++ lnWs ((wyL r).take i)).length ≤ wtP p + wtP r + 1
  rw [List.length_append]
  show ((lnsP p).map (tTwo ++ ·)).length + 1 + _ ≤ _
  rw [List.length_map,h2]
  lia
theorem Zip {f:Addr} {fd:FuncData} (F:Fun K "_law_lines" "_law_lines" Zdi f fd) (D_l_lines:Df K mg "_law_lines" Zdi Zgo f fd):∀ n:Nat,FnOk P w K mg base CX0 (1 + n) f fd Zgo (spLLines n)
 | 0=>Ze7 fun vs H Q E h=>by
  obtain ⟨v,t,_,_,ok,h0,_⟩:=h
  have:=Zhd ok
  lia
 | n + 1=>by
  have G_l_lines:=Zip F D_l_lines n
  refine F.ok (k:=1 + n) scLLines (fun vs H Q E h=>?_) (fun cdv A outer s H vs Q E hrN h=>?_)
  ·obtain ⟨v,t,rfl,_⟩:=h
   rfl
  ·obtain ⟨v,t,rfl,tr,ok,hn,hn2,wt,q⟩:=h
   have hsl:sizeLine=16777216:=sizeLine_eq
   refine ⟨_,(Zae (Zbc (Zav Zdr (Zap Zar (pv 0) Zaf (fun _ _=>rfl)) Za1 (Za0 _)) (Zag (Zan (Zc0 (Zaa Za1 Zad)))) Zau)
   (Zae (Zbc (Zav Zdr (Zap Zar (pv 0) Zaf (fun _ _=>rfl)) Za1 (Za0 _)) (Zag (Zan (Zaz Zj2 (Zc0 (Zaa (Zaz Zbi Za1 (Zap Zar (pv 0) Zaf (fun _ _=>rfl))) Zad)) (Zaj G_l_lines hrN (by rfl) D_l_lines.m D_l_lines.F.kp D_l_lines.b .nil Zaw (Zaa (Zap Zar (pv 0) Zaf (fun _ _=>rfl)) Zad))))) Zau)
   (Zae (Zax (i:=1) scLLines.nd rfl (Or.inl rfl) (Zc0 (Zaa (Zaz Zbi Za1 (Zap Zar (pv 0) Zaf (fun _ _=>rfl))) Zad)))
   (Zae (Zcc PassesOwn.never rfl (Zbd (Zap Zar (pv 0) Zaf (fun _ _=>rfl))) (Ze9 rfl (Za8 (Zaq (i:=2) scLLines.nd rfl (Or.inl rfl)) (Za8 (Zaq (i:=3) scLLines.nd rfl (Or.inl rfl)) Zdj)))
    (Zae (Zbg (Zhu PySem.F.plainAttrs_list PySem.F.slot_list_append PySem.F.type_list_append Zb3 (pv 1) (Zaa (Zaz Zbi Za1 (pv 2)) Zad)))
   (Zag (Zcc PassesOwn.never rfl (Zbd (Zaj G_l_lines hrN (by rfl) D_l_lines.m D_l_lines.F.kp D_l_lines.b .nil Zaw (Zaa (pv 3) Zad))) (Zaq (i:=4) scLLines.nd rfl (Or.inl rfl))
    (Zag (Zbg (Zhu PySem.F.plainAttrs_list PySem.F.slot_list_append PySem.F.type_list_append Zb3 (pv 1) (Zaa (Zaz Zbi Za1 (pv 4)) Zad))))))))
   (Zag (Zan (pv 1))))))),?_⟩
   cases t with
   | nil=>exact ok.elim
   | way _ _ _=>exact ok.elim
   | stop=>
    obtain ⟨a,e,h⟩:=tr
    cases e
    refine ⟨_,rfl,a,_,_,_,rfl,rfl,SqT.of h,Zai (j:=0) (v:=V.str tStop) rfl,rfl,_,rfl,?_⟩
    refine ite2 (fun _=>?_) (fun z=>absurd (decide_eq_true rfl) z)
    exact ⟨by show 1 ≤ sizeLine; lia,fun r hr=>q r _ (Same.new hr) hr Zac⟩
   | dd d r=>
    obtain ⟨a,v',e,h,tr'⟩:=tr
    cases e
    have a0:atI [V.str (Str.ofString "do"),.str d,v'] ((0:Nat):Int)=some (.str (Str.ofString "do")):=Zai rfl
    have a1:atI [V.str (Str.ofString "do"),.str d,v'] ((1:Nat):Int)=some (.str d):=Zai rfl
    have a2:atI [V.str (Str.ofString "do"),.str d,v'] ((2:Nat):Int)=some v':=Zai rfl
    refine ⟨_,rfl,a,_,_,_,rfl,rfl,SqT.of h,a0,rfl,_,rfl,?_⟩
    refine ite2 (fun z=>absurd (V.str.inj (of_decide_eq_true z)) (by decide +kernel)) (fun _=>?_)
    try unfold tNext
    dsimp only
    refine ⟨_,rfl,a,_,_,_,rfl,rfl,SqT.of h,a0,rfl,_,rfl,?_⟩
    refine ite2 (fun _=>?_) (fun z=>absurd (decide_eq_true rfl) z)
    have l2:=ok.1.l2
    refine ⟨_,rfl,a,_,_,_,rfl,rfl,SqT.of h,a1,_,_,rfl,rfl,by show tDo.length + d.length ≤ _; rw [show tDo.length=3 by decide +kernel]; lia,by show 1 ≤ sizeLine; lia,fun l1 hl1=>?_⟩
    have s1:Same H (upd H l1 (.lst [.str (tDo ++ d)])):=Same.new hl1
    have e1:(upd H l1 (.lst [.str (tDo ++ d)])) l1=some (.lst [.str (tDo ++ d)]):=Zac
    generalize (upd H l1 (.lst [.str (tDo ++ d)]))=H1 at s1 e1 ⊢
    have hw':wtP r + 1 ≤ 40000:=wt
    have hh':htP r + 1 ≤ n + 1:=hn
    have hln:=Zd4 r
    refine ⟨_,rfl,a,_,_,_,rfl,rfl,SqT.of (s1 _ _ h),a2,v',r,rfl,tr'.same s1,ok.2,by lia,by lia,by lia,fun g H2 s2 hg eg=>?_⟩
    refine ⟨l1,g,_,_,rfl,rfl,s2 _ _ e1,eg,?_,fun z hz=>?_⟩
    ·show 1 + ((lnsP r).map V.str).length ≤ _
     rw [List.length_map,hln]
     lia
    ·have s3:=s1.trans s2
     exact q z _ (s3.trans (Same.new hz)) (s3.free hz) Zac
   | lk l ws=>
    obtain ⟨a,u,us,e,h,hu,tr'⟩:=tr
    cases e
    have a0:atI [V.str (Str.ofString "look"),.str l,.ref u] ((0:Nat):Int)=some (.str (Str.ofString "look")):=Zai rfl
    have a1:atI [V.str (Str.ofString "look"),.str l,.ref u] ((1:Nat):Int)=some (.str l):=Zai rfl
    have a2:atI [V.str (Str.ofString "look"),.str l,.ref u] ((2:Nat):Int)=some (.ref u):=Zai rfl
    refine ⟨_,rfl,a,_,_,_,rfl,rfl,SqT.of h,a0,rfl,_,rfl,?_⟩
    refine ite2 (fun z=>absurd (V.str.inj (of_decide_eq_true z)) (by decide +kernel)) (fun _=>?_)
    try unfold tNext
    dsimp only
    refine ⟨_,rfl,a,_,_,_,rfl,rfl,SqT.of h,a0,rfl,_,rfl,?_⟩
    refine ite2 (fun z=>absurd (V.str.inj (of_decide_eq_true z)) (by decide +kernel)) (fun _=>?_)
    try unfold tNext
    dsimp only
    have l2:=ok.1.l2
    have hw':wtP ws + 1 ≤ 40000:=wt
    have hh':htP ws + 1 ≤ n + 1:=hn
    have c6:tCase.length=6:=by decide +kernel
    have c2:tTwo.length=2:=Zga
    refine ⟨_,rfl,a,_,_,_,rfl,rfl,SqT.of h,a1,_,_,rfl,rfl,by show tLook.length + l.length ≤ _; rw [show tLook.length=5 by decide +kernel]; lia,by show 1 ≤ sizeLine; lia,fun r hr=>?_⟩
    have s1:Same H (upd H r (.lst [.str (tLook ++ l)])):=Same.new hr
    have e1:(upd H r (.lst [.str (tLook ++ l)])) r=some (.lst ([tLook ++ l].map V.str)):=Zac
    generalize (upd H r (.lst [.str (tLook ++ l)]))=H1 at s1 e1 ⊢
    have wa:=Zfn (n:=n) (m:=40000) ok.2 (by lia) (by lia) tr'
    have hul:=wa.len
    have ew:=Zj9 ok.2
    refine ⟨_,rfl,a,_,_,_,rfl,rfl,SqT.of (s1 _ _ h),a2,u,rfl,⟨_,SqL.of (s1 _ _ hu)⟩,?_⟩
    refine Zc6 (K:=K) (a:=u) (xs:=us) (fun i σ H2=>∃ (v2 v3 v4:Option V),σ = [some (.ref a),some (.ref r),v2,v3,v4]∧Same H H2∧H2 r=some (.lst (((tLook ++ l) :: lnWs ((wyL ws).take i)).map V.str)))
     ⟨none,none,none,rfl,s1,e1⟩ (fun i σ H2 _ hh0=>by obtain ⟨_,_,_,_,s2,_⟩:=hh0; exact SqL.of (s2 _ _ hu)) ?_ ?_
    ·rintro i y σ H2 hy ⟨v2,v3,v4,rfl,s2,e2⟩
     obtain ⟨x,hx,t',v',rfl,ht,tr2,lb,ok2,hn3,hw3⟩:=(wa.mono (WtV.same s2)).at hy
     have la:=lb.l2
     have hlw:=Zlh i ok.2
     have hm2:(((tLook ++ l) :: lnWs ((wyL ws).take i)).map V.str).length ≤ 40000:=by
      rw [List.length_map,List.length_cons]
      lia
     refine ⟨t',_,rfl,SqT.of ht,rfl,_,_,rfl,_,_,rfl,rfl,?_⟩
     refine ⟨_,rfl,.inl ⟨rfl,_,SqL.of e2⟩,_,rfl,_,_,rfl,rfl,by show tCase.length + x.1.length ≤ _; lia,?_⟩
     refine ⟨r,_,_,rfl,rfl,e2,by lia,?_⟩
     rw [← Zfi]
     generalize hA:(tLook ++ l) :: lnWs ((wyL ws).take i)=A at e2 hm2 ⊢
     have k3:∀ c u,H2 c=some u→c ≠ r→(upd H2 r (.lst ((A ++ [tCase ++ x.1]).map V.str))) c=some u:=fun c u e hc=>by rw [Zak hc]; exact e
     have e3:(upd H2 r (.lst ((A ++ [tCase ++ x.1]).map V.str))) r=some (.lst ((A ++ [tCase ++ x.1]).map V.str)):=Zac
     have s3:Same H (upd H2 r (.lst ((A ++ [tCase ++ x.1]).map V.str))):=fun c u e=>k3 c u (s2 _ _ e) (Zah e hr)
     generalize (upd H2 r (.lst ((A ++ [tCase ++ x.1]).map V.str)))=H3 at k3 e3 s3 ⊢
     obtain ⟨x',hx',t'',v'',ez,ht3,tr3,_⟩:=(wa.mono (WtV.same s3)).at hy
     have ex:x'=x:=Option.some.inj (hx'.symm.trans hx)
     subst ex
     cases ez
     have ev:v''=v':=by
      have h9:=k3 _ _ ht (Za5 ht e2 (by intro z; cases z))
      rw [ht3] at h9
      injection h9 with h9
      injection h9 with h9
      injection h9 with _ h9
      injection h9 with h9 _
     subst ev
     refine ⟨_,rfl,v'',x'.2,rfl,tr3,ok2,hn3,by lia,hw3,fun g H4 s4 hg eg=>?_⟩
     have gr:g ≠ r:=(Zah e3 hg).symm
     have hln:=Zd4 x'.2
     refine ⟨g,rfl,⟨_,SqL.of eg⟩,?_⟩
     refine Zc6 (K:=K) (a:=g) (xs:=(lnsP x'.2).map V.str) (fun j σ H5=>∃ (v4:Option V),σ = [some (.ref a),some (.ref r),some (.str x'.1),some v'',v4]∧(∀ c u,H4 c=some u→c ≠ r→H5 c=some u)∧H5 r=some (.lst ((A ++ [tCase ++ x'.1] ++ ((lnsP x'.2).take j).map (tTwo ++ ·)).map V.str)))
      ⟨v4,rfl,fun c u e _=>e,by rw [List.take_zero,List.map_nil,List.append_nil]; exact s4 _ _ e3⟩ (fun j σ H5 _ hh0=>by obtain ⟨_,_,k5,_⟩:=hh0; exact SqL.of (k5 _ _ eg gr)) ?_ ?_
     ·rintro j y σ H5 hy ⟨v4,rfl,k5,e5⟩
      rw [List.getElem?_map] at hy
      obtain ⟨z,hz,rfl⟩:=Option.map_eq_some_iff.mp hy
      obtain ⟨hj,ez⟩:=List.getElem?_eq_some_iff.mp hz
      have hzl:z.length ≤ 42 + 2 * htP x'.2:=Zd3 _ true ok2 z (List.mem_of_getElem? hz)
      have hAl:A.length ≤ 40000:=by rw [List.length_map] at hm2; exact hm2
      refine ⟨_,rfl,.inl ⟨rfl,_,SqL.of e5⟩,_,rfl,_,_,rfl,rfl,by show tTwo.length + z.length ≤ _; lia,?_⟩
      refine ⟨r,_,_,rfl,rfl,e5,?_,?_⟩
      ·rw [List.length_map,List.length_append,List.length_append,List.length_map,List.length_take]
       show A.length + 1 + _ < _
       lia
      ·rw [← Zfi]
       refine ⟨_,rfl,fun c u e hc=>by rw [Zak hc]; exact k5 c u e hc,?_⟩
       rw [Zac,List.take_succ_eq_append_getElem hj,ez]
       refine congrArg (fun q=>some (HO.lst (List.map V.str q))) ?_
       rw [List.map_append,← List.append_assoc]
       rfl
     ·rintro σ H5 ⟨v4,rfl,k5,e5⟩
      rw [List.length_map,List.take_length] at e5
      refine ⟨_,_,_,rfl,fun c u e=>k5 c u (s4 _ _ (s3 _ _ e)) (Zah e hr),?_⟩
      obtain ⟨hi,ei⟩:=List.getElem?_eq_some_iff.mp hx
      rw [e5,List.take_succ_eq_append_getElem hi,ei,lnWs_snoc,← hA,List.append_assoc]
      rfl
    ·rintro σ H2 ⟨v2,v3,v4,rfl,s2,e2⟩
     refine ⟨_,rfl,q r H2 s2 hr ?_⟩
     rw [hul,List.take_length,← ew] at e2
     exact e2
structure Nm (H:Hp) (t:Addr) (D L A:List Str):Prop where
 got:∃ d l e:Addr,H t=some (.tup [.ref d,.ref l,.ref e])∧H d=some (.lst (D.map V.str))∧H l=some (.lst (L.map V.str))∧H e=some (.lst (A.map V.str))
 d3:D.length=3
 l2:L.length=2
 a3:A.length=3
 db:∀ x ∈ D,Lb x
 lb:∀ x ∈ L,Lb x
 ab:∀ x ∈ A,Lb x
 nd:A.Nodup
 ndl:(D ++ L).Nodup
theorem Nm.same {H H':Hp} {t:Addr} {D L A:List Str} (h:Nm H t D L A) (s:Same H H'):Nm H' t D L A:=by
 obtain ⟨⟨d,l,e,h1,h2,h3,h4⟩,a1,a2,a3,a4,a5,a6,a7,a8⟩:=h
 exact ⟨⟨d,l,e,s _ _ h1,s _ _ h2,s _ _ h3,s _ _ h4⟩,a1,a2,a3,a4,a5,a6,a7,a8⟩
noncomputable def fw (H H':Hp):Hp:=fun c=>match H c with
 | none=>H' c
 | some _=>none
theorem Zkr {H H':Hp} {c:Addr} (h:H c=none):fw H H' c=H' c:=by
 unfold fw
 rw [h]
theorem Zln {H H':Hp} {c:Addr} {u:HO} (e:fw H H' c=some u):H c=none∧H' c=some u:=by
 unfold fw at e
 cases h:H c with
 | none=>
  rw [h] at e
  exact ⟨rfl,e⟩
 | some _=>
  rw [h] at e
  cases e
theorem fw_le {H H':Hp}:Same (fw H H') H':=fun _ _ e=>(Zln e).2
theorem Zh4 {H H' J J':Hp} (h1:∀ c,H c=none→J c=none) (h2:∀ c u,H c=none→H' c=some u→J' c=some u):Same (fw H H') (fw J J'):=fun c u e=>by
 obtain ⟨h,e'⟩:=Zln e
 rw [Zkr (h1 c h)]
 exact h2 c u h e'
theorem TrAt.put {H:Hp} {t:Addr} {a:Str} {v:V} {p:Pn} (h1:H t=some (.tup [.str a,v])) (h2:TrAt H p [v]):∀ {pre:List (Str × Pn)} {us:List V},TrAt H (ofL pre .nil) us→TrAt H (ofL (pre ++ [(a,p)]) .nil) (us ++ [.ref t])
 | [],us,e=>by
  rw [show us=[] from e]
  exact ⟨t,v,[],rfl,h1,h2,rfl⟩
 | x :: r,us,⟨t',v',us',e,z1,z2,z3⟩=>by
  rw [e]
  exact ⟨t',v',us' ++ [.ref t],rfl,z1,z2,TrAt.put h1 h2 z3⟩
theorem Zj5:∀ {pre:List (Str × Pn)},(∀ x ∈ pre,Lb x.1∧okP true x.2)→okP false (ofL pre .nil)
 | [],_=>trivial
 | x :: r,h=>⟨(h x List.mem_cons_self).1,(h x List.mem_cons_self).2,Zj5 fun y hy=>h y (List.mem_cons_of_mem _ hy)⟩
theorem Zhc:∀ pre:List (Str × Pn),anP (ofL pre .nil)=pre.map (·.1)
 | []=>rfl
 | x :: r=>congrArg (x.1 :: ·) (Zhc r)
theorem Zj7 {n:Nat}:∀ {pre:List (Str × Pn)},(∀ x ∈ pre,htP x.2 ≤ n)→htP (ofL pre .nil) ≤ n
 | [],_=>Nat.zero_le _
 | x :: r,h=>Nat.max_le.mpr ⟨h x List.mem_cons_self,Zj7 fun y hy=>h y (List.mem_cons_of_mem _ hy)⟩
theorem Zmr {m:Nat}:∀ {pre:List (Str × Pn)},(∀ x ∈ pre,wtP x.2 ≤ m)→wtP (ofL pre .nil) ≤ pre.length * (m + 1)
 | [],_=>Nat.zero_le _
 | x :: r,h=>by
  have h1:=h x List.mem_cons_self
  have h2:=Zmr (pre:=r) fun y hy=>h y (List.mem_cons_of_mem _ hy)
  show wtP x.2 + wtP (ofL r .nil) + 1 ≤ (r.length + 1) * (m + 1)
  rw [Nat.add_mul]
  lia
theorem getD_ne {A:List Str} (h3:A.length=3) (nd:A.Nodup) {p q:Nat} (hp:p < 3) (hq:q < 3) (n:p ≠ q):A.getD p Str.empty ≠ A.getD q Str.empty:=by
 intro e
 rw [List.getD_eq_getElem?_getD,List.getD_eq_getElem?_getD,List.getElem?_eq_getElem (show p < A.length by lia),List.getElem?_eq_getElem (show q < A.length by lia)] at e
 have h:=List.pairwise_iff_getElem.mp nd
 rcases Nat.lt_or_gt_of_ne n with l | l
 ·exact h p q (by lia) (by lia) l e
 ·exact h q p (by lia) (by lia) l e.symm
noncomputable def tuA (A:List Str) (tn m:Nat):Str:=A.getD ((tn + m) % 3) Str.empty
theorem tu_nodup {A:List Str} (h3:A.length=3) (nd:A.Nodup) (tn:Nat) {i:Nat} (hi:i ≤ 3):((List.range i).map (tuA A tn)).Nodup:=by
 refine List.pairwise_map.mpr (List.pairwise_lt_range.imp_of_mem fun {a b} ha hb h=>?_)
 have ha':=List.mem_range.mp ha
 have hb':=List.mem_range.mp hb
 exact getD_ne h3 nd (by lia) (by lia) (by lia)
theorem Ze6 {A:List Str} {i:Nat} (h:i < A.length):atI (A.map V.str) (i:Int)=some (.str (A.getD i Str.empty))∧A.getD i Str.empty ∈ A:=by
 have e:A.getD i Str.empty=A[i]:=by rw [List.getD_eq_getElem?_getD,List.getElem?_eq_getElem h]; rfl
 rw [e]
 exact ⟨Zai (by rw [List.getElem?_map,List.getElem?_eq_getElem h]; rfl),List.getElem_mem h⟩
noncomputable def cK (k:Nat):Nat:=if k < 1 then 54 else if k < 4 then 18 else if k < 13 then 6 else 2
noncomputable def cD (k:Nat):Nat:=if k < 1 then 18 else if k < 4 then 6 else 2
theorem ck_dn {k i d w:Nat} (hi:i ≤ 2) (h:w ≤ cK (3 * k + 1 + i) * d + 1):w ≤ cD k * d + 1:=by
 have h1:cK (3 * k + 1 + i) ≤ cD k:=by
  unfold cK cD
  repeat' split
  all_goals lia
 have:=Nat.mul_le_mul_right d h1
 lia
theorem ck_do {k d w:Nat} (h:w ≤ cD k * d + 1):w + 1 ≤ cK k * (d + 1) + 1:=by
 have h1:cD k ≤ cK k∧1 ≤ cK k:=by
  unfold cK cD
  split <;> (try split) <;> (try split) <;> lia
 have h2:=Nat.mul_le_mul_right d h1.1
 rw [Nat.mul_add]
 lia
theorem ck_lk {k d m:Nat} (h3:m ≤ 3) (h13:13 ≤ k→m=1):m * (cD k * d + 1 + 1) + 1 ≤ cK k * (d + 1) + 1:=by
 have h1:m * (cD k * d + 1 + 1) ≤ (if k < 13 then 3 else 1) * (cD k * d + 1 + 1):=Nat.mul_le_mul_right _ (by split <;> lia)
 revert h1
 unfold cK cD
 split <;> (try split) <;> (try split) <;> (try split) <;> intro h1 <;> lia
theorem ck_8 {d w:Nat} (hd:d ≤ 8) (h:w ≤ cK 0 * d + 1):w ≤ 500:=by
 have:cK 0=54:=rfl
 rw [this] at h
 lia
theorem Zl9 {k d i:Nat} (hi:i ≤ 2) (h:(k + 2) * 3 ^ (d + 1) ≤ 13122):(3 * k + 1 + i + 2) * 3 ^ d ≤ 13122:=by
 have h1:(3 * k + 1 + i + 2) * 3 ^ d ≤ (3 * (k + 2)) * 3 ^ d:=Nat.mul_le_mul_right _ (by lia)
 have h2:(k + 2) * 3 ^ (d + 1)=(3 * (k + 2)) * 3 ^ d:=by rw [Nat.pow_succ,Nat.mul_comm 3 (k + 2),Nat.mul_assoc,Nat.mul_comm 3]
 lia
theorem tree_k0 {k d:Nat} (h:(k + 2) * 3 ^ d ≤ 13122):k < 13122:=by
 have h1:(k + 2) * 1 ≤ (k + 2) * 3 ^ d:=Nat.mul_le_mul_left _ (Nat.pow_pos (by decide))
 lia
inductive spNames (K:PySem.W.Frag) (vs:List V) (H:Hp) (Q:VK) (E0_:XK):Prop
 | mk (a:Addr) (ns:List Int) (c0:vs=[.ref a]) (c1:SqL K H a (ns.map V.int)) (c2:ns.length ≤ 63) (c3:∀ (t:Addr) (D L A:List Str) (H':Hp),Same H H'→Nm H' t D L A→wdS ns 2 122 ∉ D ++ L→Q (.ref t) H'):spNames K vs H Q E0_
noncomputable def inP (D L:List Str):Pn→Prop
 | .stop=>True
 | .dd d r=>d ∈ D∧inP D L r
 | .lk l ws=>l ∈ L∧inP D L ws
 | .nil=>True
 | .way _ p r=>inP D L p∧inP D L r
theorem Zms {D L:List Str}:∀ {pre:List (Str × Pn)},(∀ x ∈ pre,inP D L x.2)→inP D L (ofL pre .nil)
 | [],_=>trivial
 | x :: r,h=>⟨h x List.mem_cons_self,Zms fun y hy=>h y (List.mem_cons_of_mem _ hy)⟩
inductive spTree (K:PySem.W.Frag) (n:Nat) (vs:List V) (H:Hp) (Q:VK) (E0_:XK):Prop
 | mk (a:Addr) (ns:List Int) (k d:Nat) (t:Addr) (D L A:List Str) (c0:vs=[.ref a,.int (k:Int),.int (d:Int),.ref t]) (c1:SqL K H a (ns.map V.int)) (c2:ns.length ≤ 63) (c3:(k + 2) * 3 ^ d ≤ 13122) (c4:d < n) (c5:Nm H t D L A) (c6:∀ (v:V) (p:Pn) (H':Hp),Same H H'→TrAt (fw H H') p [v]→okP true p→inP D L p→htP p ≤ d + 1→wtP p ≤ cK k * d + 1→Q v H'):spTree K n vs H Q E0_
inductive spRow (K:PySem.W.Frag) (vs:List V) (H:Hp) (Q:VK) (E0_:XK):Prop
 | mk (a:Addr) (ns:List Int) (c:Int) (t:Addr) (D L A:List Str) (c0:vs=[.ref a,.int c,.ref t]) (c1:SqL K H a (ns.map V.int)) (c2:ns.length ≤ 63) (c3:0 ≤ c) (c4:c ≤ 40) (c5:Nm H t D L A) (c6:∀ (v:V) (p:Pn) (H':Hp),Same H H'→TrAt H' p [v]→okP true p→inP D L p→htP p ≤ 41→wtP p ≤ 500→Q v H'):spRow K vs H Q E0_
inductive spDrawn (K:PySem.W.Frag) (vs:List V) (H:Hp) (Q:VK) (E0_:XK):Prop
 | mk (a:Addr) (ns:List Int) (t:Addr) (D L A:List Str) (c0:vs=[.ref a,.ref t]) (c1:SqL K H a (ns.map V.int)) (c2:ns.length ≤ 63) (c3:Nm H t D L A) (c4:∀ (v:V) (p:Pn) (H':Hp),Same H H'→TrAt H' p [v]→okP true p→inP D L p→htP p ≤ 41→wtP p ≤ 500→Q v H'):spDrawn K vs H Q E0_
noncomputable abbrev Zjz:List Str:=["_law_script"]
noncomputable abbrev nNames:List Str:=["_law_script"]
theorem scNames:FnScope nNames Zjz (Zab Zfy):=⟨rfl,rfl,rfl,by decide +kernel,rfl,by decide +kernel,by decide +kernel⟩
noncomputable abbrev Zhb:List Str:=["_law_script", "_law_k", "_law_prime", "_law_many"]
noncomputable abbrev nLDeep:List Str:=["_law_script", "_law_k", "_law_prime", "_law_many", "_law_mixed"]
theorem scLDeep:FnScope nLDeep Zhb (Zab Ze8):=⟨rfl,rfl,rfl,by decide +kernel,rfl,by decide +kernel,by decide +kernel⟩
noncomputable abbrev Zgm:List Str:=["_law_script", "_law_k", "_law_deep_here", "_law_words_here"]
noncomputable abbrev nLTree:List Str:=["_law_script", "_law_k", "_law_deep_here", "_law_words_here", "_law_way", "_law_many", "_law_turn", "_law_ways", "_law_m", "_law_rest"]
theorem scLTree:FnScope nLTree Zgm (Zab Zep):=⟨rfl,rfl,rfl,by decide +kernel,rfl,by decide +kernel,by decide +kernel⟩
noncomputable abbrev Zef:List Str:=["_law_script", "_law_count", "_law_words_here"]
noncomputable abbrev nLRowOfDos:List Str:=["_law_script", "_law_count", "_law_words_here", "_law_tree_here", "_law_k"]
theorem scLRowOfDos:FnScope nLRowOfDos Zef (Zab Zb7):=⟨rfl,rfl,rfl,by decide +kernel,rfl,by decide +kernel,by decide +kernel⟩
noncomputable abbrev Zdm:List Str:=["_law_script", "_law_words_here"]
noncomputable abbrev nLDrawnTree:List Str:=["_law_script", "_law_words_here"]
theorem scLDrawnTree:FnScope nLDrawnTree Zdm (Zab Zbs):=⟨rfl,rfl,rfl,by decide +kernel,rfl,by decide +kernel,by decide +kernel⟩
theorem ok_names {f f1:Addr} {fd d1:FuncData} (F:Fun K "_law_names" "_law_names" Zfy f fd) (D_l_words:Df K mg "_law_words" Zcz Zfq f1 d1) (G_l_words:FnOk P w K mg base CX0 3 f1 d1 Zfq (spWords K)):FnOk P w K mg base CX0 4 f fd Zjz (spNames K):=by
 refine F.ok scNames (fun vs H Q E h=>?_) (fun cdv A outer s H vs Q E hr3 h=>?_)
 ·obtain ⟨a,ns,rfl,_⟩:=h
  rfl
 ·obtain ⟨a,ns,rfl,hS,hn,q⟩:=h
  have hsl:sizeLine=16777216:=sizeLine_eq
  refine ⟨_,(Zag (Zan (Zbu (Zaa (Zaj G_l_words hr3 (by rfl) D_l_words.m D_l_words.F.kp D_l_words.b .nil Zaw (Zaa (pv 0) (Zaa Zaf (Zaa Za1 Zad)))) (Zaa (Zaj G_l_words hr3 (by rfl) D_l_words.m D_l_words.F.kp D_l_words.b .nil Zaw (Zaa (pv 0) (Zaa Zaf (Zaa Za1 Zad)))) (Zaa (Zaj G_l_words hr3 (by rfl) D_l_words.m D_l_words.F.kp D_l_words.b .nil Zaw (Zaa (pv 0) (Zaa Zaf (Zaa Za1 Zad)))) Zad)))))),?_⟩
  refine ⟨_,rfl,a,ns,_,_,rfl,hS,hn,by decide,by decide,by decide +kernel,by decide +kernel,fun l1 H1 s1 f1 e1=>?_⟩
  refine ⟨_,rfl,a,ns,_,_,rfl,s1.seq hS,hn,by decide,by decide,by decide +kernel,by decide +kernel,fun l2 H2 s2 f2 e2=>?_⟩
  have s02:=s1.trans s2
  refine ⟨_,rfl,a,ns,_,_,rfl,s02.seq hS,hn,by decide,by decide,by decide +kernel,by decide +kernel,fun l3 H3 s3 f3 e3=>?_⟩
  have s03:=s02.trans s3
  refine ⟨by show 3 ≤ sizeLine; lia,fun t ht=>?_⟩
  have s4:=Same.new (o:=.tup [V.ref l1,.ref l2,.ref l3]) ht
  have c1:∀ c ∈ cs (Str.ofString "abc"),c < 128:=by decide +kernel
  have c2:∀ c ∈ cs (Str.ofString "de"),c < 128:=by decide +kernel
  have c3:∀ c ∈ cs (Str.ofString "pqr"),c < 128:=by decide +kernel
  have n1:(cs (Str.ofString "abc")).length=3:=by decide +kernel
  have n2:(cs (Str.ofString "de")).length=2:=by decide +kernel
  have n3:(cs (Str.ofString "pqr")).length=3:=by decide +kernel
  have nd:(cs (Str.ofString "pqr")).Nodup:=by decide +kernel
  have lb:∀ (l:List Nat) (k:Int),(∀ c ∈ l,c < 128)→∀ x ∈ l.map (wdS ns k),Lb x:=fun l k hl x hx=>by
   obtain ⟨c,hc,rfl⟩:=List.mem_map.mp hx
   exact Zl7 ns k (hl c hc)
  have nl:(cs (Str.ofString "abc") ++ cs (Str.ofString "de")).Nodup:=by decide +kernel
  have zz:wdS ns 2 122 ∉ (cs (Str.ofString "abc")).map (wdS ns 2) ++ (cs (Str.ofString "de")).map (wdS ns 2):=fun z=>by
   rw [← List.map_append] at z
   obtain ⟨c,hc,e⟩:=List.mem_map.mp z
   rw [Zkt e] at hc
   exact absurd hc (by decide +kernel)
  exact q t _ _ _ _ (s03.trans s4) ⟨⟨l1,l2,l3,Zac,s4 _ _ (s3 _ _ (s2 _ _ e1)),s4 _ _ (s3 _ _ e2),s4 _ _ e3⟩,by rw [List.length_map,n1],by rw [List.length_map,n2],by rw [List.length_map,n3],lb _ _ c1,lb _ _ c2,lb _ _ c3,Zh8 nd,by rw [← List.map_append]; exact Zh8 nl⟩ zz
theorem ok_deep {f f1:Addr} {fd d1:FuncData} (F:Fun K "_law_deep" "_law_deep" Ze8 f fd) (D_l_cell:Df K mg "_law_cell" Zes Zf2 f1 d1) (G_l_cell:FnOk P w K mg base CX0 1 f1 d1 Zf2 (spCell K)):FnOk P w K mg base CX0 2 f fd Zhb (spDraw K):=by
 refine F.ok scLDeep (fun vs H Q E h=>?_) (fun cdv A outer s H vs Q E hr1 h=>?_)
 ·obtain ⟨a,ns,k,p,m,rfl,_⟩:=h
  rfl
 ·obtain ⟨a,ns,k,p,m,rfl,hS,hn,k0,k1,p0,m0,q⟩:=h
  refine ⟨_,(Zae (Zax (i:=4) scLDeep.nd rfl (Or.inl rfl) (Zaz Zez (Zaz Zbv (Zaz Zbv (Zaz Zdv (Zaj G_l_cell hr1 (by rfl) D_l_cell.m D_l_cell.F.kp D_l_cell.b .nil Zaw (Zaa (pv 0) (Zaa (Zaz Zez (Zaz Zbv (Zaz Zdv Zaf (pv 1)) Zaf) Zaf) Zad))) Zaf) (Zaz Zdv (Zaz Zdv Zaf (pv 1)) (pv 1))) Zaf) (pv 2)))
   (Zag (Zan (Zaz Zez (Zaz Zez (Zaz Zdv (pv 4) Zaf) Zaf) (pv 3))))),?_⟩
  refine ⟨_,rfl,_,rfl,_,_,rfl,rfl,.inl ⟨by decide,by decide⟩,_,_,rfl,rfl,_,_,rfl,rfl,(by show (0:Int) < _; decide),a,ns,_,rfl,hS,hn,Int.emod_nonneg _ (by decide),?_⟩
  refine ⟨_,_,rfl,rfl,.inr ⟨by decide,by decide⟩,_,rfl,_,_,rfl,rfl,.inl ⟨by decide,by decide⟩,_,rfl,_,_,rfl,rfl,.inl ⟨by lia,by lia⟩,_,_,rfl,rfl,_,_,rfl,rfl,_,rfl,_,_,rfl,rfl,p0,?_⟩
  exact ⟨_,rfl,_,_,rfl,rfl,.inr ⟨by decide,by decide⟩,_,_,rfl,rfl,(by show (0:Int) < _; decide),_,rfl,_,_,rfl,rfl,m0,q _ (Int.emod_nonneg _ (by lia)) (Int.emod_lt_of_pos _ m0)⟩
theorem Zld {f f1:Addr} {fd d1:FuncData} (F:Fun K "_law_tree" "_law_tree" Zep f fd) (T:Bl mg) (D_l_tree:Df K mg "_law_tree" Zep Zgm f fd) (D_l_deep:Df K mg "_law_deep" Ze8 Zhb f1 d1) (G_l_deep:FnOk P w K mg base CX0 2 f1 d1 Zhb (spDraw K)):∀ n:Nat,FnOk P w K mg base CX0 (3 + n) f fd Zgm (spTree K n)
 | 0=>Ze7 fun vs H Q E h=>by
  obtain ⟨_,_,_,d,_,_,_,_,_,_,_,_,h0,_⟩:=h
  exact absurd h0 (Nat.not_lt_zero _)
 | n + 1=>by
  have G_l_tree:=Zld F T D_l_tree D_l_deep G_l_deep n
  refine F.ok (k:=3 + n) scLTree (fun vs H Q E h=>?_) (fun cdv A outer s H vs Q E hrN h=>?_)
  ·obtain ⟨a,ns,k,d,t,D,L,A,rfl,_⟩:=h
   rfl
  ·obtain ⟨a,ns,k,d,t,D,L,A',rfl,hS,hn,hk,hd,nm,q⟩:=h
   have hr2:Room 2 _:=hrN.mono (by lia)
   have hsl:sizeLine=16777216:=sizeLine_eq
   have hk0:=tree_k0 hk
   refine ⟨_,(Zae (Zax (i:=4) scLTree.nd rfl (Or.inl rfl) (Zaj G_l_deep hr2 (by rfl) D_l_deep.m D_l_deep.F.kp D_l_deep.b .nil Zaw (Zaa (pv 0) (Zaa (pv 1) (Zaa Zaf (Zaa Zaf Zad))))))
   (Zae (Zbc (PW.pt (Ze3 (Zav Zdr (pv 2) Zaf (Za0 _)) (Zdu (Zav Zdr (pv 4) Zaf (Za0 _))))) (Zag (Zan (Zbu (Zaa Za1 Zad)))) Zau)
   (Zae (Zbc (Zav Zjl (pv 4) Zaf (Za0 _)) (Zag (Zan (Zbu (Zaa Za1 (Zaa (Zap Za4 (Zap Zar (pv 3) Zaf (fun _ _=>rfl)) (Zaj G_l_deep hr2 (by rfl) D_l_deep.m D_l_deep.F.kp D_l_deep.b .nil Zaw (Zaa (pv 0) (Zaa (pv 1) (Zaa Zaf (Zaa Zaf Zad))))) (fun _ _=>rfl)) (Zaa (Zaj G_l_tree hrN (by rfl) D_l_tree.m D_l_tree.F.kp D_l_tree.b .nil Zaw (Zaa (pv 0) (Zaa (Zaz Zbv (Zaz Zdv Zaf (pv 1)) Zaf) (Zaa (Zaz Zj1 (pv 2) Zaf) (Zaa (pv 3) Zad))))) Zad)))))) Zau)
   (Zae (Zax (i:=5) scLTree.nd rfl (Or.inl rfl) Zaf)
   (Zae (Zbc (Zav Zjl (pv 1) Zaf (Za0 _)) (Zag (Zax (i:=5) scLTree.nd rfl (Or.inl rfl) (Zaz Zbv Zaf (Zaj G_l_deep hr2 (by rfl) D_l_deep.m D_l_deep.F.kp D_l_deep.b .nil Zaw (Zaa (pv 0) (Zaa (pv 1) (Zaa Zaf (Zaa Zaf Zad)))))))) Zau)
   (Zae (Zax (i:=6) scLTree.nd rfl (Or.inl rfl) (Zaj G_l_deep hr2 (by rfl) D_l_deep.m D_l_deep.F.kp D_l_deep.b .nil Zaw (Zaa (pv 0) (Zaa (pv 1) (Zaa Zaf (Zaa Zaf Zad))))))
   (Zae (Zax (i:=7) scLTree.nd rfl (Or.inl rfl) (Zc0 Zad))
   (Zae (Zcc PassesOwn.never rfl (Zcg (by rfl) T.range (Zaa (pv 5) Zad)) (Zaq (i:=8) scLTree.nd rfl (Or.inl rfl))
    (Zae (Zax (i:=9) scLTree.nd rfl (Or.inl rfl) (Zaj G_l_tree hrN (by rfl) D_l_tree.m D_l_tree.F.kp D_l_tree.b .nil Zaw (Zaa (pv 0) (Zaa (Zaz Zbv (Zaz Zbv (Zaz Zdv Zaf (pv 1)) Zaf) (pv 8)) (Zaa (Zaz Zj1 (pv 2) Zaf) (Zaa (pv 3) Zad))))))
   (Zag (Zbg (Zhu PySem.F.plainAttrs_list PySem.F.slot_list_append PySem.F.type_list_append Zb3 (pv 7) (Zaa (Zbu (Zaa (Zap Za4 (Zap Zar (pv 3) Zaf (fun _ _=>rfl)) (Zaz Zez (Zaz Zbv (pv 6) (pv 8)) Zaf) (fun _ _=>rfl)) (Zaa (pv 9) Zad))) Zad))))))
   (Zag (Zan (Zbu (Zaa Za1 (Zaa (Zap Za4 (Zap Zar (pv 3) Zaf (fun _ _=>rfl)) (Zaj G_l_deep hr2 (by rfl) D_l_deep.m D_l_deep.F.kp D_l_deep.b .nil Zaw (Zaa (pv 0) (Zaa (pv 1) (Zaa Zaf (Zaa Zaf Zad))))) (fun _ _=>rfl)) (Zaa (pv 7) Zad)))))))))))))),?_⟩
   have stopQ:∀ x:Addr,H x=none→Q (.ref x) (upd H x (.tup [.str tStop])):=fun x hx=>q (.ref x) .stop _ (Same.new hx) ⟨x,rfl,by rw [Zkr hx]; exact Zac⟩ trivial trivial (Nat.le_add_left ..) (Nat.le_add_left ..)
   refine ⟨_,rfl,_,rfl,a,ns,_,_,_,rfl,hS,hn,by lia,by lia,by decide,by decide,fun wy w0 w5=>?_⟩
   refine ⟨_,rfl,rfl,_,rfl,?_⟩
   refine ite2 (fun _=>?_) (fun hd0=>?_)
   ·refine iteT ?_
    exact ⟨by show 1 ≤ sizeLine; lia,stopQ⟩
   refine ⟨_,rfl,rfl,_,rfl,?_⟩
   refine ite2 (fun _=>?_) (fun _=>?_)
   ·exact ⟨by show 1 ≤ sizeLine; lia,stopQ⟩
   try unfold tNext
   dsimp only
   obtain ⟨d',rfl⟩:∃ d',d=d' + 1:=by
    cases d with
    | zero=>exact absurd (decide_eq_true rfl) hd0
    | succ d'=>exact ⟨d',rfl⟩
   have ed:(((d' + 1:Nat):Int) - 1)=(d':Int):=by lia
   obtain ⟨dl,ll,al,ht,hdl,hll,hal⟩:=nm.got
   have t0:atI [V.ref dl,.ref ll,.ref al] ((0:Nat):Int)=some (.ref dl):=Zai rfl
   have t1:atI [V.ref dl,.ref ll,.ref al] ((1:Nat):Int)=some (.ref ll):=Zai rfl
   have t2:atI [V.ref dl,.ref ll,.ref al] ((2:Nat):Int)=some (.ref al):=Zai rfl
   refine ⟨_,rfl,_,_,rfl,rfl,_,rfl,?_⟩
   refine ite2 (fun _=>?_) (fun _=>?_)
   ·refine ⟨_,rfl,t,_,_,_,rfl,rfl,SqT.of ht,t0,_,rfl,_,rfl,a,ns,_,_,_,rfl,hS,hn,by lia,by lia,by decide,by decide,fun r r0 r3=>?_⟩
    obtain ⟨i,rfl⟩:∃ i:Nat,(i:Int)=r:=⟨r.toNat,Int.toNat_of_nonneg r0⟩
    obtain ⟨g1,g2⟩:=Ze6 (A:=D) (i:=i) (by have:=nm.d3; lia)
    refine ⟨dl,_,_,_,rfl,rfl,SqL.of hdl,g1,?_⟩
    refine ⟨_,rfl,_,rfl,_,_,rfl,rfl,.inl ⟨by decide,by decide⟩,_,_,rfl,rfl,_,rfl,_,_,rfl,rfl,_,rfl,?_⟩
    refine ⟨a,ns,3 * k + 1 + 0,d',t,D,L,A',?_,hS,hn,Zl9 (by decide) hk,by lia,nm,fun v p H1 s1 tr ok im hh hw=>?_⟩
    ·rw [ed,show (3:Int) * (k:Int) + 1=((3 * k + 1 + 0:Nat):Int) by lia]
     rfl
    refine ⟨by show 3 ≤ sizeLine; lia,fun x hx=>?_⟩
    refine q (.ref x) (.dd (D.getD i Str.empty) p) _ (s1.trans (Same.new hx)) ⟨x,v,rfl,?_,tr.same (Zh4 (fun _ z=>z) fun c u _ e=>Same.new hx _ _ e)⟩ ⟨nm.db _ g2,ok⟩ ⟨g2,im⟩ (Nat.succ_le_succ hh) (ck_do (ck_dn (by decide) hw))
    rw [Zkr (s1.free hx)]
    exact Zac
   try unfold tNext
   dsimp only
   refine Zhi (fun σ' H'=>σ'=[some (.ref a),some (.int (k:Int)),some (.int ((d' + 1:Nat):Int)),some (.ref t),some (.int wy),some (.int 1),none,none,none,none]∧H=H') ?_ (fun N hN=>hN _ _ ⟨rfl,rfl⟩)
   ·rintro σ' H' ⟨rfl,rfl⟩
    refine Zhj (fun σ' H'=>∃ mm:Nat,σ'=[some (.ref a),some (.int (k:Int)),some (.int ((d' + 1:Nat):Int)),some (.ref t),some (.int wy),some (.int (mm:Int)),none,none,none,none]∧H'=H∧1 ≤ mm∧mm ≤ 3∧(13 ≤ k→mm=1)) ?_ (fun N hN=>?_)
    ·rintro σ' H' ⟨mm,rfl,rfl,m1,m3,m13⟩
     refine ⟨_,rfl,_,rfl,a,ns,_,_,_,rfl,hS,hn,by lia,by lia,by decide,by decide,fun tn0 n0 n3=>?_⟩
     obtain ⟨tn,rfl⟩:∃ i:Nat,(i:Int)=tn0:=⟨tn0.toNat,Int.toNat_of_nonneg n0⟩
     refine ⟨by show 0 ≤ sizeLine; lia,fun r hr=>?_⟩
     have s1:Same H' (upd H' r (.lst [])):=Same.new hr
     have e1:(upd H' r (.lst [])) r=some (.lst []):=Zac
     have n1:∀ c,(upd H' r (.lst [])) c=none→H' c=none∧c ≠ r:=fun c z=>⟨s1.free z,fun e=>by rw [e,e1] at z; cases z⟩
     generalize (upd H' r (.lst []))=H1 at s1 e1 n1 ⊢
     refine ⟨_,rfl,_,rfl,by lia,by lia,Zc2 (n:=mm) (fun i σ H2=>∃ (v8 v9:Option V) (us:List V) (pre:List (Str × Pn)),σ = [some (.ref a),some (.int (k:Int)),some (.int ((d' + 1:Nat):Int)),some (.ref t),some (.int wy),some (.int (mm:Int)),some (.int (tn:Int)),some (.ref r),v8,v9] ∧
      Same H' H2∧H2 r=some (.lst us)∧(∀ c u,H1 c=some u→c ≠ r→H2 c=some u)∧TrAt (fw H1 H2) (ofL pre .nil) us∧us.length=i∧pre.map (·.1)=(List.range i).map (tuA A' tn)∧(∀ x ∈ pre,Lb x.1∧okP true x.2)∧(∀ x ∈ pre,htP x.2 ≤ d' + 1)∧(∀ x ∈ pre,wtP x.2 ≤ cD k * d' + 1)∧(∀ x ∈ pre,inP D L x.2))
      ⟨none,none,[],[],rfl,s1,e1,(fun _ _ e _=>e),rfl,rfl,rfl,(fun _ h=>nomatch h),(fun _ h=>nomatch h),(fun _ h=>nomatch h),(fun _ h=>nomatch h)⟩ ?_ ?_⟩
     ·rintro i σ H2 hi ⟨v8,v9,us,pre,rfl,s2,e2,k2,tr2,ul,pn,po,ph,pw,pi⟩
      have hS2:=s2.seq hS
      have hi':i < mm:=hi
      refine ⟨_,rfl,_,rfl,_,_,rfl,rfl,.inl ⟨by decide,by decide⟩,_,_,rfl,rfl,_,rfl,_,_,rfl,rfl,_,rfl,_,_,rfl,rfl,_,rfl,?_⟩
      refine ⟨a,ns,3 * k + 1 + i,d',t,D,L,A',?_,hS2,hn,Zl9 (by lia) hk,by lia,nm.same s2,fun v p H3 s3 tr ok im hh hw=>?_⟩
      ·rw [ed,show (3:Int) * (k:Int) + 1 + (0 + (i:Int))=((3 * k + 1 + i:Nat):Int) by lia]
       rfl
      have e3:=s3 _ _ e2
      have s03:=s2.trans s3
      obtain ⟨g1,g2⟩:=Ze6 (A:=A') (i:=(tn + i) % 3) (by have:=nm.a3; lia)
      have g1':atI (A'.map V.str) (((tn:Int) + (0 + (i:Int))) % 3)=some (.str (tuA A' tn i)):=by
       rw [show ((tn:Int) + (0 + (i:Int))) % 3=(((tn + i) % 3:Nat):Int) by lia]
       exact g1
      refine ⟨_,rfl,.inl ⟨rfl,_,SqL.of e3⟩,_,rfl,t,_,_,_,rfl,rfl,SqT.of (s03 _ _ ht),t2,_,rfl,_,rfl,_,_,rfl,rfl,_,_,rfl,rfl,(by show (0:Int) < _; decide),al,_,_,_,rfl,rfl,SqL.of (s03 _ _ hal),g1',_,rfl,by show 2 ≤ sizeLine; lia,fun x hx=>?_⟩
      have s4:Same H3 (upd H3 x (.tup [.str (tuA A' tn i),v])):=Same.new hx
      have e4:(upd H3 x (.tup [.str (tuA A' tn i),v])) x=some (.tup [.str (tuA A' tn i),v]):=Zac
      generalize (upd H3 x (.tup [.str (tuA A' tn i),v]))=H4 at s4 e4 ⊢
      have er4:=s4 _ _ e3
      have xr:x ≠ r:=Za5 e4 er4 (by intro z; cases z)
      refine ⟨r,_,_,rfl,rfl,er4,by lia,?_⟩
      have k5:∀ c u,H4 c=some u→c ≠ r→(upd H4 r (.lst (us ++ [.ref x]))) c=some u:=fun c u e hc=>by rw [Zak hc]; exact e
      have e5:(upd H4 r (.lst (us ++ [.ref x]))) r=some (.lst (us ++ [.ref x])):=Zac
      generalize (upd H4 r (.lst (us ++ [.ref x])))=H5 at k5 e5 ⊢
      have k25:∀ c u,H2 c=some u→c ≠ r→H5 c=some u:=fun c u e hc=>k5 c u (s4 _ _ (s3 _ _ e)) hc
      have n2:∀ c,H2 c=none→H1 c=none:=fun c z=>by
       cases h:H1 c with
       | none=>rfl
       | some u=>
        exfalso
        by_cases hc:c=r
        ·rw [hc,e2] at z
         cases z
        ·rw [k2 c u h hc] at z
         cases z
      have x1:H1 x=none:=n2 x (s3.free hx)
      refine ⟨_,_,us ++ [.ref x],pre ++ [(tuA A' tn i,p)],rfl,fun c u e=>k25 c u (s2 _ _ e) (Zah e hr),e5,fun c u e hc=>k25 c u (k2 c u e hc) hc,?_,by rw [List.length_append,ul]; rfl,?_,fun y hy=>?_,fun y hy=>?_,fun y hy=>?_,fun y hy=>?_⟩
      ·refine TrAt.put ?_ (tr.same (Zh4 n2 fun c u z e=>k5 c u (s4 _ _ e) fun w=>?_)) (tr2.same (Zh4 (fun _ z=>z) fun c u z e=>k25 c u e (n1 c z).2))
       ·rw [Zkr x1]
        exact k5 _ _ e4 xr
       ·rw [w,e2] at z
        cases z
      ·rw [List.map_append,pn,List.range_succ,List.map_append]
       rfl
      ·rcases (List.mem_append.mp hy) with z | z
       ·exact po y z
       ·rw [List.mem_singleton.mp z]
        exact ⟨nm.ab _ g2,ok⟩
      ·rcases (List.mem_append.mp hy) with z | z
       ·exact ph y z
       ·rw [List.mem_singleton.mp z]
        exact hh
      ·rcases (List.mem_append.mp hy) with z | z
       ·exact pw y z
       ·rw [List.mem_singleton.mp z]
        exact ck_dn (by lia) hw
      ·rcases (List.mem_append.mp hy) with z | z
       ·exact pi y z
       ·rw [List.mem_singleton.mp z]
        exact im
     ·rintro σ H2 ⟨v8,v9,us,pre,rfl,s2,e2,k2,tr2,ul,pn,po,ph,pw,pi⟩
      have hpl:pre.length=mm:=by
       have:=congrArg List.length pn
       rw [List.length_map,List.length_map,List.length_range] at this
       exact this
      refine ⟨_,rfl,t,_,_,_,rfl,rfl,SqT.of (s2 _ _ ht),t1,_,rfl,_,rfl,a,ns,_,_,_,rfl,s2.seq hS,hn,by lia,by lia,by decide,by decide,fun j j0 j2=>?_⟩
      obtain ⟨i,rfl⟩:∃ i:Nat,(i:Int)=j:=⟨j.toNat,Int.toNat_of_nonneg j0⟩
      obtain ⟨g1,g2⟩:=Ze6 (A:=L) (i:=i) (by have:=nm.l2; lia)
      refine ⟨ll,_,_,_,rfl,rfl,SqL.of (s2 _ _ hll),g1,_,rfl,by show 3 ≤ sizeLine; lia,fun x hx=>?_⟩
      have hx0:=s2.free hx
      have s3:Same H2 (upd H2 x (.tup [.str (Str.ofString "look"),.str (L.getD i Str.empty),.ref r])):=Same.new hx
      have e3:(upd H2 x (.tup [.str (Str.ofString "look"),.str (L.getD i Str.empty),.ref r])) x=some (.tup [.str (Str.ofString "look"),.str (L.getD i Str.empty),.ref r]):=Zac
      have wt:=Zmr (pre:=pre) pw
      have wt2:=ck_lk (k:=k) (d:=d') m3 m13
      rw [hpl] at wt
      refine q (.ref x) (.lk (L.getD i Str.empty) (ofL pre .nil)) _ (s2.trans s3) ⟨x,r,us,rfl,by rw [Zkr hx0]; exact e3,by rw [Zkr hr]; exact s3 _ _ e2,tr2.same (Zh4 (fun c z=>(n1 c z).1) fun c u _ e=>s3 _ _ e)⟩ ⟨nm.lb _ g2,?_,⟨?_,?_⟩,Zj5 po⟩ ⟨g2,Zms pi⟩ (Nat.succ_le_succ (Zj7 ph)) (by show wtP (ofL pre .nil) + 1 ≤ _; lia)
      ·cases pre with
       | nil=>
        have:(0:Nat)=mm:=hpl
        lia
       | cons y r'=>intro z; cases z
      ·rw [Zhc,pn]
       exact tu_nodup nm.a3 nm.nd tn m3
      ·rw [Zhc,List.length_map,hpl]
       lia
    ·refine ⟨_,rfl,_,_,rfl,rfl,_,rfl,?_⟩
     refine ite2 (fun hk13=>?_) (fun _=>?_)
     ·have hk13':=of_decide_eq_true hk13
      refine ⟨_,rfl,_,rfl,a,ns,_,_,_,rfl,hS,hn,by lia,by lia,by decide,by decide,fun r r0 r3=>⟨_,_,rfl,rfl,?_⟩⟩
      obtain ⟨i,rfl⟩:∃ i:Nat,(i:Int)=r:=⟨r.toNat,Int.toNat_of_nonneg r0⟩
      exact hN _ _ ⟨1 + i,by rw [show (1:Int) + (i:Int)=((1 + i:Nat):Int) by lia]; rfl,rfl,by lia,by lia,by lia⟩
     ·exact hN _ _ ⟨1,rfl,rfl,by decide,by decide,fun _=>rfl⟩
theorem ok_row {f f1:Addr} {fd d1:FuncData} (F:Fun K "_law_row_of_dos" "_law_row_of_dos" Zb7 f fd) (T:Bl mg) (D_l_deep:Df K mg "_law_deep" Ze8 Zhb f1 d1) (G_l_deep:FnOk P w K mg base CX0 2 f1 d1 Zhb (spDraw K)):FnOk P w K mg base CX0 3 f fd Zef (spRow K):=by
 refine F.ok scLRowOfDos (fun vs H Q E h=>?_) (fun cdv A outer s H vs Q E hr2 h=>?_)
 ·obtain ⟨a,ns,c,t,D,L,A,rfl,_⟩:=h
  rfl
 ·obtain ⟨a,ns,c,t,D,L,A',rfl,hS,hn,c0,c40,nm,q⟩:=h
  have hsl:sizeLine=16777216:=sizeLine_eq
  obtain ⟨dl,ll,al,ht,hdl,hll,hal⟩:=nm.got
  have t0:atI [V.ref dl,.ref ll,.ref al] ((0:Nat):Int)=some (.ref dl):=Zai rfl
  refine ⟨_,(Zae (Zax (i:=3) scLRowOfDos.nd rfl (Or.inl rfl) (Zbu (Zaa Za1 Zad)))
   (Zae (Zcc PassesOwn.never rfl (Zcg (by rfl) T.range (Zaa (pv 1) Zad)) (Zaq (i:=4) scLRowOfDos.nd rfl (Or.inl rfl))
    (Zag (Zax (i:=3) scLRowOfDos.nd rfl (Or.inl rfl) (Zbu (Zaa Za1 (Zaa (Zap Za4 (Zap Zar (pv 2) Zaf (fun _ _=>rfl)) (Zaj G_l_deep hr2 (by rfl) D_l_deep.m D_l_deep.F.kp D_l_deep.b .nil Zaw (Zaa (pv 0) (Zaa (pv 4) (Zaa Zaf (Zaa Zaf Zad))))) (fun _ _=>rfl)) (Zaa (pv 3) Zad)))))))
   (Zag (Zan (pv 3))))),?_⟩
  refine ⟨by show 1 ≤ sizeLine; lia,fun x hx=>?_⟩
  refine ⟨_,rfl,_,rfl,by lia,by lia,Zc2 (n:=c.toNat) (fun i σ H2=>∃ (v4:Option V) (v:V) (p:Pn),σ = [some (.ref a),some (.int c),some (.ref t),some v,v4]∧Same H H2∧TrAt H2 p [v]∧okP true p∧inP D L p∧htP p=i + 1∧wtP p=i + 1)
   ⟨none,.ref x,.stop,rfl,Same.new hx,⟨x,rfl,Zac⟩,trivial,trivial,rfl,rfl⟩ ?_ ?_⟩
  ·rintro i σ H2 hi ⟨v4,v,p,rfl,s2,tr,ok,im,hh,hw⟩
   have hi':i < c.toNat:=hi
   refine ⟨_,rfl,t,_,_,_,rfl,rfl,SqT.of (s2 _ _ ht),t0,_,rfl,_,rfl,a,ns,_,_,_,rfl,s2.seq hS,hn,by lia,by lia,by decide,by decide,fun r r0 r3=>?_⟩
   obtain ⟨j,rfl⟩:∃ i:Nat,(i:Int)=r:=⟨r.toNat,Int.toNat_of_nonneg r0⟩
   obtain ⟨g1,g2⟩:=Ze6 (A:=D) (i:=j) (by have:=nm.d3; lia)
   refine ⟨dl,_,_,_,rfl,rfl,SqL.of (s2 _ _ hdl),g1,_,rfl,by show 3 ≤ sizeLine; lia,fun y hy=>?_⟩
   exact ⟨_,.ref y,.dd (D.getD j Str.empty) p,rfl,s2.trans (Same.new hy),⟨y,v,rfl,Zac,tr.same (Same.new hy)⟩,⟨nm.db _ g2,ok⟩,⟨g2,im⟩,congrArg (· + 1) hh,congrArg (· + 1) hw⟩
  ·rintro σ H2 ⟨v4,v,p,rfl,s2,tr,ok,im,hh,hw⟩
   exact ⟨_,rfl,q v p H2 s2 tr ok im (by lia) (by lia)⟩
theorem ok_drawn {f f1 f2 f3:Addr} {fd d1 d2 d3:FuncData} (F:Fun K "_law_drawn_tree" "_law_drawn_tree" Zbs f fd) (D_l_draw:Df K mg "_law_draw" Zeq Zey f1 d1) (G_l_draw:FnOk P w K mg base CX0 2 f1 d1 Zey (spDraw K)) (D_l_row_of_dos:Df K mg "_law_row_of_dos" Zb7 Zef f2 d2) (G_l_row_of_dos:FnOk P w K mg base CX0 3 f2 d2 Zef (spRow K))
  (D_l_tree:Df K mg "_law_tree" Zep Zgm f3 d3) (G_l_tree:FnOk P w K mg base CX0 12 f3 d3 Zgm (spTree K 9)):FnOk P w K mg base CX0 13 f fd Zdm (spDrawn K):=by
 refine F.ok scLDrawnTree (fun vs H Q E h=>?_) (fun cdv A outer s H vs Q E hrN h=>?_)
 ·obtain ⟨a,ns,t,D,L,A,rfl,_⟩:=h
  rfl
 ·obtain ⟨a,ns,t,D,L,A',rfl,hS,hn,nm,q⟩:=h
  have hr2:Room 2 _:=hrN.mono (by decide)
  have hr3:Room 3 _:=hrN.mono (by decide)
  refine ⟨_,(Zae (Zbc (Zav Zdr (Zaj G_l_draw hr2 (by rfl) D_l_draw.m D_l_draw.F.kp D_l_draw.b .nil Zaw (Zaa (pv 0) (Zaa Zaf (Zaa Zaf (Zaa Zaf Zad))))) Zaf (Za0 _)) (Zag (Zan (Zaj G_l_row_of_dos hr3 (by rfl) D_l_row_of_dos.m D_l_row_of_dos.F.kp D_l_row_of_dos.b .nil Zaw (Zaa (pv 0) (Zaa (Zaj G_l_draw hr2 (by rfl) D_l_draw.m D_l_draw.F.kp D_l_draw.b .nil Zaw (Zaa (pv 0) (Zaa Zaf (Zaa Zaf (Zaa Zaf Zad))))) (Zaa (pv 1) Zad)))))) Zau)
   (Zag (Zan (Zaj G_l_tree hrN (by rfl) D_l_tree.m D_l_tree.F.kp D_l_tree.b .nil Zaw (Zaa (pv 0) (Zaa Zaf (Zaa (Zaj G_l_draw hr2 (by rfl) D_l_draw.m D_l_draw.F.kp D_l_draw.b .nil Zaw (Zaa (pv 0) (Zaa Zaf (Zaa Zaf (Zaa Zaf Zad))))) (Zaa (pv 1) Zad)))))))),?_⟩
  refine ⟨_,rfl,a,ns,_,_,_,rfl,hS,hn,by decide,by decide,by decide,by decide,fun r r0 r1=>⟨rfl,_,rfl,?_⟩⟩
  refine ite2 (fun _=>?_) (fun _=>?_)
  ·refine ⟨_,rfl,_,rfl,a,ns,_,_,_,rfl,hS,hn,by decide,by decide,by decide,by decide,fun c c0 c1=>⟨_,rfl,?_⟩⟩
   exact ⟨a,ns,c,t,D,L,A',rfl,hS,hn,c0,by lia,nm,q⟩
  ·try unfold tNext
   dsimp only
   refine ⟨_,rfl,_,rfl,a,ns,_,_,_,rfl,hS,hn,by decide,by decide,by decide,by decide,fun d d0 d9=>⟨_,rfl,?_⟩⟩
   obtain ⟨d,rfl⟩:∃ i:Nat,(i:Int)=d:=⟨d.toNat,Int.toNat_of_nonneg d0⟩
   have hd:d ≤ 8:=by lia
   have hp:3 ^ d ≤ 3 ^ 8:=Nat.pow_le_pow_right (by decide) hd
   have hp8:3 ^ 8=6561:=by decide
   refine ⟨a,ns,0,d,t,D,L,A',rfl,hS,hn,by lia,by lia,nm,fun v p H' s tr ok im hh hw=>q v p H' s (tr.same fw_le) ok im (by lia) (ck_8 hd hw)⟩
noncomputable def PyV (C:C3) (H:Hp) (v:V) (x:Str × Pn):Prop:=∃ (t:Addr) (p:V),v=.ref t∧H t=some (.tup [.str x.1,p])∧PlAt C H x.2 [p]∧okP true x.2
theorem PyV.same {C:C3} {H H':Hp} (s:Same H H') (v:V) (x:Str × Pn):PyV C H v x→PyV C H' v x:=fun ⟨t,p,e,h,pl,ok⟩=>⟨t,p,e,s _ _ h,pl.same s,ok⟩
theorem Zla {C:C3} {H:Hp}:∀ {ws:Pn} {us:List V},okP false ws→PlAt C H ws us→Z2 (PyV C H) us (wyL ws)
 | .nil,us,_,e=>by
  rw [show us=[] from e]
  exact .nil
 | .way a p r,us,h,⟨t,v,us',e,h1,h2,h3⟩=>by
  rw [e]
  exact .cons ⟨t,v,rfl,h1,h2,h.2.1⟩ (Zla h.2.2 h3)
theorem Zkp:∀ ws:Pn,(wyL ws).length=(anP ws).length
 | .way a p r=>congrArg (· + 1) (Zkp r)
 | .nil=>rfl
 | .stop=>rfl
 | .dd _ _=>rfl
 | .lk _ _=>rfl
theorem Zjn (C:Addr):PySem.W.isIn K (.ref C) C=true:=by
 unfold PySem.W.isIn
 simp
theorem Zg2 {a:V} (h:(!decide (a=a))=true):False:=by
 rw [decide_eq_true rfl] at h
 cases h
structure IsA (K:PySem.W.Frag) (C:C3) (CP:Addr):Prop where
 s:PySem.W.isIn K (.ref C.s) CP=true
 d:PySem.W.isIn K (.ref C.d) CP=true
 l:PySem.W.isIn K (.ref C.l) CP=true
noncomputable def VWy (C:C3) (a:Addr) (sp:Sp):Prop:=a=C.l∧sp=spLkWays C.l
inductive spIs (C:C3) (n:Nat) (vs:List V) (H:Hp) (Q:VK) (E0_:XK):Prop
 | mk (p v:V) (t:Pn) (c0:vs=[p,v]) (c1:PlAt C H t [p]) (c2:TrAt H t [v]) (c3:okP true t) (c4:htP t ≤ n) (c5:∀ H',Same H H'→Q (.bl true) H'):spIs C n vs H Q E0_
inductive spWaysAre (C:C3) (n:Nat) (vs:List V) (H:Hp) (Q:VK) (E0_:XK):Prop
 | mk (r u:Addr) (ws:Pn) (us us':List V) (c0:vs=[.ref r,.ref u]) (c1:H r=some (.lst us)) (c2:H u=some (.lst us')) (c3:PlAt C H ws us) (c4:TrAt H ws us') (c5:okP false ws) (c6:htP ws ≤ n) (c7:(anP ws).length ≤ 1000) (c8:∀ H',Same H H'→Q (.bl true) H'):spWaysAre C n vs H Q E0_
noncomputable abbrev pLIs:List Str:=["_law_plan_here", "_law_tree_here"]
noncomputable abbrev nLIs:List Str:=["_law_plan_here", "_law_tree_here"]
theorem scLIs:FnScope nLIs pLIs (Zab sLIs):=⟨rfl,rfl,rfl,by decide +kernel,rfl,by decide +kernel,by decide +kernel⟩
noncomputable abbrev Zff:List Str:=["_law_told", "_law_ways"]
noncomputable abbrev nLWaysAre:List Str:=["_law_told", "_law_ways", "_law_k"]
theorem scLWaysAre:FnScope nLWaysAre Zff (Zab Zco):=⟨rfl,rfl,rfl,by decide +kernel,rfl,by decide +kernel,by decide +kernel⟩
theorem ok_waysare {f f1:Addr} {C:C3} {n:Nat} {fd d1:FuncData} (F:Fun K "_law_ways_are" "_law_ways_are" Zco f fd) (T:Bl mg) (D_l_is:Df K mg "_law_is" sLIs pLIs f1 d1) (G_l_is:FnOk P w K mg base CX0 (1 + 2 * n) f1 d1 pLIs (spIs C n)):FnOk P w K mg base CX0 (2 + 2 * n) f fd Zff (spWaysAre C n):=by
 rw [show 2 + 2 * n=(1 + 2 * n) + 1 by lia]
 refine F.ok scLWaysAre (fun vs H Q E h=>?_) (fun cdv A outer s H vs Q E hrI h=>?_)
 ·obtain ⟨r,u,ws,us,us',rfl,_⟩:=h
  rfl
 ·obtain ⟨r,u,ws,us,us',rfl,hr,hu,pl,tr,ok,hn,hl,q⟩:=h
  have hsl:sizeLine=16777216:=sizeLine_eq
  have zp:=Zla ok pl
  have zt:=Zfn (n:=n) (m:=wtP ws) ok.wk hn (Nat.le_refl _) tr
  have l1:=zp.len
  have l2:=zt.len
  have l3:=Zkp ws
  refine ⟨_,(Zae (Zbc (PW.pt (Ze3 (Zb1 (Zci (Zat Zi6 (by rfl) T.isi Zdh (Zaa (pv 0) (Zaa (Zdl (v:=.ty "list") (by rfl) T.list Zd5 rfl) Zad))))) (Zdu (Zav Zf5 (Zat Zbf (by rfl) T.len PySem.boot_len (Zaa (pv 0) Zad)) (Zat Zbf (by rfl) T.len PySem.boot_len (Zaa (pv 1) Zad)) (Za0 _))))) (Zag (Zan Zd1)) Zau)
   (Zae (Zcc PassesOwn.never rfl (Zcg (by rfl) T.range (Zaa (Zat Zbf (by rfl) T.len PySem.boot_len (Zaa (pv 1) Zad)) Zad)) (Zaq (i:=2) scLWaysAre.nd rfl (Or.inl rfl))
    (Zae (Zbc (PW.pt (Ze3 (Zb1 (Zci (Zat call_isiT (by rfl) T.isi Zdh (Zaa (Zap Za4 (pv 0) (pv 2) (fun _ _=>rfl)) (Zaa (Zdl (v:=.ty "tuple") (by rfl) T.tuple Zek rfl) Zad))))) (Ze3 (Zav Zf5 (Zat Zbf (by rfl) T.len PySem.boot_len (Zaa (Zap Za4 (pv 0) (pv 2) (fun _ _=>rfl)) Zad)) Zaf (Za0 _)) (Zdu (Zb1 (Zci (Zat Zfl (by rfl) T.isi Zdh (Zaa (Zap Zar (Zap Za4 (pv 0) (pv 2) (fun _ _=>rfl)) Zaf (fun _ _=>rfl)) (Zaa (Zdl (v:=.ty "str") (by rfl) T.str Zkm rfl) Zad))))))))) (Zag (Zan Zd1)) Zau)
   (Zag (Zbc (PW.pt (Ze3 (Zav Zf5 (Zap Zar (Zap Za4 (pv 0) (pv 2) (fun _ _=>rfl)) Zaf (fun _ _=>rfl)) (Zap Zar (Zap Za4 (pv 1) (pv 2) (fun _ _=>rfl)) Zaf (fun _ _=>rfl)) (Za0 _)) (Zdu (Zb1 (Zci (Zaj G_l_is hrI (by rfl) D_l_is.m D_l_is.F.kp D_l_is.b .nil Zaw (Zaa (Zap Zar (Zap Za4 (pv 0) (pv 2) (fun _ _=>rfl)) Zaf (fun _ _=>rfl)) (Zaa (Zap Zar (Zap Za4 (pv 1) (pv 2) (fun _ _=>rfl)) Zaf (fun _ _=>rfl)) Zad)))))))) (Zag (Zan Zd1)) Zau))))
   (Zag (Zan Zd1)))),?_⟩
  refine ⟨_,rfl,r,_,rfl,hr,_,rfl,?_⟩
  refine iteF ?_
  refine ⟨_,rfl,_,_,rfl,.inl ⟨_,SqL.of hr,rfl⟩,_,rfl,_,_,rfl,.inl ⟨_,SqL.of hu,rfl⟩,rfl,_,rfl,?_⟩
  refine ite2 (fun z=>?_) (fun _=>?_)
  ·exfalso
   rw [l1,l2] at z
   exact Zg2 z
  try unfold tNext
  dsimp only
  refine ⟨_,rfl,_,_,rfl,.inl ⟨_,SqL.of hu,rfl⟩,_,rfl,by lia,by lia,Zc2 (n:=us'.length) (fun i σ H2=>∃ v2:Option V,σ = [some (.ref r),some (.ref u),v2]∧Same H H2) ⟨none,rfl,Same.refl _⟩ ?_ ?_⟩
  ·rintro i σ H2 hi ⟨v2,rfl,s2⟩
   have hi':i < us'.length:=hi
   have hy1:us[i]? = some us[i]:=List.getElem?_eq_getElem (by lia)
   have hy2:us'[i]? = some us'[i]:=List.getElem?_eq_getElem hi'
   obtain ⟨x,hx,t,p,e1,ht,plx,okx⟩:=(zp.mono (PyV.same s2)).at hy1
   obtain ⟨x',hx',t',p',e2,ht',trx,_,_,hnx,_⟩:=(zt.mono (WtV.same s2)).at hy2
   have ex:x'=x:=Option.some.inj (hx'.symm.trans hx)
   subst ex
   have i1:atI us (0 + (i:Int))=some (.ref t):=by
    rw [Int.zero_add]
    exact Zai (hy1.trans (by rw [e1]))
   have i2:atI us' (0 + (i:Int))=some (.ref t'):=by
    rw [Int.zero_add]
    exact Zai (hy2.trans (by rw [e2]))
   have p0:atI [V.str x'.1,p] ((0:Nat):Int)=some (.str x'.1):=Zai rfl
   have p1:atI [V.str x'.1,p] ((1:Nat):Int)=some p:=Zai rfl
   have q0:atI [V.str x'.1,p'] ((0:Nat):Int)=some (.str x'.1):=Zai rfl
   have q1:atI [V.str x'.1,p'] ((1:Nat):Int)=some p':=Zai rfl
   have hr2:=s2 _ _ hr
   have hu2:=s2 _ _ hu
   refine ⟨_,rfl,_,rfl,r,_,_,_,rfl,rfl,SqL.of hr2,i1,t,_,rfl,ht,_,rfl,?_⟩
   refine iteF ?_
   refine ⟨_,rfl,_,rfl,r,_,_,_,rfl,rfl,SqL.of hr2,i1,_,_,rfl,.inr ⟨_,SqT.of ht,rfl⟩,rfl,_,rfl,?_⟩
   refine ite2 (fun z=>(Zg2 z).elim) (fun _=>?_)
   refine ⟨_,rfl,_,rfl,r,_,_,_,rfl,rfl,SqL.of hr2,i1,t,_,_,_,rfl,rfl,SqT.of ht,p0,_,rfl,_,rfl,?_⟩
   refine iteF ?_
   try unfold tNext
   dsimp only
   refine ⟨_,rfl,_,rfl,r,_,_,_,rfl,rfl,SqL.of hr2,i1,t,_,_,_,rfl,rfl,SqT.of ht,p0,_,rfl,_,rfl,u,_,_,_,rfl,rfl,SqL.of hu2,i2,t',_,_,_,rfl,rfl,SqT.of ht',q0,rfl,_,rfl,?_⟩
   refine ite2 (fun z=>(Zg2 z).elim) (fun _=>?_)
   refine ⟨_,rfl,_,rfl,r,_,_,_,rfl,rfl,SqL.of hr2,i1,t,_,_,_,rfl,rfl,SqT.of ht,p1,_,rfl,_,rfl,u,_,_,_,rfl,rfl,SqL.of hu2,i2,t',_,_,_,rfl,rfl,SqT.of ht',q1,?_⟩
   refine ⟨p,p',x'.2,rfl,plx,trx,okx,hnx,fun H3 s3=>⟨_,rfl,?_⟩⟩
   refine iteF ?_
   exact ⟨_,rfl,s2.trans s3⟩
  ·rintro σ H2 ⟨v2,rfl,s2⟩
   exact q H2 s2
theorem ok_is {f f1:Addr} {C:C3} {CP:Addr} {fd d1:FuncData} (F:Fun K "_law_is" "_law_is" sLIs f fd) (T:Bl mg) (I:IsA K C CP) (LD:ClD K C.d) (LL:ClL K C.l) (mP:mg "Plan" = some (.ref CP)) (mS:mg "Stop" = some (.ref C.s)) (mD:mg "Do" = some (.ref C.d)) (mL:mg "Look" = some (.ref C.l)) (GW:MV P w K mg base C.l "ways" 1 (spLkWays C.l))
  (D_l_is:Df K mg "_law_is" sLIs pLIs f fd) (GWA:∀ n:Nat,FnOk P w K mg base CX0 (1 + 2 * n) f fd pLIs (spIs C n)→FnOk P w K mg base CX0 (2 + 2 * n) f1 d1 Zff (spWaysAre C n)) (D_l_ways_are:Df K mg "_law_ways_are" Zco Zff f1 d1):∀ n:Nat,FnOk P w K mg base CX0 (1 + 2 * n) f fd pLIs (spIs C n)
 | 0=>Ze7 fun vs H Q E h=>by
  obtain ⟨_,_,t,_,_,_,ok,h0,_⟩:=h
  have:=Zhd ok.wk
  lia
 | n + 1=>by
  have G_l_is:=ok_is F T I LD LL mP mS mD mL GW D_l_is GWA D_l_ways_are n
  have G_l_ways_are:=GWA n G_l_is
  rw [show 1 + 2 * (n + 1)=(2 + 2 * n) + 1 by lia]
  refine F.ok scLIs (fun vs H Q E h=>?_) (fun cdv A outer s H vs Q E hrM h=>?_)
  ·obtain ⟨p,v,t,rfl,_⟩:=h
   rfl
  ·obtain ⟨p,v,t,rfl,pl,tr,ok,hn,q⟩:=h
   have hrI:Room (1 + 2 * n) _:=hrM.mono (by lia)
   have hr1:Room 1 _:=hrM.mono (by lia)
   have hV_ways:∀ C' sp,VWy C C' sp→∃ (k:Nat) (f:Addr) (fd:FuncData) (ps:List Str),Cls K C'∧Meth K C' "ways" f∧FnOk P w K mg base CX0 k f fd ps sp∧Room k _∧Binds K fd ps []:=fun C' sp hv=>by
    obtain ⟨rfl,rfl⟩:=hv
    obtain ⟨f',fd',m',g',b'⟩:=GW.ex
    exact ⟨1,f',fd',["self"],GW.cl,m',g',hr1,b'⟩
   refine ⟨_,(Zae (Zbc (Zb1 (Zci (Zat Zfm (by rfl) T.isi Zdh (Zaa (pv 0) (Zaa (Zdk (v:=.ref CP) (by rfl) mP rfl) Zad))))) (Zag (Zan Zd1)) Zau)
   (Zae (Zbc (Zav Zdr (Zap Zar (pv 1) Zaf (fun _ _=>rfl)) Za1 (Za0 _)) (Zag (Zan (Zat Zfm (by rfl) T.isi Zdh (Zaa (pv 0) (Zaa (Zdk (v:=.ref C.s) (by rfl) mS rfl) Zad))))) Zau)
   (Zae (Zbc (Zav Zdr (Zap Zar (pv 1) Zaf (fun _ _=>rfl)) Za1 (Za0 _)) (Zae (Zbc (PW.pt (Ze3 (Zb1 (Zci (Zat Zfm (by rfl) T.isi Zdh (Zaa (pv 0) (Zaa (Zdk (v:=.ref C.d) (by rfl) mD rfl) Zad))))) (Ze3 (Zb1 (Zci (Zat Zfl (by rfl) T.isi Zdh (Zaa (Zcd (pv 0) rfl) (Zaa (Zdl (v:=.ty "str") (by rfl) T.str Zkm rfl) Zad))))) (Zdu (Zav Zf5 (Zcd (pv 0) rfl) (Zap Zar (pv 1) Zaf (fun _ _=>rfl)) (Za0 _)))))) (Zag (Zan Zd1)) Zau)
   (Zag (Zan (Zaj G_l_is hrI (by rfl) D_l_is.m D_l_is.F.kp D_l_is.b .nil Zaw (Zaa (Zcd (pv 0) rfl) (Zaa (Zap Zar (pv 1) Zaf (fun _ _=>rfl)) Zad)))))) Zau)
   (Zae (Zbc (PW.pt (Ze3 (Zb1 (Zci (Zat Zfm (by rfl) T.isi Zdh (Zaa (pv 0) (Zaa (Zdk (v:=.ref C.l) (by rfl) mL rfl) Zad))))) (Ze3 (Zb1 (Zci (Zat Zfl (by rfl) T.isi Zdh (Zaa (Zcd (pv 0) rfl) (Zaa (Zdl (v:=.ty "str") (by rfl) T.str Zkm rfl) Zad))))) (Zdu (Zav Zf5 (Zcd (pv 0) rfl) (Zap Zar (pv 1) Zaf (fun _ _=>rfl)) (Za0 _)))))) (Zag (Zan Zd1)) Zau)
   (Zag (Zan (Zaj G_l_ways_are hrM (by rfl) D_l_ways_are.m D_l_ways_are.F.kp D_l_ways_are.b .nil Zaw (Zaa (Zc5 (pv 0) hV_ways) (Zaa (Zap Zar (pv 1) Zaf (fun _ _=>rfl)) Zad))))))))),?_⟩
   cases t with
   | nil=>exact ok.elim
   | way _ _ _=>exact ok.elim
   | stop=>
    obtain ⟨o,dx,e,ho⟩:=pl
    cases e
    obtain ⟨a,e,ha⟩:=tr
    cases e
    refine ⟨_,rfl,o,_,_,dx,_,rfl,ho,I.s,_,rfl,?_⟩
    refine iteF ?_
    try unfold tNext
    dsimp only
    refine ⟨_,rfl,a,_,_,_,rfl,rfl,SqT.of ha,Zai (j:=0) (v:=V.str tStop) rfl,rfl,_,rfl,?_⟩
    refine ite2 (fun _=>?_) (fun z=>absurd (decide_eq_true rfl) z)
    exact ⟨_,rfl,o,_,_,dx,_,rfl,ho,Zjn _,q H (Same.refl _)⟩
   | dd d r=>
    obtain ⟨o,dx,v',e,ho,pl'⟩:=pl
    cases e
    obtain ⟨a,u',e,ha,tr'⟩:=tr
    cases e
    have a0:atI [V.str (Str.ofString "do"),.str d,u'] ((0:Nat):Int)=some (.str (Str.ofString "do")):=Zai rfl
    have a1:atI [V.str (Str.ofString "do"),.str d,u'] ((1:Nat):Int)=some (.str d):=Zai rfl
    have a2:atI [V.str (Str.ofString "do"),.str d,u'] ((2:Nat):Int)=some u':=Zai rfl
    have hh':htP r + 1 ≤ n + 1:=hn
    refine ⟨_,rfl,o,_,_,dx,_,rfl,ho,I.d,_,rfl,?_⟩
    refine iteF ?_
    try unfold tNext
    dsimp only
    refine ⟨_,rfl,a,_,_,_,rfl,rfl,SqT.of ha,a0,rfl,_,rfl,?_⟩
    refine ite2 (fun z=>absurd (V.str.inj (of_decide_eq_true z)) (by decide +kernel)) (fun _=>?_)
    try unfold tNext
    dsimp only
    refine ⟨_,rfl,a,_,_,_,rfl,rfl,SqT.of ha,a0,rfl,_,rfl,?_⟩
    refine ite2 (fun _=>?_) (fun z=>absurd (decide_eq_true rfl) z)
    refine ⟨_,rfl,o,_,_,dx,_,rfl,ho,Zjn _,_,rfl,?_⟩
    refine iteF ?_
    refine ⟨_,rfl,o,C.d,dx,_,_,rfl,ho,LD.cl,LD.n1,Zlp d v',_,rfl,_,rfl,?_⟩
    refine iteF ?_
    refine ⟨_,rfl,o,C.d,dx,_,_,rfl,ho,LD.cl,LD.n1,Zlp d v',_,rfl,a,_,_,_,rfl,rfl,SqT.of ha,a1,rfl,_,rfl,?_⟩
    refine ite2 (fun z=>(Zg2 z).elim) (fun _=>?_)
    try unfold tNext
    dsimp only
    exact ⟨_,rfl,o,C.d,dx,_,_,rfl,ho,LD.cl,LD.n2,fDo_r d v',_,rfl,a,_,_,_,rfl,rfl,SqT.of ha,a2,v',u',r,rfl,pl',tr',ok.2,by lia,q⟩
   | lk l ws=>
    obtain ⟨o,dx,u,us,e,ho,hu,pl'⟩:=pl
    cases e
    obtain ⟨a,x,us',e,ha,hx,tr'⟩:=tr
    cases e
    have a0:atI [V.str (Str.ofString "look"),.str l,.ref x] ((0:Nat):Int)=some (.str (Str.ofString "look")):=Zai rfl
    have a1:atI [V.str (Str.ofString "look"),.str l,.ref x] ((1:Nat):Int)=some (.str l):=Zai rfl
    have a2:atI [V.str (Str.ofString "look"),.str l,.ref x] ((2:Nat):Int)=some (.ref x):=Zai rfl
    have hh':htP ws + 1 ≤ n + 1:=hn
    refine ⟨_,rfl,o,_,_,dx,_,rfl,ho,I.l,_,rfl,?_⟩
    refine iteF ?_
    try unfold tNext
    dsimp only
    refine ⟨_,rfl,a,_,_,_,rfl,rfl,SqT.of ha,a0,rfl,_,rfl,?_⟩
    refine ite2 (fun z=>absurd (V.str.inj (of_decide_eq_true z)) (by decide +kernel)) (fun _=>?_)
    try unfold tNext
    dsimp only
    refine ⟨_,rfl,a,_,_,_,rfl,rfl,SqT.of ha,a0,rfl,_,rfl,?_⟩
    refine ite2 (fun z=>absurd (V.str.inj (of_decide_eq_true z)) (by decide +kernel)) (fun _=>?_)
    try unfold tNext
    dsimp only
    refine ⟨_,rfl,o,_,_,dx,_,rfl,ho,Zjn _,_,rfl,?_⟩
    refine iteF ?_
    refine ⟨_,rfl,o,C.l,dx,_,_,rfl,ho,LL.cl,LL.n1,Zlo l _,_,rfl,_,rfl,?_⟩
    refine iteF ?_
    refine ⟨_,rfl,o,C.l,dx,_,_,rfl,ho,LL.cl,LL.n1,Zlo l _,_,rfl,a,_,_,_,rfl,rfl,SqT.of ha,a1,rfl,_,rfl,?_⟩
    refine ite2 (fun z=>(Zg2 z).elim) (fun _=>?_)
    try unfold tNext
    dsimp only
    refine ⟨_,rfl,o,C.l,dx,_,_,rfl,ho,rfl,⟨rfl,rfl⟩,o,dx,u,l,us,rfl,ho,hu,fun g hg=>?_⟩
    have s1:Same H (upd H g (.lst us)):=Same.new hg
    refine ⟨_,rfl,a,_,_,_,rfl,rfl,SqT.of (s1 _ _ ha),a2,?_⟩
    exact ⟨g,x,ws,us,us',rfl,Zac,s1 _ _ hx,pl'.same s1,tr'.same s1,ok.2.2.2,by lia,ok.2.2.1.2,fun H' s'=>q H' (s1.trans s')⟩
noncomputable def prc (f:Pn→Int):Nat→List Rw→(Nat→Int)→Nat→Int
 | _,[],B=>B
 | n,r :: rs,B=>match r.2.1 with
  | none=>prc f (n + 1) rs B
  | some b=>fun j=>if j=b then max (prc f (n + 1) rs B b) (f r.1 + prc f (n + 1) rs B n) else prc f (n + 1) rs B j
theorem Zk9 (f:Pn→Int):∀ (xs ys:List Rw) (n:Nat) (B:Nat→Int),prc f n (xs ++ ys) B=prc f n xs (prc f (n + xs.length) ys B)
 | [],_,_,_=>rfl
 | x :: xs,ys,n,B=>by
  have h:=Zk9 f xs ys (n + 1) B
  rw [show n + (x :: xs).length=n + 1 + xs.length by rw [List.length_cons]; lia]
  show (match x.2.1 with
   | none=>prc f (n + 1) (xs ++ ys) B
   | some b=>fun j=>if j=b then max (prc f (n + 1) (xs ++ ys) B b) (f x.1 + prc f (n + 1) (xs ++ ys) B n) else prc f (n + 1) (xs ++ ys) B j)=_
  rw [h]
  rfl
mutual
noncomputable def smP (f:Pn→Int):Pn→Int
 | .stop=>f .stop
 | .dd d r=>f (.dd d r) + max 0 (smP f r)
 | .lk l ws=>f (.lk l ws) + mxP f ws 0
 | .nil=>0
 | .way _ _ _=>0
noncomputable def mxP (f:Pn→Int):Pn→Int→Int
 | .way _ p r,x=>max (mxP f r x) (smP f p)
 | .stop,x=>x
 | .dd _ _,x=>x
 | .lk _ _,x=>x
 | .nil,x=>x
end
theorem Zeb (f:Pn→Int):∀ (t:Pn) (p:Bool) (n b:Nat) (a:Option Str) (B:Nat→Int),okP p t→b < n→(∀ j,n ≤ j→j < n + szP t→B j=0) →
  prc f n (rwsP t n (some b) a) B b=(if p=true then max (B b) (smP f t) else mxP f t (B b))∧∀ j,j ≠ b→j < n ∨ n + szP t ≤ j→prc f n (rwsP t n (some b) a) B j=B j
 | .stop,true,n,b,a,B,_,hb,hz=>by
  have h0:=hz n (Nat.le_refl _) (by show n < n + 1; lia)
  refine ⟨?_,fun j hj _=>?_⟩
  ·show (if b=b then max (B b) (f .stop + B n) else B b)=max (B b) (smP f .stop)
   rw [if_pos rfl,h0,Int.add_zero]
   rfl
  ·show (if j=b then _ else B j)=B j
   rw [if_neg hj]
 | .dd d r,true,n,b,a,B,h,hb,hz=>by
  have hz':∀ j,n + 1 ≤ j→j < n + 1 + szP r→B j=0:=fun j h1 h2=>hz j (by lia) (by show j < n + (szP r + 1); lia)
  obtain ⟨i1,i2⟩:=Zeb f r true (n + 1) n none B h.2 (Nat.lt_succ_self _) hz'
  have h0:=hz n (Nat.le_refl _) (by show n < n + (szP r + 1); lia)
  have i1':prc f (n + 1) (rwsP r (n + 1) (some n) none) B n=max (B n) (smP f r):=i1
  refine ⟨?_,fun j hj hr=>?_⟩
  ·show (if b=b then max (prc f (n + 1) (rwsP r (n + 1) (some n) none) B b) (f (.dd d r) + prc f (n + 1) (rwsP r (n + 1) (some n) none) B n) else _)=max (B b) (smP f (.dd d r))
   rw [if_pos rfl,i1',h0,i2 b (by lia) (.inl (by lia)),smP]
  ·show (if j=b then _ else prc f (n + 1) (rwsP r (n + 1) (some n) none) B j)=B j
   rw [if_neg hj]
   have hr':j < n ∨ n + (szP r + 1) ≤ j:=hr
   exact i2 j (by lia) (by lia)
 | .lk l ws,true,n,b,a,B,h,hb,hz=>by
  have hz':∀ j,n + 1 ≤ j→j < n + 1 + szP ws→B j=0:=fun j h1 h2=>hz j (by lia) (by show j < n + (szP ws + 1); lia)
  obtain ⟨i1,i2⟩:=Zeb f ws false (n + 1) n none B h.2.2.2 (Nat.lt_succ_self _) hz'
  have h0:=hz n (Nat.le_refl _) (by show n < n + (szP ws + 1); lia)
  have i1':prc f (n + 1) (rwsP ws (n + 1) (some n) none) B n=mxP f ws (B n):=i1
  refine ⟨?_,fun j hj hr=>?_⟩
  ·show (if b=b then max (prc f (n + 1) (rwsP ws (n + 1) (some n) none) B b) (f (.lk l ws) + prc f (n + 1) (rwsP ws (n + 1) (some n) none) B n) else _)=max (B b) (smP f (.lk l ws))
   rw [if_pos rfl,i1',h0,i2 b (by lia) (.inl (by lia)),smP]
  ·show (if j=b then _ else prc f (n + 1) (rwsP ws (n + 1) (some n) none) B j)=B j
   rw [if_neg hj]
   have hr':j < n ∨ n + (szP ws + 1) ≤ j:=hr
   exact i2 j (by lia) (by lia)
 | .nil,false,n,b,a,B,_,_,_=>⟨rfl,fun _ _ _=>rfl⟩
 | .way x q r,false,n,b,a,B,h,hb,hz=>by
  have e:prc f n (rwsP (.way x q r) n (some b) a) B=prc f n (rwsP q n (some b) (some x)) (prc f (n + szP q) (rwsP r (n + szP q) (some b) none) B):=by
   show prc f n (rwsP q n (some b) (some x) ++ rwsP r (n + szP q) (some b) none) B=_
   rw [Zk9,Zcq]
  obtain ⟨r1,r2⟩:=Zeb f r false (n + szP q) b none B h.2.2 (by lia) fun j h1 h2=>hz j (by lia) (by show j < n + (szP q + szP r); lia)
  obtain ⟨q1,q2⟩:=Zeb f q true n b (some x) (prc f (n + szP q) (rwsP r (n + szP q) (some b) none) B) h.2.1 hb fun j h1 h2=>by
   rw [r2 j (by lia) (.inl h2)]
   exact hz j h1 (by show j < n + (szP q + szP r); lia)
  have r1':prc f (n + szP q) (rwsP r (n + szP q) (some b) none) B b=mxP f r (B b):=r1
  rw [e]
  refine ⟨?_,fun j hj hr=>?_⟩
  ·rw [q1,r1']
   rfl
  ·have hr':j < n ∨ n + (szP q + szP r) ≤ j:=hr
   rw [q2 j hj (by lia),r2 j hj (by lia)]
 | .nil,true,_,_,_,_,h,_,_=>h.elim
 | .way _ _ _,true,_,_,_,_,h,_,_=>h.elim
 | .stop,false,_,_,_,_,h,_,_=>h.elim
 | .dd _ _,false,_,_,_,_,h,_,_=>h.elim
 | .lk _ _,false,_,_,_,_,h,_,_=>h.elim
theorem prc_all (f:Pn→Int) {t:Pn} (h:okP true t):f t + prc f 1 ((rwsP t 0 none none).drop 1) (fun _=>0) 0=smP f t:=by
 cases t with
 | stop=>show f .stop + 0=f .stop; lia
 | dd d r=>
  have i1:prc f 1 (rwsP r 1 (some 0) none) (fun _=>0) 0=max 0 (smP f r):=(Zeb f r true 1 0 none (fun _=>0) h.2 (by decide) fun _ _ _=>rfl).1
  show f (.dd d r) + prc f 1 (rwsP r 1 (some 0) none) (fun _=>0) 0=_
  rw [i1,smP]
 | lk l ws=>
  have i1:prc f 1 (rwsP ws 1 (some 0) none) (fun _=>0) 0=mxP f ws 0:=(Zeb f ws false 1 0 none (fun _=>0) h.2.2.2 (by decide) fun _ _ _=>rfl).1
  show f (.lk l ws) + prc f 1 (rwsP ws 1 (some 0) none) (fun _=>0) 0=_
  rw [i1,smP]
 | nil=>exact h.elim
 | way _ _ _=>exact h.elim
noncomputable def Zb0 (t:Pn):List Rw:=rwsP t 0 none none
theorem Zjt (t:Pn):rstP [(t,none,none)] 0=Zb0 t:=by
 show rwsP t 0 none none ++ []=_
 rw [List.append_nil]
 rfl
noncomputable def blw (f:Pn→Int) (R:List Rw) (m:Nat):Nat→Int:=prc f m (R.drop m) (fun _=>0)
theorem blw_step {f:Pn→Int} {R:List Rw} {m b:Nat} {x:Rw} (h:R[m]? = some x) (hb:x.2.1=some b):blw f R m=fun j=>if j=b then max (blw f R (m + 1) b) (f x.1 + blw f R (m + 1) m) else blw f R (m + 1) j:=by
 (obtain ⟨hi,e⟩:=List.getElem?_eq_some_iff.mp h)
 unfold blw
 rw [List.drop_eq_getElem_cons hi,e]
 show (match x.2.1 with
  | none=>_
  | some b=>_)=_
 rw [hb]
theorem Zjw {t:Pn} (ok:okP true t):(Zb0 t)[0]? = some (t,none,none):=by
 cases t with
 | stop=>rfl
 | dd _ _=>rfl
 | lk _ _=>rfl
 | nil=>exact ok.elim
 | way _ _ _=>exact ok.elim
theorem row_ab {t:Pn} (ok:okP true t) {i:Nat} {x:Rw} (h:(Zb0 t)[i + 1]? = some x):∃ b,x.2.1=some b∧b < i + 1:=by
 have go:∀ s:Pn,(rwsP s 1 (some 0) none)[i]? = some x→∃ b,x.2.1=some b∧b < i + 1:=fun s h=>by
  rcases Zdg s 1 (some 0) none i x h with e | ⟨k,e,_,h2⟩
  ·exact ⟨0,e,Nat.succ_pos _⟩
  ·exact ⟨k,e,by lia⟩
 cases t with
 | stop=>cases h
 | dd d r=>exact go r h
 | lk l ws=>exact go ws h
 | nil=>exact ok.elim
 | way _ _ _=>exact ok.elim
theorem range_set {n b:Nat} (g:Nat→Int) (v:Int):(((List.range n).map g).map V.int).set b (.int v)=((List.range n).map fun j=>if j=b then v else g j).map V.int:=by
 refine List.ext_getElem (by simp) fun i h1 h2=>?_
 rw [List.getElem_set]
 simp only [List.getElem_map,List.getElem_range]
 by_cases h:b=i
 ·rw [if_pos h,if_pos h.symm]
 ·rw [if_neg h,if_neg (fun z=>h z.symm)]
theorem Zhm {n i:Nat} (g:Nat→Int) (h:i < n):atI (((List.range n).map g).map V.int) (i:Int)=some (.int (g i)):=Zai (by simp [h])
inductive spGsum (C:C3) (vs:List V) (H:Hp) (Q:VK) (E0_:XK):Prop
 | mk (r c:Addr) (us:List V) (t:Pn) (f:Pn→Int) (c0:vs=[.ref r,.ref c]) (c1:H r=some (.lst us)) (c2:Z2 (RwV C H) us (Zb0 t)) (c3:H c=some (.lst (((Zb0 t).map fun x=>f x.1).map V.int))) (c4:okP true t) (c5:wtP t ≤ 600) (c6:∀ H':Hp,Same H H'→Q (.int (smP f t)) H'):spGsum C vs H Q E0_
noncomputable abbrev Zce:List Str:=["rows", "costs"]
noncomputable abbrev nGreatestSum:List Str:=["rows", "costs", "below", "number", "above"]
theorem scGreatestSum:FnScope nGreatestSum Zce (Zab Za9):=⟨rfl,rfl,rfl,by decide +kernel,rfl,by decide +kernel,by decide +kernel⟩
theorem ok_gsum {f:Addr} {C:C3} {fd:FuncData} (F:Fun K "greatest_sum" "greatest_sum" Za9 f fd) (T:Bl mg):FnOk P w K mg base CX0 1 f fd Zce (spGsum C):=by
 refine F.ok scGreatestSum (fun vs H Q E h=>?_) (fun cdv A outer s H vs Q E hr h=>?_)
 ·obtain ⟨r,c,us,t,g,rfl,_⟩:=h
  rfl
 ·obtain ⟨r,c,us,t,g,rfl,hr',zr,hc,ok,wt,q⟩:=h
  have hsl:sizeLine=16777216:=sizeLine_eq
  have hrl:(Zb0 t).length=szP t:=Zcq t 0 none none
  have hsz:=Zhg t
  have hpos:=Zmb ok
  have hul:=zr.len
  refine ⟨_,(Zae (Zk8 (i:=2) (N:=["row"]) (sc:=Zab Za9) (own:=["row"]) (fr:=[]) (js:=[]) scGreatestSum.nd rfl rfl ⟨rfl,rfl,rfl,rfl,by decide +kernel,by decide +kernel,by decide +kernel,rfl,by decide +kernel⟩ rfl (Zbd (pv 0)) (fun _ _ _ _=>Zaq (i:=0) (show List.Nodup (["row"]:List Str) by decide +kernel) rfl (Or.inl rfl)) (fun _ _ _ _=>Zbm) (fun _ _ _ _=>Zaf))
   (Zae (Zcc PassesOwn.never rfl (pi_range3 (by rfl) T.range (Zaa (Zaz Zj1 (Zat Zbf (by rfl) T.len PySem.boot_len (Zaa (pv 0) Zad)) Zaf) (Zaa Zaf (Zaa (Zm5 Zkw Zaf) Zad)))) (Zaq (i:=3) scGreatestSum.nd rfl (Or.inl rfl))
    (Zae (Zax (i:=4) scGreatestSum.nd rfl (Or.inl rfl) (Zap Zar (Zap Za4 (pv 0) (pv 3) (fun _ _=>rfl)) Zaf (fun _ _=>rfl)))
   (Zag (ps_lput (pv 2) (pv 4) (Zat (call_max2 rfl) (by rfl) T.max Zl3 (Zaa (Zap Za4 (pv 2) (pv 4) (fun _ _=>rfl)) (Zaa (Zaz Zbv (Zap Za4 (pv 1) (pv 3) (fun _ _=>rfl)) (Zap Za4 (pv 2) (pv 3) (fun _ _=>rfl))) Zad))) rfl))))
   (Zag (Zan (Zaz Zbv (Zap Za4 (pv 1) Zaf (fun _ _=>rfl)) (Zap Za4 (pv 2) Zaf (fun _ _=>rfl))))))),?_⟩
  have hcl:(((Zb0 t).map fun x=>g x.1).map V.int).length=szP t:=by rw [List.length_map,List.length_map,hrl]
  refine ⟨_,rfl,r,rfl,⟨_,SqL.of hr'⟩,fun D hD=>?_⟩
  have rD:r ≠ D:=Zah hr' hD
  refine lcJ (n:=us.length) (fun i ys H4=>ys=((List.range i).map fun _=>(0:Int)).map V.int∧Same H H4∧H4 D=some (.lst ys)) ⟨rfl,Same.new hD,Zac⟩
   (fun i ys H4 hi hh0=>by obtain ⟨_,s4,_⟩:=hh0; exact ⟨_,us[i],SqL.of (s4 _ _ hr'),by simp [hi]⟩) (fun ys H4 hh0=>by obtain ⟨_,s4,_⟩:=hh0; exact ⟨_,SqL.of (s4 _ _ hr'),by simp⟩) ?_ ?_
  ·rintro i ys H4 y H5 hi ⟨rfl,s4,e4⟩ ⟨rfl,hy⟩
   refine Zch ?_
   refine ⟨_,e4,by simp only [List.length_map,List.length_range]; lia,?_,s4.put hD,Zac⟩
   rw [List.range_succ,List.map_append,List.map_append]
   rfl
  rintro ys H4 ⟨rfl,s4,e4⟩
  have hlen:us.length=szP t:=by lia
  rw [hlen] at e4
  refine ⟨_,rfl,_,_,rfl,.inl ⟨_,SqL.of (s4 _ _ hr'),rfl⟩,_,_,rfl,rfl,_,rfl,(us.length:Int) - 1,0,-1,rfl,by decide,PySem.W.small_down (by lia) (by lia) (by lia) (by lia),by decide,?_⟩
  have hsz2:(Builtin.Range.rangeSize ((us.length:Int) - 1) 0 (-1)).toNat=szP t - 1:=by
   rw [PySem.W.rangeSize_down]
   split <;> lia
  rw [hsz2]
  have e40:H4 D=some (.lst (((List.range (szP t)).map (blw g (Zb0 t) (szP t - 0))).map V.int)):=by
   have eb:blw g (Zb0 t) (szP t - 0)=fun _=>0:=by
    unfold blw
    rw [Nat.sub_zero,← hrl,List.drop_length]
    rfl
   rw [eb]
   exact e4
  refine for_rangeS (n:=szP t - 1) (fun i σ H5=>∃ v3 v4:Option V,σ = [some (.ref r),some (.ref c),some (.ref D),v3,v4]∧(∀ a u,H4 a=some u→a ≠ D→H5 a=some u)∧H5 D=some (.lst (((List.range (szP t)).map (blw g (Zb0 t) (szP t - i))).map V.int)))
   ⟨none,none,rfl,fun _ _ e _=>e,e40⟩ ?_ ?_
  ·rintro i σ H5 hi ⟨v3,v4,rfl,k5,e5⟩
   obtain ⟨m,hm⟩:∃ m,szP t - (i + 1)=m + 1:=⟨szP t - (i + 1) - 1,by lia⟩
   have hm2:szP t - i=m + 1 + 1:=by lia
   rw [hm2] at e5
   have hmr:m + 1 < (Zb0 t).length:=by lia
   have hx:(Zb0 t)[m + 1]? = some (Zb0 t)[m + 1]:=List.getElem?_eq_getElem hmr
   generalize (Zb0 t)[m + 1]=x at hx
   obtain ⟨b,hb,hbm⟩:=row_ab ok hx
   have hum:m + 1 < us.length:=by lia
   have hu:us[m + 1]? = some us[m + 1]:=List.getElem?_eq_getElem hum
   obtain ⟨x',hx',tt,pv,eu,htt,_,_⟩:=(zr.mono (RwV.same s4)).at hu
   have ex:x'=x:=Option.some.inj (hx'.symm.trans hx)
   subst ex
   have r5:=k5 _ _ (s4 _ _ hr') rD
   have tt5:=k5 _ _ htt (Za5 htt e4 (by intro z; cases z))
   have cD:c ≠ D:=Zah hc hD
   have c5:=k5 _ _ (s4 _ _ hc) cD
   have enum:((us.length:Int) - 1 + (i:Int) * (-1))=((m + 1:Nat):Int):=by lia
   rw [enum]
   have atR:atI us ((m + 1:Nat):Int)=some (.ref tt):=Zai (hu.trans (by rw [eu]))
   have at1:atI [pv,oN x'.2.1,oS x'.2.2] ((1:Nat):Int)=some (.int (b:Int)):=Zai (by rw [hb]; rfl)
   have atC:atI (((Zb0 t).map fun x=>g x.1).map V.int) ((m + 1:Nat):Int)=some (.int (g x'.1)):=Zai (by rw [List.getElem?_map,List.getElem?_map,hx]; rfl)
   have atB:=Zhm (n:=szP t) (i:=b) (blw g (Zb0 t) (m + 1 + 1)) (by lia)
   have atN:=Zhm (n:=szP t) (i:=m + 1) (blw g (Zb0 t) (m + 1 + 1)) (by lia)
   refine ⟨_,rfl,_,rfl,r,_,_,_,rfl,rfl,SqL.of r5,atR,tt,_,_,_,rfl,rfl,SqT.of tt5,at1,?_⟩
   refine ⟨_,rfl,_,rfl,D,_,_,_,rfl,rfl,SqL.of e5,atB,_,rfl,_,rfl,c,_,_,_,rfl,rfl,SqL.of c5,atC,_,rfl,_,rfl,D,_,_,_,rfl,rfl,SqL.of e5,atN,_,_,rfl,rfl,_,_,rfl,?_⟩
   refine ⟨_,rfl,_,rfl,D,_,b,rfl,rfl,e5,by simp only [List.length_map,List.length_range]; lia,?_⟩
   refine ⟨_,_,rfl,fun a u e ha=>by rw [Zak ha]; exact k5 a u e ha,?_⟩
   rw [Zac,range_set,hm,blw_step hx hb]
   refine congrArg (fun z=>some (HO.lst (z.map V.int))) (List.map_congr_left fun j _=>?_)
   by_cases hj:j=b
   ·rw [if_pos hj,if_pos hj]
    generalize blw g (Zb0 t) (m + 1 + 1) b=y1
    generalize g x'.1 + blw g (Zb0 t) (m + 1 + 1) (m + 1)=y2
    rw [Int.max_def]
    split <;> split <;> lia
   ·rw [if_neg hj,if_neg hj]
  ·rintro σ H5 ⟨v3,v4,rfl,k5,e5⟩
   rw [show szP t - (szP t - 1)=1 by lia] at e5
   have cD:c ≠ D:=Zah hc hD
   have c5:=k5 _ _ (s4 _ _ hc) cD
   have atC:atI (((Zb0 t).map fun x=>g x.1).map V.int) ((0:Nat):Int)=some (.int (g t)):=Zai (by rw [List.getElem?_map,List.getElem?_map,Zjw ok]; rfl)
   have atB:=Zhm (n:=szP t) (i:=0) (blw g (Zb0 t) 1) (by lia)
   refine ⟨_,rfl,c,_,_,_,rfl,rfl,SqL.of c5,atC,_,rfl,D,_,_,_,rfl,rfl,SqL.of e5,atB,_,_,rfl,rfl,?_⟩
   have fin:=prc_all g ok
   rw [show g t + blw g (Zb0 t) 1 0=smP g t from fin]
   exact q H5 fun a u e=>k5 a u (s4 _ _ e) (Zah e hD)
noncomputable def stF:Pn→Int
 | .dd _ _=>1
 | .lk _ _=>1
 | _=>0
noncomputable def prF (pr:Str→Int):Pn→Int
 | .dd d _=>pr d
 | .lk l _=>pr l
 | _=>0
noncomputable def knR (ds:List Dee) (ls:List Loo):Pn→Prop
 | .dd d _=>d ∈ ds.map Dee.name
 | .lk l _=>l ∈ ls.map Loo.name
 | _=>True
noncomputable def OutS (H:Hp) (E:XK) (NN:Addr):Prop:=∀ (b:Addr) (H':Hp),Same H H'→H' b=none→E (.ref b) (some NN) H'
inductive spSt (n:Int) (vs:List V) (H:Hp) (Q:VK) (E0_:XK):Prop
 | mk (x:V) (c0:vs=[x]) (c1:Q (.int n) H):spSt n vs H Q E0_
inductive spPhS (vs:List V) (H:Hp) (Q:VK) (E0_:XK):Prop
 | mk (x y:V) (c0:vs=[x,y]) (c1:Q (.int 0) H):spPhS  vs H Q E0_
inductive spPhD (CD CC NN:Addr) (vs:List V) (H:Hp) (Q:VK) (E:XK):Prop
 | mk (o dx:Addr) (d:Str) (v:V) (x:Addr) (m:Nat) (ds:List Dee) (ls:List Loo) (pr:Str→Int) (c0:vs=[.ref o,.ref x]) (c1:H o=some (.ins CD dx (fDo d v))) (c2:ChAt CC H x m ds ls) (c3:(ds.map Dee.name ++ ls.map Loo.name).Nodup) (c4:(∀ s ∈ Zbb ds ls,pr s.1=s.2)) (c5:Rp d) (c6:((d ∈ ds.map Dee.name∧Q (.int (pr d)) H) ∨ (d ∉ ds.map Dee.name∧OutS H E NN))):spPhD CD CC NN vs H Q E
inductive spPhL (CL CC NN:Addr) (vs:List V) (H:Hp) (Q:VK) (E:XK):Prop
 | mk (o dx:Addr) (l:Str) (v:V) (x:Addr) (m:Nat) (ds:List Dee) (ls:List Loo) (pr:Str→Int) (c0:vs=[.ref o,.ref x]) (c1:H o=some (.ins CL dx (fLk l v))) (c2:ChAt CC H x m ds ls) (c3:(ds.map Dee.name ++ ls.map Loo.name).Nodup) (c4:(∀ s ∈ Zbb ds ls,pr s.1=s.2)) (c5:Rp l) (c6:((l ∈ ls.map Loo.name∧Q (.int (pr l)) H) ∨ (l ∉ ls.map Loo.name∧OutS H E NN))):spPhL CL CC NN vs H Q E
inductive spDepth (C:C3) (vs:List V) (H:Hp) (Q:VK) (E0_:XK):Prop
 | mk (p:V) (t:Pn) (c0:vs=[p]) (c1:PlAt C H t [p]) (c2:okP true t) (c3:wtP t ≤ 600) (c4:∀ H':Hp,Same H H'→Q (.int (smP stF t)) H'):spDepth C vs H Q E0_
inductive spPriceBy (C:C3) (CC NN:Addr) (vs:List V) (H:Hp) (Q:VK) (E:XK):Prop
 | mk (p:V) (x:Addr) (t:Pn) (m:Nat) (ds:List Dee) (ls:List Loo) (pr:Str→Int) (c0:vs=[p,.ref x]) (c1:PlAt C H t [p]) (c2:okP true t) (c3:wtP t ≤ 600) (c4:ChAt CC H x m ds ls) (c5:(ds.map Dee.name ++ ls.map Loo.name).Nodup) (c6:(∀ s ∈ Zbb ds ls,pr s.1=s.2)) (c7:(((∀ y ∈ Zb0 t,knR ds ls y.1)∧∀ H':Hp,Same H H'→Q (.int (smP (prF pr) t)) H') ∨ ((∃ y ∈ Zb0 t,¬ knR ds ls y.1)∧OutS H E NN))):spPriceBy C CC NN vs H Q E
noncomputable def VSt (C:C3) (a:Addr) (sp:Sp):Prop:=(a=C.s∧sp=spSt 0) ∨ (a=C.d∧sp=spSt 1) ∨ (a=C.l∧sp=spSt 1)
noncomputable def VPh (C:C3) (CC NN:Addr) (a:Addr) (sp:Sp):Prop:=(a=C.s∧sp=spPhS) ∨ (a=C.d∧sp=spPhD C.d CC NN) ∨ (a=C.l∧sp=spPhL C.l CC NN)
theorem st_any {C:C3} {H:Hp} {t:Pn} {v:V} (E:XK) (h:PlAt C H t [v]) (ok:okP true t):∃ (a C' dx:Addr) (fs:List (Str × V)) (sp:Sp),v=.ref a∧H a=some (.ins C' dx fs)∧fs.lookup ("steps_here" : Str)=none∧VSt C C' sp∧∀ Q:VK,Q (.int (stF t)) H→sp [.ref a] H Q E:=by
 cases t with
 | stop=>
  obtain ⟨o,dx,e,h⟩:=h
  cases e
  exact ⟨o,C.s,dx,[],spSt 0,rfl,h,rfl,.inl ⟨rfl,rfl⟩,fun Q q=>⟨.ref o,rfl,q⟩⟩
 | dd d r=>
  obtain ⟨o,dx,v',e,h,pl⟩:=h
  cases e
  exact ⟨o,C.d,dx,_,spSt 1,rfl,h,rfl,.inr (.inl ⟨rfl,rfl⟩),fun Q q=>⟨.ref o,rfl,q⟩⟩
 | lk l ws=>
  obtain ⟨o,dx,u,us,e,h,hu,pl⟩:=h
  cases e
  exact ⟨o,C.l,dx,_,spSt 1,rfl,h,rfl,.inr (.inr ⟨rfl,rfl⟩),fun Q q=>⟨.ref o,rfl,q⟩⟩
 | nil=>exact ok.elim
 | way _ _ _=>exact ok.elim
theorem ph_any {C:C3} {CC NN x:Addr} {H:Hp} {t:Pn} {v:V} {m:Nat} {ds:List Dee} {ls:List Loo} {pr:Str→Int} (E:XK) (h:PlAt C H t [v]) (ok:okP true t) (ch:ChAt CC H x m ds ls) (nd:(ds.map Dee.name ++ ls.map Loo.name).Nodup) (hp:∀ s ∈ Zbb ds ls,pr s.1=s.2):∃ (a C' dx:Addr) (fs:List (Str × V)) (sp:Sp),v=.ref a∧H a=some (.ins C' dx fs)∧fs.lookup ("price_here" : Str)=none∧VPh C CC NN C' sp∧∀ Q:VK,((knR ds ls t∧Q (.int (prF pr t)) H) ∨ (¬ knR ds ls t∧OutS H E NN))→sp [.ref a,.ref x] H Q E:=by
 cases t with
 | stop=>
  obtain ⟨o,dx,e,h⟩:=h
  cases e
  refine ⟨o,C.s,dx,[],spPhS,rfl,h,rfl,.inl ⟨rfl,rfl⟩,fun Q q=>⟨.ref o,.ref x,rfl,?_⟩⟩
  rcases q with ⟨_,q⟩ | ⟨n,_⟩
  ·exact q
  ·exact absurd trivial n
 | dd d r=>
  obtain ⟨o,dx,v',e,h,pl⟩:=h
  cases e
  exact ⟨o,C.d,dx,_,spPhD C.d CC NN,rfl,h,rfl,.inr (.inl ⟨rfl,rfl⟩),fun Q q=>⟨o,dx,d,v',x,m,ds,ls,pr,rfl,h,ch,nd,hp,ok.1.rp,q⟩⟩
 | lk l ws=>
  obtain ⟨o,dx,u,us,e,h,hu,pl⟩:=h
  cases e
  exact ⟨o,C.l,dx,_,spPhL C.l CC NN,rfl,h,rfl,.inr (.inr ⟨rfl,rfl⟩),fun Q q=>⟨o,dx,l,.ref u,x,m,ds,ls,pr,rfl,h,ch,nd,hp,ok.1.rp,q⟩⟩
 | nil=>exact ok.elim
 | way _ _ _=>exact ok.elim
noncomputable abbrev Zeu:List Str:=["self"]
noncomputable abbrev nStopStepsHere:List Str:=["self"]
theorem scStopStepsHere:FnScope nStopStepsHere Zeu (Zab Zbn):=⟨rfl,rfl,rfl,by decide +kernel,rfl,by decide +kernel,by decide +kernel⟩
noncomputable abbrev Zf3:List Str:=["self"]
noncomputable abbrev nDoStepsHere:List Str:=["self"]
theorem scDoStepsHere:FnScope nDoStepsHere Zf3 (Zab Zb8):=⟨rfl,rfl,rfl,by decide +kernel,rfl,by decide +kernel,by decide +kernel⟩
noncomputable abbrev Zew:List Str:=["self"]
noncomputable abbrev nLookStepsHere:List Str:=["self"]
theorem scLookStepsHere:FnScope nLookStepsHere Zew (Zab Zbp):=⟨rfl,rfl,rfl,by decide +kernel,rfl,by decide +kernel,by decide +kernel⟩
noncomputable abbrev Zev:List Str:=["self", "chart"]
noncomputable abbrev nStopPriceHere:List Str:=["self", "chart"]
theorem scStopPriceHere:FnScope nStopPriceHere Zev (Zab Zbo):=⟨rfl,rfl,rfl,by decide +kernel,rfl,by decide +kernel,by decide +kernel⟩
noncomputable abbrev Zf4:List Str:=["self", "chart"]
noncomputable abbrev nDoPriceHere:List Str:=["self", "chart"]
theorem scDoPriceHere:FnScope nDoPriceHere Zf4 (Zab Zb9):=⟨rfl,rfl,rfl,by decide +kernel,rfl,by decide +kernel,by decide +kernel⟩
noncomputable abbrev Zex:List Str:=["self", "chart"]
noncomputable abbrev nLookPriceHere:List Str:=["self", "chart"]
theorem scLookPriceHere:FnScope nLookPriceHere Zex (Zab Zbq):=⟨rfl,rfl,rfl,by decide +kernel,rfl,by decide +kernel,by decide +kernel⟩
noncomputable abbrev Zha:List Str:=["self"]
noncomputable abbrev nPlanDepth:List Str:=["self", "rows"]
theorem scPlanDepth:FnScope nPlanDepth Zha (Zab Za6):=⟨rfl,rfl,rfl,by decide +kernel,rfl,by decide +kernel,by decide +kernel⟩
noncomputable abbrev Zf1:List Str:=["self", "chart"]
noncomputable abbrev nPlanPriceBy:List Str:=["self", "chart", "rows"]
theorem scPlanPriceBy:FnScope nPlanPriceBy Zf1 (Zab Zay):=⟨rfl,rfl,rfl,by decide +kernel,rfl,by decide +kernel,by decide +kernel⟩
theorem ok_st0 {f:Addr} {fd:FuncData} (F:Fun K "steps_here" "Stop.steps_here" Zbn f fd):FnOk P w K mg base CX0 1 f fd Zeu (spSt 0):=by
 refine F.ok scStopStepsHere (fun vs H Q E h=>?_) (fun cdv A outer s H vs Q E hr h=>?_)
 ·obtain ⟨x,rfl,_⟩:=h
  rfl
 ·obtain ⟨x,rfl,q⟩:=h
  refine ⟨_,(Zag (Zan Zaf)),?_⟩
  exact q
theorem ok_st1 {f:Addr} {fd:FuncData} (F:Fun K "steps_here" "Do.steps_here" Zb8 f fd):FnOk P w K mg base CX0 1 f fd Zf3 (spSt 1):=by
 refine F.ok scDoStepsHere (fun vs H Q E h=>?_) (fun cdv A outer s H vs Q E hr h=>?_)
 ·obtain ⟨x,rfl,_⟩:=h
  rfl
 ·obtain ⟨x,rfl,q⟩:=h
  refine ⟨_,(Zag (Zan Zaf)),?_⟩
  exact q
theorem ok_st2 {f:Addr} {fd:FuncData} (F:Fun K "steps_here" "Look.steps_here" Zbp f fd):FnOk P w K mg base CX0 1 f fd Zew (spSt 1):=by
 refine F.ok scLookStepsHere (fun vs H Q E h=>?_) (fun cdv A outer s H vs Q E hr h=>?_)
 ·obtain ⟨x,rfl,_⟩:=h
  rfl
 ·obtain ⟨x,rfl,q⟩:=h
  refine ⟨_,(Zag (Zan Zaf)),?_⟩
  exact q
theorem ok_ph0 {f:Addr} {fd:FuncData} (F:Fun K "price_here" "Stop.price_here" Zbo f fd):FnOk P w K mg base CX0 1 f fd Zev spPhS:=by
 refine F.ok scStopPriceHere (fun vs H Q E h=>?_) (fun cdv A outer s H vs Q E hr h=>?_)
 ·obtain ⟨x,y,rfl,_⟩:=h
  rfl
 ·obtain ⟨x,y,rfl,q⟩:=h
  refine ⟨_,(Zag (Zan Zaf)),?_⟩
  exact q
theorem ok_ph1 {f CD CC NN f1 f2:Addr} {fd d1 d2:FuncData} (F:Fun K "price_here" "Do.price_here" Zb9 f fd) (LD:ClD K CD) (L:Cl K CC) (b_check_deed:Binds K d1 ["self", "name"] []) (m_check_deed:Meth K CC "check_deed" f1) (G_check_deed:FnOk P w K mg base (CXe P w) 1 f1 d1 Zft (spCheckDeed CC NN)) (b_price_of:Binds K d2 ["self", "name"] []) (m_price_of:Meth K CC "price_of" f2) (G_price_of:FnOk P w K mg base (CXe P w) 2 f2 d2 Zf7 (spPriceOf CC NN)):FnOk P w K mg base (CXe P w) 3 f fd Zf4 (spPhD CD CC NN):=by
 refine F.okE scDoPriceHere (fun vs H Q E h=>?_) (fun cdv A outer s H vs Q E hr2 h=>?_)
 ·obtain ⟨o,dx,d,v,x,m,ds,ls,pr,rfl,_⟩:=h
  rfl
 ·obtain ⟨o,dx,d,v,x,m,ds,ls,pr,rfl,ho,ch,nd,hp,rp,q⟩:=h
  have hr1:Room 1 _:=hr2.mono (by decide)
  obtain ⟨cdx,p',o',a',q',d',kp,ko,ka,kq,kd,o1,o2,h1,_⟩:=ch.ex
  refine ⟨_,(Zae (Zbg (Zgg (pv 1) L.cl m_check_deed G_check_deed hr1 b_check_deed .nil Zlc (Zaa (Zcd (pv 0) rfl) Zad)))
   (Zag (Zan (Zgg (pv 1) L.cl m_price_of G_price_of hr2 b_price_of .nil Zlc (Zaa (Zcd (pv 0) rfl) Zad))))),?_⟩
  refine ⟨_,rfl,x,cdx,_,rfl,h1,Zlr (by decide +kernel),_,rfl,o,CD,dx,_,_,rfl,ho,LD.cl,LD.n1,Zlp d v,x,m,ds,ls,d,rfl,ch,nd,?_⟩
  rcases q with ⟨hd,q⟩ | ⟨hd,out⟩
  ·refine .inr ⟨hd,?_⟩
   obtain ⟨e,he,rfl⟩:=List.mem_map.mp hd
   have hs:(e.name,e.price) ∈ Zbb ds ls:=List.mem_append_left _ (List.mem_map.mpr ⟨e,he,rfl⟩)
   have e1:=hp _ hs
   refine ⟨_,rfl,x,cdx,_,rfl,h1,Zlr (by decide +kernel),_,rfl,o,CD,dx,_,_,rfl,ho,LD.cl,LD.n1,Zlp _ v,x,m,ds,ls,_,rfl,ch,nd,.inr ⟨_,hs,rfl,?_⟩⟩
   rw [← e1]
   exact q
  ·exact .inl ⟨hd,rp,fun b H' s' hb=>out b H' s' hb⟩
theorem ok_ph2 {f CL CC NN f1 f2:Addr} {fd d1 d2:FuncData} (F:Fun K "price_here" "Look.price_here" Zbq f fd) (LL:ClL K CL) (L:Cl K CC) (b_check_look:Binds K d1 ["self", "name"] []) (m_check_look:Meth K CC "check_look" f1) (G_check_look:FnOk P w K mg base (CXe P w) 1 f1 d1 Zfs (spCheckLook CC NN)) (b_price_of:Binds K d2 ["self", "name"] []) (m_price_of:Meth K CC "price_of" f2) (G_price_of:FnOk P w K mg base (CXe P w) 2 f2 d2 Zf7 (spPriceOf CC NN)):FnOk P w K mg base (CXe P w) 3 f fd Zex (spPhL CL CC NN):=by
 refine F.okE scLookPriceHere (fun vs H Q E h=>?_) (fun cdv A outer s H vs Q E hr2 h=>?_)
 ·obtain ⟨o,dx,d,v,x,m,ds,ls,pr,rfl,_⟩:=h
  rfl
 ·obtain ⟨o,dx,d,v,x,m,ds,ls,pr,rfl,ho,ch,nd,hp,rp,q⟩:=h
  have hr1:Room 1 _:=hr2.mono (by decide)
  obtain ⟨cdx,p',o',a',q',d',kp,ko,ka,kq,kd,o1,o2,h1,_⟩:=ch.ex
  refine ⟨_,(Zae (Zbg (Zgg (pv 1) L.cl m_check_look G_check_look hr1 b_check_look .nil Zlc (Zaa (Zcd (pv 0) rfl) Zad)))
   (Zag (Zan (Zgg (pv 1) L.cl m_price_of G_price_of hr2 b_price_of .nil Zlc (Zaa (Zcd (pv 0) rfl) Zad))))),?_⟩
  refine ⟨_,rfl,x,cdx,_,rfl,h1,Zlr (by decide +kernel),_,rfl,o,CL,dx,_,_,rfl,ho,LL.cl,LL.n1,Zlo d v,x,m,ds,ls,d,rfl,ch,nd,?_⟩
  rcases q with ⟨hd,q⟩ | ⟨hd,out⟩
  ·refine .inr ⟨hd,?_⟩
   obtain ⟨e,he,rfl⟩:=List.mem_map.mp hd
   have hs:(e.name,e.price) ∈ Zbb ds ls:=List.mem_append_right _ (List.mem_map.mpr ⟨e,he,rfl⟩)
   have e1:=hp _ hs
   refine ⟨_,rfl,x,cdx,_,rfl,h1,Zlr (by decide +kernel),_,rfl,o,CL,dx,_,_,rfl,ho,LL.cl,LL.n1,Zlo _ v,x,m,ds,ls,_,rfl,ch,nd,.inr ⟨_,hs,rfl,?_⟩⟩
   rw [← e1]
   exact q
  ·exact .inl ⟨hd,rp,fun b H' s' hb=>out b H' s' hb⟩
theorem Zh0 {f f1 f2:Addr} {C:C3} {fd d1 d2:FuncData} (F:Fun K "depth" "Plan.depth" Za6 f fd) (D_rows_in:Df K mg "rows_in" Zc8 Zd2 f1 d1) (G_rows_in:FnOk P w K mg base CX0 3 f1 d1 Zd2 (spRowsIn C)) (D_greatest_sum:Df K mg "greatest_sum" Za9 Zce f2 d2) (G_greatest_sum:FnOk P w K mg base CX0 1 f2 d2 Zce (spGsum C))
  (GS:MV P w K mg base C.s "steps_here" 1 (spSt 0)) (GD:MV P w K mg base C.d "steps_here" 1 (spSt 1)) (GL:MV P w K mg base C.l "steps_here" 1 (spSt 1)):FnOk P w K mg base CX0 4 f fd Zha (spDepth C):=by
 refine F.ok scPlanDepth (fun vs H Q E h=>?_) (fun cdv A outer s H vs Q E hr3 h=>?_)
 ·obtain ⟨p,t,rfl,_⟩:=h
  rfl
 ·obtain ⟨p,t,rfl,hp,ok,wt,q⟩:=h
  have hr1:Room 1 _:=hr3.mono (by decide)
  have hsl:sizeLine=16777216:=sizeLine_eq
  have hV_steps_here:∀ C' sp,VSt C C' sp→∃ (k:Nat) (f:Addr) (fd:FuncData) (ps:List Str),Cls K C'∧Meth K C' "steps_here" f∧FnOk P w K mg base CX0 k f fd ps sp∧Room k _∧Binds K fd ps []:=fun C' sp hv=>by
   rcases hv with ⟨rfl,rfl⟩ | ⟨rfl,rfl⟩ | ⟨rfl,rfl⟩
   ·obtain ⟨f',fd',m',g',b'⟩:=GS.ex
    exact ⟨1,f',fd',["self"],GS.cl,m',g',hr1,b'⟩
   ·obtain ⟨f',fd',m',g',b'⟩:=GD.ex
    exact ⟨1,f',fd',["self"],GD.cl,m',g',hr1,b'⟩
   ·obtain ⟨f',fd',m',g',b'⟩:=GL.ex
    exact ⟨1,f',fd',["self"],GL.cl,m',g',hr1,b'⟩
  have hrl:(Zb0 t).length=szP t:=Zcq t 0 none none
  have hsz:=Zhg t
  refine ⟨_,(Zae (Zax (i:=1) scPlanDepth.nd rfl (Or.inl rfl) (Zaj G_rows_in hr3 (by rfl) D_rows_in.m D_rows_in.F.kp D_rows_in.b .nil Zaw (Zaa (pv 0) Zad)))
   (Zag (Zan (Zaj G_greatest_sum hr1 (by rfl) D_greatest_sum.m D_greatest_sum.F.kp D_greatest_sum.b .nil Zaw (Zaa (pv 1) (Zaa (Zel (N:=["row"]) (sc:=Zab Za6) (own:=["row"]) (fr:=[]) (js:=[]) ⟨rfl,rfl,rfl,rfl,by decide +kernel,by decide +kernel,by decide +kernel,rfl,by decide +kernel⟩ rfl (Zbd (pv 1)) (fun _ _ _ _=>Zaq (i:=0) (show List.Nodup (["row"]:List Str) by decide +kernel) rfl (Or.inl rfl)) (fun _ _ _ _=>Zbm) (fun _ _ _ _=>(Zc5 (Zap (Zdb K rfl) (pv 0) Zaf (fun _ _=>rfl)) hV_steps_here))) Zad)))))),?_⟩
  refine ⟨_,rfl,p,t,rfl,hp,ok,by lia,fun r us H1 s1 fr e1 zr=>?_⟩
  rw [Zjt] at zr
  have hul:=zr.len
  refine ⟨_,rfl,_,rfl,r,rfl,⟨_,SqL.of e1⟩,fun D hD=>?_⟩
  refine lcJ (n:=us.length) (fun i ys H4=>ys=(((Zb0 t).take i).map fun x=>stF x.1).map V.int∧Same H1 H4∧H4 D=some (.lst ys)) ⟨rfl,Same.new hD,Zac⟩
   (fun i ys H4 hi hh0=>by obtain ⟨_,s4,_⟩:=hh0; exact ⟨_,us[i],SqL.of (s4 _ _ e1),by simp [hi]⟩) (fun ys H4 hh0=>by obtain ⟨_,s4,_⟩:=hh0; exact ⟨_,SqL.of (s4 _ _ e1),by simp⟩) ?_ ?_
  ·rintro i ys HZ y H4 hi ⟨rfl,s4,e4⟩ ⟨rfl,hy⟩
   refine Zch ?_
   obtain ⟨x,hx,tt,pv,rfl,htt,pl,okx⟩:=(zr.mono (RwV.same s4)).at (hy _ (SqL.of (s4 _ _ e1)))
   have at0:atI [pv,oN x.2.1,oS x.2.2] ((0:Nat):Int)=some pv:=Zai rfl
   obtain ⟨a,C',dx,fs,sp,rfl,ha,hlk,hv,go⟩:=st_any E0 pl okx
   refine ⟨_,rfl,tt,_,_,_,rfl,rfl,SqT.of htt,at0,a,C',dx,fs,sp,rfl,ha,hlk,hv,go _ ?_⟩
   obtain ⟨hi2,ex⟩:=List.getElem?_eq_some_iff.mp hx
   refine ⟨_,e4,by simp only [List.length_map,List.length_take]; lia,?_,s4.put hD,Zac⟩
   rw [List.take_succ_eq_append_getElem hi2,List.map_append,List.map_append,ex]
   rfl
  rintro ys H4 ⟨rfl,s4,e4⟩
  rw [hul,List.take_length] at e4
  exact ⟨r,D,us,t,stF,rfl,s4 _ _ e1,zr.mono (RwV.same s4),e4,ok,wt,fun H5 s5=>q H5 (s1.trans (s4.trans s5))⟩
theorem Zfu {f f1 f2 CC NN:Addr} {C:C3} {fd d1 d2:FuncData} (F:Fun K "price_by" "Plan.price_by" Zay f fd) (D_rows_in:Df K mg "rows_in" Zc8 Zd2 f1 d1) (G_rows_in:FnOk P w K mg base CX0 3 f1 d1 Zd2 (spRowsIn C)) (D_greatest_sum:Df K mg "greatest_sum" Za9 Zce f2 d2) (G_greatest_sum:FnOk P w K mg base CX0 1 f2 d2 Zce (spGsum C))
  (hV:∀ (A:PySem.Around),Room 3 A→∀ C' sp,VPh C CC NN C' sp→∃ (k:Nat) (f:Addr) (fd:FuncData) (ps:List Str),Cls K C'∧Meth K C' "price_here" f∧FnOk P w K mg base (CXe P w) k f fd ps sp∧Room k A∧Binds K fd ps []):FnOk P w K mg base (CXe P w) 4 f fd Zf1 (spPriceBy C CC NN):=by
 refine F.okE scPlanPriceBy (fun vs H Q E h=>?_) (fun cdv A outer s H vs Q E hr3 h=>?_)
 ·obtain ⟨p,x,t,m,ds,ls,pr,rfl,_⟩:=h
  rfl
 ·obtain ⟨p,x,t,m,ds,ls,pr,rfl,hp,ok,wt,ch,nd,hpr,q⟩:=h
  have hr1:Room 1 _:=hr3.mono (by decide)
  have hsl:sizeLine=16777216:=sizeLine_eq
  have hV_price_here:=hV _ hr3
  have hrl:(Zb0 t).length=szP t:=Zcq t 0 none none
  have hsz:=Zhg t
  refine ⟨_,(Zae (Zax (i:=2) scPlanPriceBy.nd rfl (Or.inl rfl) (Zaj G_rows_in hr3 (by rfl) D_rows_in.m D_rows_in.F.kp D_rows_in.b .nil Zaw (Zaa (pv 0) Zad)))
   (Zag (Zan (Zaj G_greatest_sum hr1 (by rfl) D_greatest_sum.m D_greatest_sum.F.kp D_greatest_sum.b .nil Zaw (Zaa (pv 2) (Zaa (pe_lcE (N:=["row", "chart"]) (sc:=Zab Zay) (own:=["row"]) (fr:=["chart"]) (js:=[1]) rfl ⟨rfl,rfl,rfl,rfl,by decide +kernel,by decide +kernel,by decide +kernel,rfl,by decide +kernel⟩ rfl (Zbd (pv 2)) (fun _ _ _ _ _=>Zaq (i:=0) (show List.Nodup (["row", "chart"]:List Str) by decide +kernel) rfl (Or.inl rfl)) (fun _ _ _ _ _=>Zbm) (fun _ _ _ _ _ hx=>(Zfa (Zap (Zdb K rfl) (pv 0) Zaf (fun _ _=>rfl)) hV_price_here hx (Zaa (pv 1) Zad)))) Zad)))))),?_⟩
  refine ⟨_,rfl,p,t,rfl,hp,ok,by lia,fun r us H1 s1 fr e1 zr=>?_⟩
  rw [Zjt] at zr
  have hul:=zr.len
  refine ⟨_,rfl,_,rfl,r,rfl,⟨_,SqL.of e1⟩,fun D hD=>?_⟩
  refine lcJ (n:=us.length) (fun i ys H4=>ys=(((Zb0 t).take i).map fun x=>prF pr x.1).map V.int∧Same H1 H4∧H4 D=some (.lst ys)∧∀ y ∈ (Zb0 t).take i,knR ds ls y.1) ⟨rfl,Same.new hD,Zac,fun _ h=>nomatch h⟩
   (fun i ys H4 hi hh0=>by obtain ⟨_,s4,_⟩:=hh0; exact ⟨_,us[i],SqL.of (s4 _ _ e1),by simp [hi]⟩) (fun ys H4 hh0=>by obtain ⟨_,s4,_⟩:=hh0; exact ⟨_,SqL.of (s4 _ _ e1),by simp⟩) ?_ ?_
  ·rintro i ys HZ y H4 hi ⟨rfl,s4,e4,kn⟩ ⟨rfl,hy⟩
   refine Zch ?_
   obtain ⟨z,hz,tt,pv,rfl,htt,pl,okz⟩:=(zr.mono (RwV.same s4)).at (hy _ (SqL.of (s4 _ _ e1)))
   have at0:atI [pv,oN z.2.1,oS z.2.2] ((0:Nat):Int)=some pv:=Zai rfl
   obtain ⟨a,C',dx,fs,sp,rfl,ha,hlk,hv,go⟩:=ph_any (C:=C) (NN:=NN) (pr:=pr) E pl okz (ch.same (s1.trans s4)) nd hpr
   refine ⟨_,rfl,tt,_,_,_,rfl,rfl,SqT.of htt,at0,a,C',dx,fs,sp,rfl,ha,hlk,hv,_,rfl,go _ ?_⟩
   obtain ⟨hi2,ez⟩:=List.getElem?_eq_some_iff.mp hz
   have hzm:z ∈ Zb0 t:=List.mem_of_getElem? hz
   by_cases hk:knR ds ls z.1
   ·refine .inl ⟨hk,_,e4,by simp only [List.length_map,List.length_take]; lia,?_,s4.put hD,Zac,fun y hy=>?_⟩
    ·rw [List.take_succ_eq_append_getElem hi2,List.map_append,List.map_append,ez]
     rfl
    ·rw [List.take_succ_eq_append_getElem hi2,ez] at hy
     rcases (List.mem_append.mp hy) with w | w
     ·exact kn y w
     ·rw [List.mem_singleton.mp w]
      exact hk
   ·rcases q with ⟨all,_⟩ | ⟨_,out⟩
    ·exact absurd (all z hzm) hk
    ·exact .inr ⟨hk,fun b H' s' hb=>out b H' (s1.trans (s4.trans s')) hb⟩
  rintro ys H4 ⟨rfl,s4,e4,kn⟩
  rw [hul,List.take_length] at e4 kn
  rcases q with ⟨_,q⟩ | ⟨⟨y,hy,hn⟩,_⟩
  ·exact ⟨r,D,us,t,prF pr,rfl,s4 _ _ e1,zr.mono (RwV.same s4),e4,ok,wt,fun H5 s5=>q H5 (s1.trans (s4.trans s5))⟩
  ·exact absurd (kn y hy) hn
theorem Zle:∀ {ws:Pn},okP false ws→ofL (wyL ws) .nil=ws
 | .nil,_=>rfl
 | .way a p r,h=>congrArg (Pn.way a p) (Zle h.2.2)
 | .stop,h=>h.elim
 | .dd _ _,h=>h.elim
 | .lk _ _,h=>h.elim
theorem Zkz {f:Pn→Int} (hf:∀ t,0 ≤ f t):∀ (t:Pn) (p:Bool) (x:Int),okP p t→0 ≤ x→0 ≤ smP f t∧x ≤ mxP f t x
 | .stop,_,x,_,hx=>⟨by rw [smP]; exact hf _,by rw [mxP]; exact Int.le_refl _⟩
 | .dd d r,true,x,h,hx=>by
  have h1:=hf (.dd d r)
  refine ⟨?_,by rw [mxP]; exact Int.le_refl _⟩
  rw [smP]
  have:0 ≤ max 0 (smP f r):=Int.le_max_left ..
  lia
 | .lk l ws,true,x,h,hx=>by
  have h1:=hf (.lk l ws)
  have h2:=(Zkz hf ws false 0 h.2.2.2 (Int.le_refl _)).2
  refine ⟨?_,by rw [mxP]; exact Int.le_refl _⟩
  rw [smP]
  lia
 | .nil,_,x,_,hx=>⟨by rw [smP]; exact Int.le_refl _,by rw [mxP]; exact Int.le_refl _⟩
 | .way a p r,false,x,h,hx=>by
  have h1:=(Zkz hf r false x h.2.2 hx).2
  refine ⟨by rw [smP]; exact Int.le_refl _,?_⟩
  rw [mxP]
  exact Int.le_trans h1 (Int.le_max_left ..)
 | .dd _ _,false,_,h,_=>h.elim
 | .lk _ _,false,_,h,_=>h.elim
 | .way _ _ _,true,_,h,_=>h.elim
theorem mx_ge {f:Pn→Int}:∀ {ws:Pn} {x:Int},okP false ws→∀ y ∈ wyL ws,smP f y.2 ≤ mxP f ws x
 | .way a p r,x,h,y,hy=>by
  rw [mxP]
  rcases (List.mem_cons.mp hy) with e | hy
  ·rw [e]
   exact Int.le_max_right ..
  ·exact Int.le_trans (mx_ge h.2.2 y hy) (Int.le_max_left ..)
 | .nil,_,_,_,hy=>nomatch hy
 | .stop,_,h,_,_=>h.elim
 | .dd _ _,_,h,_,_=>h.elim
 | .lk _ _,_,h,_,_=>h.elim
theorem mx_in {f:Pn→Int}:∀ {ws:Pn} {x:Int},okP false ws→mxP f ws x=x ∨ ∃ y ∈ wyL ws,mxP f ws x=smP f y.2
 | .way a p r,x,h=>by
  rw [mxP]
  rcases Int.le_total (mxP f r x) (smP f p) with hle | hle
  ·rw [Int.max_eq_right hle]
   exact .inr ⟨_,List.mem_cons_self,rfl⟩
  ·rw [Int.max_eq_left hle]
   rcases mx_in (f:=f) (x:=x) h.2.2 with e | ⟨y,hy,e⟩
   ·exact .inl e
   ·exact .inr ⟨y,List.mem_cons_of_mem _ hy,e⟩
 | .nil,x,_=>.inl (by rw [mxP])
 | .stop,_,h=>h.elim
 | .dd _ _,_,h=>h.elim
 | .lk _ _,_,h=>h.elim
theorem Zko:∀ {ws:Pn},okP false ws→∀ y ∈ wyL ws,Lb y.1∧okP true y.2
 | .way a p r,h,y,hy=>by
  rcases (List.mem_cons.mp hy) with e | hy
  ·rw [e]
   exact ⟨h.1,h.2.1⟩
  ·exact Zko h.2.2 y hy
 | .nil,_,_,hy=>nomatch hy
 | .stop,h,_,_=>h.elim
 | .dd _ _,h,_,_=>h.elim
 | .lk _ _,h,_,_=>h.elim
theorem mx_is {f:Pn→Int} (hf:∀ t,0 ≤ f t) {ws:Pn} (h:okP false ws) {M:Int} (h1:M ∈ (wyL ws).map fun y=>smP f y.2) (h2:∀ a ∈ (wyL ws).map fun y=>smP f y.2,a ≤ M):mxP f ws 0=M:=by
 obtain ⟨y,hy,e⟩:=List.mem_map.mp h1
 have g1:=mx_ge (f:=f) (x:=0) h y hy
 have g2:=(Zkz hf y.2 true 0 (Zko h y hy).2 (Int.le_refl _)).1
 rcases mx_in (f:=f) (x:=0) h with e2 | ⟨z,hz,e2⟩
 ·lia
 ·have:=h2 _ (List.mem_map.mpr ⟨z,hz,rfl⟩)
  lia
theorem Zm3 {ws:Pn} (h:okP false ws) (n:ws ≠ .nil):0 < (wyL ws).length:=by
 cases ws with
 | nil=>exact absurd rfl n
 | way _ _ _=>exact Nat.succ_pos _
 | stop=>exact h.elim
 | dd _ _=>exact h.elim
 | lk _ _=>exact h.elim
theorem Zmd:∀ t,0 ≤ stF t:=fun t=>by
 cases t <;> simp [stF]
theorem Zml {pr:Str→Int} (h:∀ x,0 ≤ pr x):∀ t,0 ≤ prF pr t:=fun t=>by
 cases t with
 | dd d _=>exact h d
 | lk l _=>exact h l
 | stop=>exact Int.le_refl _
 | nil=>exact Int.le_refl _
 | way _ _ _=>exact Int.le_refl _
theorem wy_in {D L:List Str}:∀ {ws:Pn},okP false ws→inP D L ws→∀ y ∈ wyL ws,inP D L y.2
 | .way a p r,h,hi,y,hy=>by
  rcases (List.mem_cons.mp hy) with e | hy
  ·rw [e]
   exact hi.1
  ·exact wy_in h.2.2 hi.2 y hy
 | .nil,_,_,_,hy=>nomatch hy
 | .stop,h,_,_,_=>h.elim
 | .dd _ _,h,_,_,_=>h.elim
 | .lk _ _,h,_,_,_=>h.elim
inductive spPlanL (C:C3) (n:Nat) (vs:List V) (H:Hp) (Q:VK) (E0_:XK):Prop
 | mk (v:V) (t:Pn) (c0:vs=[v]) (c1:TrAt H t [v]) (c2:okP true t) (c3:htP t ≤ n) (c4:∀ (v':V) (H':Hp),Same H H'→PlAt C H' t [v']→Q v' H'):spPlanL C n vs H Q E0_
inductive spDepthL (n:Nat) (vs:List V) (H:Hp) (Q:VK) (E0_:XK):Prop
 | mk (v:V) (t:Pn) (c0:vs=[v]) (c1:TrAt H t [v]) (c2:okP true t) (c3:htP t ≤ n) (c4:∀ H':Hp,Same H H'→Q (.int (smP stF t)) H'):spDepthL n vs H Q E0_
inductive spCostL (n:Nat) (vs:List V) (H:Hp) (Q:VK) (E0_:XK):Prop
 | mk (v:V) (t:Pn) (pd:Addr) (kvs:List (Key × V)) (D L:List Str) (pr:Str→Int) (c0:vs=[v,.ref pd]) (c1:TrAt H t [v]) (c2:okP true t) (c3:htP t ≤ n) (c4:inP D L t) (c5:H pd=some (.dK kvs)) (c6:(∀ x ∈ D ++ L,valV kvs (Sum.inr x:Key)=some (.int (pr x)))) (c7:(∀ x,0 ≤ pr x)) (c8:∀ H':Hp,Same H H'→Q (.int (smP (prF pr) t)) H'):spCostL n vs H Q E0_
noncomputable abbrev Zgn:List Str:=["_law_tree_here"]
noncomputable abbrev nLPlan:List Str:=["_law_tree_here"]
theorem scLPlan:FnScope nLPlan Zgn (Zab Zd0):=⟨rfl,rfl,rfl,by decide +kernel,rfl,by decide +kernel,by decide +kernel⟩
noncomputable abbrev Zgp:List Str:=["_law_tree_here"]
noncomputable abbrev nLDepth:List Str:=["_law_tree_here"]
theorem scLDepth:FnScope nLDepth Zgp (Zab Zc9):=⟨rfl,rfl,rfl,by decide +kernel,rfl,by decide +kernel,by decide +kernel⟩
noncomputable abbrev Zim:List Str:=["_law_tree_here", "_law_prices_here"]
noncomputable abbrev nLCost:List Str:=["_law_tree_here", "_law_prices_here"]
theorem scLCost:FnScope nLCost Zim (Zab Zer):=⟨rfl,rfl,rfl,by decide +kernel,rfl,by decide +kernel,by decide +kernel⟩
theorem Zj3 {f fD fL:Addr} {C:C3} {fd dD dL:FuncData} (F:Fun K "_law_plan" "_law_plan" Zd0 f fd) (D_l_plan:Df K mg "_law_plan" Zd0 Zgn f fd) (OS:MkO K C.s) (mS:mg "Stop" = some (.ref C.s)) (MD:L2.Mk K C.d fD) (mD:mg "Do" = some (.ref C.d)) (bD:Binds K dD ["self", "deed", "rest"] []) (GD:FnOk P w K mg base CX0 1 fD dD Zjj (spDoInit C.d))
  (ML:L2.Mk K C.l fL) (mL:mg "Look" = some (.ref C.l)) (bL:Binds K dL ["self", "look", "ways"] []) (GL:FnOk P w K mg base CX0 2 fL dL Zfe (spLkInit C.l)):∀ n:Nat,FnOk P w K mg base CX0 (4 + n) f fd Zgn (spPlanL C n)
 | 0=>Ze7 fun vs H Q E h=>by
  obtain ⟨v,t,_,_,ok,h0,_⟩:=h
  have:=Zhd ok.wk
  lia
 | n + 1=>by
  have G_l_plan:=Zj3 F D_l_plan OS mS MD mD bD GD ML mL bL GL n
  refine F.ok (k:=4 + n) scLPlan (fun vs H Q E h=>?_) (fun cdv A outer s H vs Q E hrP h=>?_)
  ·obtain ⟨v,t,rfl,_⟩:=h
   rfl
  ·obtain ⟨v,t,rfl,tr,ok,hn,q⟩:=h
   have hr2:Room 2 _:=hrP.mono (by lia)
   have hr3:Room 3 _:=hrP.mono (by lia)
   have hsl:sizeLine=16777216:=sizeLine_eq
   refine ⟨_,(Zae (Zbc (Zav Zdr (Zap Zar (pv 0) Zaf (fun _ _=>rfl)) Za1 (Za0 _)) (Zag (Zan (pe_makeO OS.ma OS.hi OS.so OS.kp (by rfl) mS))) Zau)
   (Zae (Zbc (Zav Zdr (Zap Zar (pv 0) Zaf (fun _ _=>rfl)) Za1 (Za0 _)) (Zag (Zan (Zhr MD GD hr2 (by rfl) mD bD .nil Zaw (Zaa (Zap Zar (pv 0) Zaf (fun _ _=>rfl)) (Zaa (Zaj G_l_plan hrP (by rfl) D_l_plan.m D_l_plan.F.kp D_l_plan.b .nil Zaw (Zaa (Zap Zar (pv 0) Zaf (fun _ _=>rfl)) Zad)) Zad))))) Zau)
   (Zag (Zan (Zhr ML GL hr3 (by rfl) mL bL .nil Zaw (Zaa (Zap Zar (pv 0) Zaf (fun _ _=>rfl)) (Zaa (Zel (N:=["_law_way"]) (sc:=Zab Zd0) (own:=["_law_way"]) (fr:=[]) (js:=[]) ⟨rfl,rfl,rfl,rfl,by decide +kernel,by decide +kernel,by decide +kernel,rfl,by decide +kernel⟩ rfl (Zbd (Zap Zar (pv 0) Zaf (fun _ _=>rfl))) (fun _ _ _ _=>Zaq (i:=0) (show List.Nodup (["_law_way"]:List Str) by decide +kernel) rfl (Or.inl rfl)) (fun _ _ _ _=>Zbm) (fun _ _ _ _=>(Zbu (Zaa (Zap (Zdb K rfl) (pv 0) Zaf (fun _ _=>rfl)) (Zaa (Zaj G_l_plan hrP (by rfl) D_l_plan.m D_l_plan.F.kp D_l_plan.b .nil Zaw (Zaa (Zap (Zdb K rfl) (pv 0) Zaf (fun _ _=>rfl)) Zad)) Zad))))) Zad))))))),?_⟩
   cases t with
   | nil=>exact ok.elim
   | way _ _ _=>exact ok.elim
   | stop=>
    obtain ⟨a,e,h⟩:=tr
    cases e
    refine ⟨_,rfl,a,_,_,_,rfl,rfl,SqT.of h,Zai (j:=0) (v:=V.str tStop) rfl,rfl,_,rfl,?_⟩
    refine ite2 (fun _=>?_) (fun z=>absurd (decide_eq_true rfl) z)
    intro o dx ho hdx dn
    exact q (.ref o) _ ((Same.new hdx).trans (Same.new (by rw [Zak dn.symm]; exact ho))) ⟨o,dx,rfl,Zac⟩
   | dd d r=>
    obtain ⟨a,v',e,h,tr'⟩:=tr
    cases e
    have a0:atI [V.str (Str.ofString "do"),.str d,v'] ((0:Nat):Int)=some (.str (Str.ofString "do")):=Zai rfl
    have a1:atI [V.str (Str.ofString "do"),.str d,v'] ((1:Nat):Int)=some (.str d):=Zai rfl
    have a2:atI [V.str (Str.ofString "do"),.str d,v'] ((2:Nat):Int)=some v':=Zai rfl
    have hh':htP r + 1 ≤ n + 1:=hn
    refine ⟨_,rfl,a,_,_,_,rfl,rfl,SqT.of h,a0,rfl,_,rfl,?_⟩
    refine ite2 (fun z=>absurd (V.str.inj (of_decide_eq_true z)) (by decide +kernel)) (fun _=>?_)
    try unfold tNext
    dsimp only
    refine ⟨_,rfl,a,_,_,_,rfl,rfl,SqT.of h,a0,rfl,_,rfl,?_⟩
    refine ite2 (fun _=>?_) (fun z=>absurd (decide_eq_true rfl) z)
    refine ⟨_,rfl,a,_,_,_,rfl,rfl,SqT.of h,a1,_,rfl,a,_,_,_,rfl,rfl,SqT.of h,a2,v',r,rfl,tr',ok.2,by lia,fun pv H1 s1 pl1=>?_⟩
    intro o dx ho hdx dn
    have s2:Same H1 (upd (upd H1 dx (.own o)) o (.ins C.d dx [])):=(Same.new hdx).trans (Same.new (by rw [Zak dn.symm]; exact ho))
    have e2:(upd (upd H1 dx (.own o)) o (.ins C.d dx [])) o=some (.ins C.d dx []):=Zac
    generalize (upd (upd H1 dx (.own o)) o (.ins C.d dx []))=H2 at s2 e2 ⊢
    refine ⟨o,dx,d,pv,rfl,e2,fun H3 k3 e3=>⟨rfl,?_⟩⟩
    have s13:Same H1 H3:=fun c u e=>k3 c u (s2 _ _ e) (Zah e ho)
    exact q (.ref o) H3 (s1.trans s13) ⟨o,dx,pv,rfl,e3,pl1.same s13⟩
   | lk l ws=>
    obtain ⟨a,u,us,e,h,hu,tr'⟩:=tr
    cases e
    have a0:atI [V.str (Str.ofString "look"),.str l,.ref u] ((0:Nat):Int)=some (.str (Str.ofString "look")):=Zai rfl
    have a1:atI [V.str (Str.ofString "look"),.str l,.ref u] ((1:Nat):Int)=some (.str l):=Zai rfl
    have a2:atI [V.str (Str.ofString "look"),.str l,.ref u] ((2:Nat):Int)=some (.ref u):=Zai rfl
    have hh':htP ws + 1 ≤ n + 1:=hn
    refine ⟨_,rfl,a,_,_,_,rfl,rfl,SqT.of h,a0,rfl,_,rfl,?_⟩
    refine ite2 (fun z=>absurd (V.str.inj (of_decide_eq_true z)) (by decide +kernel)) (fun _=>?_)
    try unfold tNext
    dsimp only
    refine ⟨_,rfl,a,_,_,_,rfl,rfl,SqT.of h,a0,rfl,_,rfl,?_⟩
    refine ite2 (fun z=>absurd (V.str.inj (of_decide_eq_true z)) (by decide +kernel)) (fun _=>?_)
    try unfold tNext
    dsimp only
    have okw:=ok.2.2.2
    have zt:=Zfn (n:=n) (m:=wtP ws) okw.wk (by lia) (Nat.le_refl _) tr'
    have l1:=zt.len
    have l2:=Zkp ws
    have l3:=ok.2.2.1.2
    refine ⟨_,rfl,a,_,_,_,rfl,rfl,SqT.of h,a1,_,rfl,a,_,_,_,rfl,rfl,SqT.of h,a2,u,rfl,⟨_,SqL.of hu⟩,fun D hD=>?_⟩
    refine lcJ (n:=us.length) (fun i ys H4=>PlAt C H4 (ofL ((wyL ws).take i) .nil) ys∧ys.length=i∧Same H H4∧H4 D=some (.lst ys)) ⟨rfl,rfl,Same.new hD,Zac⟩
     (fun i ys H4 hi hh0=>by obtain ⟨_,_,s4,_⟩:=hh0; exact ⟨_,us[i],SqL.of (s4 _ _ hu),by simp [hi]⟩) (fun ys H4 hh0=>by obtain ⟨_,_,s4,_⟩:=hh0; exact ⟨_,SqL.of (s4 _ _ hu),by simp⟩) ?_ ?_
    ·rintro i ys HZ y H4 hi ⟨pl4,yl,s4,e4⟩ ⟨rfl,hy⟩
     refine Zch ?_
     obtain ⟨x,hx,t',v',rfl,ht',trx,_,_,hnx,_⟩:=(zt.mono (WtV.same s4)).at (hy _ (SqL.of (s4 _ _ hu)))
     obtain ⟨_,okx⟩:=Zko okw x (List.mem_of_getElem? hx)
     have b0:atI [V.str x.1,v'] ((0:Nat):Int)=some (.str x.1):=Zai rfl
     have b1:atI [V.str x.1,v'] ((1:Nat):Int)=some v':=Zai rfl
     refine ⟨_,rfl,t',_,_,_,rfl,rfl,SqT.of ht',b0,_,rfl,t',_,_,_,rfl,rfl,SqT.of ht',b1,v',x.2,rfl,trx,okx,hnx,fun pv H5 s5 pl5=>?_⟩
     refine ⟨by show 2 ≤ sizeLine; lia,fun tp htp=>?_⟩
     have s6:Same H5 (upd H5 tp (.tup [.str x.1,pv])):=Same.new htp
     have e6:(upd H5 tp (.tup [.str x.1,pv])) tp=some (.tup [.str x.1,pv]):=Zac
     generalize (upd H5 tp (.tup [.str x.1,pv]))=H6 at s6 e6 ⊢
     have s46:=s5.trans s6
     have eD:=s46 _ _ e4
     obtain ⟨hi2,ex⟩:=List.getElem?_eq_some_iff.mp hx
     refine ⟨_,eD,by lia,?_,by rw [List.length_append,yl]; rfl,(s4.trans s46).put hD,Zac⟩
     have kD:∀ c u,H6 c=some u→c ≠ D→(upd H6 D (.lst (ys ++ [.ref tp]))) c=some u:=fun c u e hc=>by rw [Zak hc]; exact e
     rw [List.take_succ_eq_append_getElem hi2,ex]
     exact PlAt.put (a:=x.1) (p:=x.2) (kD _ _ e6 (Za5 e6 eD (by intro z; cases z))) ((pl5.same s6).kx kD eD) ((pl4.same s46).kx kD eD)
    rintro ys H4 ⟨pl4,yl,s4,e4⟩
    rw [l1,List.take_length,Zle okw] at pl4
    have hw:isW ws:=by
     have:∀ {ws:Pn},okP false ws→isW ws:=fun {ws}=>by
      induction ws with
      | nil=>exact fun _=>trivial
      | way a p r _ ih=>exact fun h=>ih h.2.2
      | stop=>exact fun h=>h.elim
      | dd _ _ _=>exact fun h=>h.elim
      | lk _ _ _=>exact fun h=>h.elim
     exact this okw
    intro o dx ho hdx dn
    have s5:Same H4 (upd (upd H4 dx (.own o)) o (.ins C.l dx [])):=(Same.new hdx).trans (Same.new (by rw [Zak dn.symm]; exact ho))
    have e5:(upd (upd H4 dx (.own o)) o (.ins C.l dx [])) o=some (.ins C.l dx []):=Zac
    generalize (upd (upd H4 dx (.own o)) o (.ins C.l dx []))=H5 at s5 e5 ⊢
    refine ⟨o,dx,D,l,ys,anP ws,rfl,e5,s5 _ _ e4,(pl4.same s5).wy hw,an_ne hw ok.2.1,ok.2.2.1.1,ok.2.2.1.2,fun tw H6 k6 e6 etw=>⟨rfl,?_⟩⟩
    have s46:Same H4 H6:=fun c u e=>k6 c u (s5 _ _ e) (Zah e ho)
    exact q (.ref o) H6 (s4.trans s46) ⟨o,dx,tw,ys,rfl,e6,etw,pl4.same s46⟩
theorem Ziq {f:Addr} {fd:FuncData} (F:Fun K "_law_depth" "_law_depth" Zc9 f fd) (T:Bl mg) (D_l_depth:Df K mg "_law_depth" Zc9 Zgp f fd):∀ n:Nat,FnOk P w K mg base CX0 (1 + n) f fd Zgp (spDepthL n)
 | 0=>Ze7 fun vs H Q E h=>by
  obtain ⟨v,t,_,_,ok,h0,_⟩:=h
  have:=Zhd ok.wk
  lia
 | n + 1=>by
  have G_l_depth:=Ziq F T D_l_depth n
  refine F.ok (k:=1 + n) scLDepth (fun vs H Q E h=>?_) (fun cdv A outer s H vs Q E hrE h=>?_)
  ·obtain ⟨v,t,rfl,_⟩:=h
   rfl
  ·obtain ⟨v,t,rfl,tr,ok,hn,q⟩:=h
   have hsl:sizeLine=16777216:=sizeLine_eq
   refine ⟨_,(Zae (Zbc (Zav Zdr (Zap Zar (pv 0) Zaf (fun _ _=>rfl)) Za1 (Za0 _)) (Zag (Zan Zaf)) Zau)
   (Zae (Zbc (Zav Zdr (Zap Zar (pv 0) Zaf (fun _ _=>rfl)) Za1 (Za0 _)) (Zag (Zan (Zaz Zbv Zaf (Zaj G_l_depth hrE (by rfl) D_l_depth.m D_l_depth.F.kp D_l_depth.b .nil Zaw (Zaa (Zap Zar (pv 0) Zaf (fun _ _=>rfl)) Zad))))) Zau)
   (Zag (Zan (Zaz Zbv Zaf (Zat (Zi4 rfl) (by rfl) T.max Zl3 (Zaa (Zel (N:=["_law_way"]) (sc:=Zab Zc9) (own:=["_law_way"]) (fr:=[]) (js:=[]) ⟨rfl,rfl,rfl,rfl,by decide +kernel,by decide +kernel,by decide +kernel,rfl,by decide +kernel⟩ rfl (Zbd (Zap Zar (pv 0) Zaf (fun _ _=>rfl))) (fun _ _ _ _=>Zaq (i:=0) (show List.Nodup (["_law_way"]:List Str) by decide +kernel) rfl (Or.inl rfl)) (fun _ _ _ _=>Zbm) (fun _ _ _ _=>(Zaj G_l_depth hrE (by rfl) D_l_depth.m D_l_depth.F.kp D_l_depth.b .nil Zaw (Zaa (Zap (Zdb K rfl) (pv 0) Zaf (fun _ _=>rfl)) Zad)))) Zad))))))),?_⟩
   cases t with
   | nil=>exact ok.elim
   | way _ _ _=>exact ok.elim
   | stop=>
    obtain ⟨a,e,h⟩:=tr
    cases e
    refine ⟨_,rfl,a,_,_,_,rfl,rfl,SqT.of h,Zai (j:=0) (v:=V.str tStop) rfl,rfl,_,rfl,?_⟩
    refine ite2 (fun _=>?_) (fun z=>absurd (decide_eq_true rfl) z)
    have:=q H (Same.refl _)
    rw [smP] at this
    exact this
   | dd d r=>
    obtain ⟨a,v',e,h,tr'⟩:=tr
    cases e
    have a0:atI [V.str (Str.ofString "do"),.str d,v'] ((0:Nat):Int)=some (.str (Str.ofString "do")):=Zai rfl
    have a2:atI [V.str (Str.ofString "do"),.str d,v'] ((2:Nat):Int)=some v':=Zai rfl
    have hh':htP r + 1 ≤ n + 1:=hn
    refine ⟨_,rfl,a,_,_,_,rfl,rfl,SqT.of h,a0,rfl,_,rfl,?_⟩
    refine ite2 (fun z=>absurd (V.str.inj (of_decide_eq_true z)) (by decide +kernel)) (fun _=>?_)
    try unfold tNext
    dsimp only
    refine ⟨_,rfl,a,_,_,_,rfl,rfl,SqT.of h,a0,rfl,_,rfl,?_⟩
    refine ite2 (fun _=>?_) (fun z=>absurd (decide_eq_true rfl) z)
    refine ⟨_,rfl,a,_,_,_,rfl,rfl,SqT.of h,a2,v',r,rfl,tr',ok.2,by lia,fun H1 s1=>⟨_,_,rfl,rfl,?_⟩⟩
    have h1:=q H1 s1
    have h2:=(Zkz Zmd r true 0 ok.2 (Int.le_refl _)).1
    rw [smP,Int.max_eq_right h2] at h1
    exact h1
   | lk l ws=>
    obtain ⟨a,u,us,e,h,hu,tr'⟩:=tr
    cases e
    have a0:atI [V.str (Str.ofString "look"),.str l,.ref u] ((0:Nat):Int)=some (.str (Str.ofString "look")):=Zai rfl
    have a2:atI [V.str (Str.ofString "look"),.str l,.ref u] ((2:Nat):Int)=some (.ref u):=Zai rfl
    have hh':htP ws + 1 ≤ n + 1:=hn
    refine ⟨_,rfl,a,_,_,_,rfl,rfl,SqT.of h,a0,rfl,_,rfl,?_⟩
    refine ite2 (fun z=>absurd (V.str.inj (of_decide_eq_true z)) (by decide +kernel)) (fun _=>?_)
    try unfold tNext
    dsimp only
    refine ⟨_,rfl,a,_,_,_,rfl,rfl,SqT.of h,a0,rfl,_,rfl,?_⟩
    refine ite2 (fun z=>absurd (V.str.inj (of_decide_eq_true z)) (by decide +kernel)) (fun _=>?_)
    try unfold tNext
    dsimp only
    have okw:=ok.2.2.2
    have zt:=Zfn (n:=n) (m:=wtP ws) okw.wk (by lia) (Nat.le_refl _) tr'
    have l1:=zt.len
    have l2:=Zkp ws
    have l3:=ok.2.2.1.2
    have l4:=Zm3 okw ok.2.1
    refine ⟨_,rfl,a,_,_,_,rfl,rfl,SqT.of h,a2,u,rfl,⟨_,SqL.of hu⟩,fun D hD=>?_⟩
    refine lcJ (n:=us.length) (fun i ys H4=>ys=(((wyL ws).take i).map fun y=>smP stF y.2).map V.int∧Same H H4∧H4 D=some (.lst ys)) ⟨rfl,Same.new hD,Zac⟩
     (fun i ys H4 hi hh0=>by obtain ⟨_,s4,_⟩:=hh0; exact ⟨_,us[i],SqL.of (s4 _ _ hu),by simp [hi]⟩) (fun ys H4 hh0=>by obtain ⟨_,s4,_⟩:=hh0; exact ⟨_,SqL.of (s4 _ _ hu),by simp⟩) ?_ ?_
    ·rintro i ys HZ y H4 hi ⟨rfl,s4,e4⟩ ⟨rfl,hy⟩
     refine Zch ?_
     obtain ⟨x,hx,t',v',rfl,ht',trx,_,_,hnx,_⟩:=(zt.mono (WtV.same s4)).at (hy _ (SqL.of (s4 _ _ hu)))
     obtain ⟨_,okx⟩:=Zko okw x (List.mem_of_getElem? hx)
     have b1:atI [V.str x.1,v'] ((1:Nat):Int)=some v':=Zai rfl
     obtain ⟨hi2,ex⟩:=List.getElem?_eq_some_iff.mp hx
     refine ⟨_,rfl,t',_,_,_,rfl,rfl,SqT.of ht',b1,v',x.2,rfl,trx,okx,hnx,fun H5 s5=>?_⟩
     refine ⟨_,s5 _ _ e4,by simp only [List.length_map,List.length_take]; lia,?_,(s4.trans s5).put hD,Zac⟩
     rw [List.take_succ_eq_append_getElem hi2,List.map_append,List.map_append,ex]
     rfl
    rintro ys H4 ⟨rfl,s4,e4⟩
    rw [l1,List.take_length] at e4
    refine ⟨D,_,rfl,SqL.of e4,by rw [List.length_map]; exact l4,fun M m1 m2=>⟨_,_,rfl,rfl,?_⟩⟩
    have h1:=q H4 s4
    rw [smP,mx_is Zmd okw m1 m2] at h1
    exact h1
theorem Zj4 {f:Addr} {fd:FuncData} (F:Fun K "_law_cost" "_law_cost" Zer f fd) (T:Bl mg) (D_l_cost:Df K mg "_law_cost" Zer Zim f fd):∀ n:Nat,FnOk P w K mg base CX0 (1 + n) f fd Zim (spCostL n)
 | 0=>Ze7 fun vs H Q E h=>by
  obtain ⟨v,t,_,_,_,_,_,_,_,ok,h0,_⟩:=h
  have:=Zhd ok.wk
  lia
 | n + 1=>by
  have G_l_cost:=Zj4 F T D_l_cost n
  refine F.ok (k:=1 + n) scLCost (fun vs H Q E h=>?_) (fun cdv A outer s H vs Q E hrO h=>?_)
  ·obtain ⟨v,t,pd,kvs,DD,LL,pr,rfl,_⟩:=h
   rfl
  ·obtain ⟨v,t,pd,kvs,DD,LL,pr,rfl,tr,ok,hn,im,hpd,hkv,pnn,q⟩:=h
   have hu0:=Zgz hrO
   have hu:=hu0
   have hsl:sizeLine=16777216:=sizeLine_eq
   refine ⟨_,(Zae (Zbc (Zav Zdr (Zap Zar (pv 0) Zaf (fun _ _=>rfl)) Za1 (Za0 _)) (Zag (Zan Zaf)) Zau)
   (Zae (Zbc (Zav Zdr (Zap Zar (pv 0) Zaf (fun _ _=>rfl)) Za1 (Za0 _)) (Zag (Zan (Zaz Zbv (Zgh hu (pv 1) (Zap Zar (pv 0) Zaf (fun _ _=>rfl)) (fun _ _=>rfl)) (Zaj G_l_cost hrO (by rfl) D_l_cost.m D_l_cost.F.kp D_l_cost.b .nil Zaw (Zaa (Zap Zar (pv 0) Zaf (fun _ _=>rfl)) (Zaa (pv 1) Zad)))))) Zau)
   (Zag (Zan (Zaz Zbv (Zgh hu (pv 1) (Zap Zar (pv 0) Zaf (fun _ _=>rfl)) (fun _ _=>rfl)) (Zat (Zi4 rfl) (by rfl) T.max Zl3 (Zaa (Zel (N:=["_law_way", "_law_prices_here"]) (sc:=Zab Zer) (own:=["_law_way"]) (fr:=["_law_prices_here"]) (js:=[1]) ⟨rfl,rfl,rfl,rfl,by decide +kernel,by decide +kernel,by decide +kernel,rfl,by decide +kernel⟩ rfl (Zbd (Zap Zar (pv 0) Zaf (fun _ _=>rfl))) (fun _ _ _ _=>Zaq (i:=0) (show List.Nodup (["_law_way", "_law_prices_here"]:List Str) by decide +kernel) rfl (Or.inl rfl)) (fun _ _ _ _=>Zbm) (fun _ _ _ _=>(Zaj G_l_cost hrO (by rfl) D_l_cost.m D_l_cost.F.kp D_l_cost.b .nil Zaw (Zaa (Zap (Zdb K rfl) (pv 0) Zaf (fun _ _=>rfl)) (Zaa (pv 1) Zad))))) Zad))))))),?_⟩
   cases t with
   | nil=>exact ok.elim
   | way _ _ _=>exact ok.elim
   | stop=>
    obtain ⟨a,e,h⟩:=tr
    cases e
    refine ⟨_,rfl,a,_,_,_,rfl,rfl,SqT.of h,Zai (j:=0) (v:=V.str tStop) rfl,rfl,_,rfl,?_⟩
    refine ite2 (fun _=>?_) (fun z=>absurd (decide_eq_true rfl) z)
    have:=q H (Same.refl _)
    rw [smP] at this
    exact this
   | dd d r=>
    obtain ⟨a,v',e,h,tr'⟩:=tr
    cases e
    have a0:atI [V.str (Str.ofString "do"),.str d,v'] ((0:Nat):Int)=some (.str (Str.ofString "do")):=Zai rfl
    have a1:atI [V.str (Str.ofString "do"),.str d,v'] ((1:Nat):Int)=some (.str d):=Zai rfl
    have a2:atI [V.str (Str.ofString "do"),.str d,v'] ((2:Nat):Int)=some v':=Zai rfl
    have dg:DGet H pd (.str d) (some (.int (pr d))):=.inl ⟨kvs,(Sum.inr d:Key),.inl hpd,rfl,(hkv d (List.mem_append_left _ im.1)).symm⟩
    have hh':htP r + 1 ≤ n + 1:=hn
    refine ⟨_,rfl,a,_,_,_,rfl,rfl,SqT.of h,a0,rfl,_,rfl,?_⟩
    refine ite2 (fun z=>absurd (V.str.inj (of_decide_eq_true z)) (by decide +kernel)) (fun _=>?_)
    try unfold tNext
    dsimp only
    refine ⟨_,rfl,a,_,_,_,rfl,rfl,SqT.of h,a0,rfl,_,rfl,?_⟩
    refine ite2 (fun _=>?_) (fun z=>absurd (decide_eq_true rfl) z)
    refine ⟨_,rfl,_,rfl,a,_,_,_,rfl,rfl,SqT.of h,a1,pd,_,rfl,dg,?_⟩
    refine ⟨_,rfl,a,_,_,_,rfl,rfl,SqT.of h,a2,_,rfl,v',r,pd,kvs,DD,LL,pr,rfl,tr',ok.2,by lia,im.2,hpd,hkv,pnn,fun H1 s1=>⟨_,_,rfl,rfl,?_⟩⟩
    have h1:=q H1 s1
    have h2:=(Zkz (Zml pnn) r true 0 ok.2 (Int.le_refl _)).1
    rw [smP,Int.max_eq_right h2] at h1
    exact h1
   | lk l ws=>
    obtain ⟨a,u,us,e,h,hul,tr'⟩:=tr
    cases e
    have a0:atI [V.str (Str.ofString "look"),.str l,.ref u] ((0:Nat):Int)=some (.str (Str.ofString "look")):=Zai rfl
    have a1:atI [V.str (Str.ofString "look"),.str l,.ref u] ((1:Nat):Int)=some (.str l):=Zai rfl
    have a2:atI [V.str (Str.ofString "look"),.str l,.ref u] ((2:Nat):Int)=some (.ref u):=Zai rfl
    have dg:DGet H pd (.str l) (some (.int (pr l))):=.inl ⟨kvs,(Sum.inr l:Key),.inl hpd,rfl,(hkv l (List.mem_append_right _ im.1)).symm⟩
    have hh':htP ws + 1 ≤ n + 1:=hn
    refine ⟨_,rfl,a,_,_,_,rfl,rfl,SqT.of h,a0,rfl,_,rfl,?_⟩
    refine ite2 (fun z=>absurd (V.str.inj (of_decide_eq_true z)) (by decide +kernel)) (fun _=>?_)
    try unfold tNext
    dsimp only
    refine ⟨_,rfl,a,_,_,_,rfl,rfl,SqT.of h,a0,rfl,_,rfl,?_⟩
    refine ite2 (fun z=>absurd (V.str.inj (of_decide_eq_true z)) (by decide +kernel)) (fun _=>?_)
    try unfold tNext
    dsimp only
    have okw:=ok.2.2.2
    have zt:=Zfn (n:=n) (m:=wtP ws) okw.wk (by lia) (Nat.le_refl _) tr'
    have l1:=zt.len
    have l2:=Zkp ws
    have l3:=ok.2.2.1.2
    have l4:=Zm3 okw ok.2.1
    refine ⟨_,rfl,_,rfl,a,_,_,_,rfl,rfl,SqT.of h,a1,pd,_,rfl,dg,?_⟩
    refine ⟨_,rfl,a,_,_,_,rfl,rfl,SqT.of h,a2,u,rfl,⟨_,SqL.of hul⟩,fun D hD=>?_⟩
    refine lcJ (n:=us.length) (fun i ys H4=>ys=(((wyL ws).take i).map fun y=>smP (prF pr) y.2).map V.int∧Same H H4∧H4 D=some (.lst ys)) ⟨rfl,Same.new hD,Zac⟩
     (fun i ys H4 hi hh0=>by obtain ⟨_,s4,_⟩:=hh0; exact ⟨_,us[i],SqL.of (s4 _ _ hul),by simp [hi]⟩) (fun ys H4 hh0=>by obtain ⟨_,s4,_⟩:=hh0; exact ⟨_,SqL.of (s4 _ _ hul),by simp⟩) ?_ ?_
    ·rintro i ys HZ y H4 hi ⟨rfl,s4,e4⟩ ⟨rfl,hy⟩
     refine Zch ?_
     obtain ⟨x,hx,t',v',rfl,ht',trx,_,_,hnx,_⟩:=(zt.mono (WtV.same s4)).at (hy _ (SqL.of (s4 _ _ hul)))
     obtain ⟨_,okx⟩:=Zko okw x (List.mem_of_getElem? hx)
     have b1:atI [V.str x.1,v'] ((1:Nat):Int)=some v':=Zai rfl
     obtain ⟨hi2,ex⟩:=List.getElem?_eq_some_iff.mp hx
     refine ⟨_,rfl,t',_,_,_,rfl,rfl,SqT.of ht',b1,_,rfl,v',x.2,pd,kvs,DD,LL,pr,rfl,trx,okx,hnx,wy_in okw im.2 x (List.mem_of_getElem? hx),s4 _ _ hpd,hkv,pnn,fun H5 s5=>?_⟩
     refine ⟨_,s5 _ _ e4,by simp only [List.length_map,List.length_take]; lia,?_,(s4.trans s5).put hD,Zac⟩
     rw [List.take_succ_eq_append_getElem hi2,List.map_append,List.map_append,ex]
     rfl
    rintro ys H4 ⟨rfl,s4,e4⟩
    rw [l1,List.take_length] at e4
    refine ⟨D,_,rfl,SqL.of e4,by rw [List.length_map]; exact l4,fun M m1 m2=>⟨_,_,rfl,rfl,?_⟩⟩
    have h1:=q H4 s4
    rw [smP,mx_is (Zml pnn) okw m1 m2] at h1
    exact h1
noncomputable def GoV (kvs:List (Key × V)) (x:Str):Prop:=∃ n:Int,valV kvs (Sum.inr x:Key)=some (.int n)∧1 ≤ n∧n ≤ 1000000000
theorem GoV.put {kvs:List (Key × V)} {x y:Str} {r:Int} (h:GoV kvs x ∨ x=y) (h1:1 ≤ r) (h2:r ≤ 1000000000):GoV (putK kvs (Sum.inr y:Key) (.int r)) x:=by
 unfold GoV
 rw [valV_put]
 by_cases e:(Sum.inr x:Key)=Sum.inr y
 ·rw [if_pos e]
  exact ⟨r,rfl,h1,h2⟩
 ·rw [if_neg e]
  rcases h with h | h
  ·exact h
  ·exact absurd (by rw [h]) e
noncomputable def prK (kvs:List (Key × V)) (x:Str):Int:=match valV kvs (Sum.inr x:Key) with
 | some (.int i)=>max 0 i
 | _=>0
theorem prK_nn (kvs:List (Key × V)) (x:Str):0 ≤ prK kvs x:=by
 unfold prK
 split
 ·exact Int.le_max_left ..
 ·exact Int.le_refl _
theorem Zmk {kvs:List (Key × V)} {x:Str} (h:GoV kvs x):valV kvs (Sum.inr x:Key)=some (.int (prK kvs x))∧1 ≤ prK kvs x∧prK kvs x ≤ 1000000000:=by
 obtain ⟨n,e,h1,h2⟩:=h
 have e2:prK kvs x=n:=by
  unfold prK
  rw [e]
  exact Int.max_eq_right (by lia)
 rw [e2]
 exact ⟨e,h1,h2⟩
inductive spPrices (K:PySem.W.Frag) (vs:List V) (H:Hp) (Q:VK) (E0_:XK):Prop
 | mk (a:Addr) (ns:List Int) (t:Addr) (D L A:List Str) (c0:vs=[.ref a,.ref t]) (c1:SqL K H a (ns.map V.int)) (c2:ns.length ≤ 63) (c3:Nm H t D L A) (c4:∀ (pd:Addr) (kvs:List (Key × V)) (pr:Str→Int) (H':Hp),Same H H'→H' pd=some (.dK kvs)→(∀ x ∈ D ++ L,valV kvs (Sum.inr x:Key)=some (.int (pr x)))→(∀ x,0 ≤ pr x)→(∀ x ∈ D ++ L,1 ≤ pr x∧pr x ≤ 1000000000)→Q (.ref pd) H'):spPrices K vs H Q E0_
noncomputable abbrev Zf8:List Str:=["_law_script", "_law_words_here"]
noncomputable abbrev nLPrices:List Str:=["_law_script", "_law_words_here", "_law_prices_here", "_law_k"]
theorem scLPrices:FnScope nLPrices Zf8 (Zab Zc4):=⟨rfl,rfl,rfl,by decide +kernel,rfl,by decide +kernel,by decide +kernel⟩
theorem ok_prices {f f1:Addr} {fd d1:FuncData} (F:Fun K "_law_prices" "_law_prices" Zc4 f fd) (T:Bl mg) (D_l_price:Df K mg "_law_price" Zdz Zhy f1 d1) (G_l_price:FnOk P w K mg base CX0 3 f1 d1 Zhy (spPrice K)):FnOk P w K mg base CX0 4 f fd Zf8 (spPrices K):=by
 refine F.ok scLPrices (fun vs H Q E h=>?_) (fun cdv A outer s H vs Q E hr3 h=>?_)
 ·obtain ⟨a,ns,t,D,L,A,rfl,_⟩:=h
  rfl
 ·obtain ⟨a,ns,t,D,L,A',rfl,hS,hn,nm,q⟩:=h
  have hu:=Zgz hr3
  have hsl:sizeLine=16777216:=sizeLine_eq
  obtain ⟨dl,ll,al,ht,hdl,hll,hal⟩:=nm.got
  have t0:atI [V.ref dl,.ref ll,.ref al] ((0:Nat):Int)=some (.ref dl):=Zai rfl
  have t1:atI [V.ref dl,.ref ll,.ref al] ((1:Nat):Int)=some (.ref ll):=Zai rfl
  have n3:=nm.d3
  have n2:=nm.l2
  refine ⟨_,(Zae (Zax (i:=2) scLPrices.nd rfl (Or.inl rfl) Zfb)
   (Zae (Zcc PassesOwn.never rfl (Zcg (by rfl) T.range (Zaa Zaf Zad)) (Zaq (i:=3) scLPrices.nd rfl (Or.inl rfl))
    (Zag (Ze4 hu (pv 2) (Zap Za4 (Zap Zar (pv 1) Zaf (fun _ _=>rfl)) (pv 3) (fun _ _=>rfl)) (Zaj G_l_price hr3 (by rfl) D_l_price.m D_l_price.F.kp D_l_price.b .nil Zaw (Zaa (pv 0) (Zaa (Zaz Zbv Zaf (pv 3)) Zad))) rfl)))
   (Zae (Zcc PassesOwn.never rfl (Zcg (by rfl) T.range (Zaa Zaf Zad)) (Zaq (i:=3) scLPrices.nd rfl (Or.inl rfl))
    (Zag (Ze4 hu (pv 2) (Zap Za4 (Zap Zar (pv 1) Zaf (fun _ _=>rfl)) (pv 3) (fun _ _=>rfl)) (Zaj G_l_price hr3 (by rfl) D_l_price.m D_l_price.F.kp D_l_price.b .nil Zaw (Zaa (pv 0) (Zaa (Zaz Zbv Zaf (pv 3)) Zad))) rfl)))
   (Zag (Zan (pv 2)))))),?_⟩
  intro pd hpd
  have s0:Same H (upd H pd (.dK [])):=Same.new hpd
  have e0:(upd H pd (.dK [])) pd=some (.dK []):=Zac
  generalize (upd H pd (.dK []))=H0 at s0 e0 ⊢
  refine ⟨_,rfl,by decide,by decide,Zc2 (n:=3) (fun i σ H2=>∃ (v3:Option V) (kvs:List (Key × V)),σ = [some (.ref a),some (.ref t),some (.ref pd),v3]∧Same H H2∧H2 pd=some (.dK kvs)∧kvs.length ≤ i∧∀ x ∈ D.take i,GoV kvs x)
   ⟨none,[],rfl,s0,e0,Nat.le_refl _,fun _ h=>nomatch h⟩ ?_ ?_⟩
  ·rintro i σ H2 hi ⟨v3,kvs,rfl,s2,e2,kl,kg⟩
   have hi':i < 3:=hi
   obtain ⟨g1,g2⟩:=Ze6 (A:=D) (i:=i) (by lia)
   have ei:D.getD i Str.empty=D[i]:=by rw [List.getD_eq_getElem?_getD,List.getElem?_eq_getElem (by lia)]; rfl
   have g1':atI (D.map V.str) (0 + (i:Int))=some (.str D[i]):=by rw [Int.zero_add,← ei]; exact g1
   refine ⟨_,rfl,_,rfl,_,_,rfl,rfl,a,ns,_,rfl,s2.seq hS,hn,by lia,by lia,fun r r1 r2=>?_⟩
   refine ⟨_,rfl,_,rfl,t,_,_,_,rfl,rfl,SqT.of (s2 _ _ ht),t0,_,rfl,dl,_,_,_,rfl,rfl,SqL.of (s2 _ _ hdl),g1',pd,_,rfl,DPut.k (k:=(Sum.inr D[i]:Key)) e2 (by lia),?_⟩
   have lk:=Zc1 kvs (Sum.inr D[i]:Key) (V.int r)
   refine ⟨_,_,rfl,s2.put hpd,Zac,by lia,fun x hx=>?_⟩
   rw [List.take_succ_eq_append_getElem (by lia)] at hx
   rcases (List.mem_append.mp hx) with z | z
   ·exact GoV.put (.inl (kg x z)) r1 r2
   ·exact GoV.put (.inr (List.mem_singleton.mp z)) r1 r2
  rintro σ H2 ⟨v3,kvs,rfl,s2,e2,kl,kg⟩
  rw [show D.take 3=D by rw [← n3,List.take_length]] at kg
  refine ⟨_,rfl,by decide,by decide,Zc2 (n:=2) (fun i σ H3=>∃ (v3:Option V) (kvs:List (Key × V)),σ = [some (.ref a),some (.ref t),some (.ref pd),v3]∧Same H H3∧H3 pd=some (.dK kvs)∧kvs.length ≤ 3 + i∧∀ x ∈ D ++ L.take i,GoV kvs x)
   ⟨v3,kvs,rfl,s2,e2,kl,fun x hx=>kg x (by rw [List.take_zero,List.append_nil] at hx; exact hx)⟩ ?_ ?_⟩
  ·rintro i σ H3 hi ⟨v3,kvs,rfl,s3,e3,kl,kg⟩
   have hi':i < 2:=hi
   obtain ⟨g1,g2⟩:=Ze6 (A:=L) (i:=i) (by lia)
   have ei:L.getD i Str.empty=L[i]:=by rw [List.getD_eq_getElem?_getD,List.getElem?_eq_getElem (by lia)]; rfl
   have g1':atI (L.map V.str) (0 + (i:Int))=some (.str L[i]):=by rw [Int.zero_add,← ei]; exact g1
   refine ⟨_,rfl,_,rfl,_,_,rfl,rfl,a,ns,_,rfl,s3.seq hS,hn,by lia,by lia,fun r r1 r2=>?_⟩
   refine ⟨_,rfl,_,rfl,t,_,_,_,rfl,rfl,SqT.of (s3 _ _ ht),t1,_,rfl,ll,_,_,_,rfl,rfl,SqL.of (s3 _ _ hll),g1',pd,_,rfl,DPut.k (k:=(Sum.inr L[i]:Key)) e3 (by lia),?_⟩
   have lk:=Zc1 kvs (Sum.inr L[i]:Key) (V.int r)
   refine ⟨_,_,rfl,s3.put hpd,Zac,by lia,fun x hx=>?_⟩
   rw [List.take_succ_eq_append_getElem (by lia),← List.append_assoc] at hx
   rcases (List.mem_append.mp hx) with z | z
   ·exact GoV.put (.inl (kg x z)) r1 r2
   ·exact GoV.put (.inr (List.mem_singleton.mp z)) r1 r2
  rintro σ H3 ⟨v3,kvs,rfl,s3,e3,kl,kg⟩
  rw [show L.take 2=L by rw [← n2,List.take_length]] at kg
  exact ⟨_,rfl,q pd kvs (prK kvs) H3 s3 e3 (fun x hx=>(Zmk (kg x hx)).1) (prK_nn kvs) fun x hx=>(Zmk (kg x hx)).2⟩
noncomputable abbrev tX:Str:=Str.ofString "x"
noncomputable def dE (pr:Str→Int) (n:Str):Dee:=⟨n,pr n,[[0]]⟩
noncomputable def lE (pr:Str→Int) (n:Str):Loo:=⟨n,pr n,[some tX]⟩
inductive spChartL (C:Addr) (vs:List V) (H:Hp) (Q:VK) (E0_:XK):Prop
 | mk (pd a b:Addr) (kvs:List (Key × V)) (As Bs:List Str) (pr:Str→Int) (c0:vs=[.ref pd,.ref a,.ref b]) (c1:H pd=some (.dK kvs)) (c2:H a=some (.lst (As.map V.str))) (c3:H b=some (.lst (Bs.map V.str))) (c4:(∀ x ∈ As ++ Bs,valV kvs (Sum.inr x:Key)=some (.int (pr x))∧1 ≤ pr x∧pr x ≤ 1000000000∧Lb x)) (c5:(As ++ Bs).Nodup) (c6:As.length ≤ 3) (c7:Bs.length ≤ 3) (c8:∀ (x:Addr) (H':Hp),Same H H'→ChAt C H' x 1 (As.map (dE pr)) (Bs.map (lE pr))→Q (.ref x) H'):spChartL C vs H Q E0_
noncomputable def VPb (C:C3) (CC NN:Addr) (a:Addr) (sp:Sp):Prop:=(a=C.s ∨ a=C.d ∨ a=C.l)∧sp=spPriceBy C CC NN
theorem pb_any {C:C3} {CC NN:Addr} {H:Hp} {t:Pn} {v:V} (h:PlAt C H t [v]) (ok:okP true t):∃ (a C' dx:Addr) (fs:List (Str × V)),v=.ref a∧H a=some (.ins C' dx fs)∧fs.lookup ("price_by" : Str)=none∧VPb C CC NN C' (spPriceBy C CC NN):=by
 cases t with
 | stop=>
  obtain ⟨o,dx,e,h⟩:=h
  cases e
  exact ⟨o,C.s,dx,[],rfl,h,rfl,.inl rfl,rfl⟩
 | dd d r=>
  obtain ⟨o,dx,v',e,h,pl⟩:=h
  cases e
  exact ⟨o,C.d,dx,_,rfl,h,rfl,.inr (.inl rfl),rfl⟩
 | lk l ws=>
  obtain ⟨o,dx,u,us,e,h,hu,pl⟩:=h
  cases e
  exact ⟨o,C.l,dx,_,rfl,h,rfl,.inr (.inr rfl),rfl⟩
 | nil=>exact ok.elim
 | way _ _ _=>exact ok.elim
inductive spNoPrice (C:C3) (CC:Addr) (vs:List V) (H:Hp) (Q:VK) (E0_:XK):Prop
 | mk (p:V) (x:Addr) (t:Pn) (m:Nat) (ds:List Dee) (ls:List Loo) (pr:Str→Int) (c0:vs=[p,.ref x]) (c1:PlAt C H t [p]) (c2:okP true t) (c3:wtP t ≤ 600) (c4:ChAt CC H x m ds ls) (c5:(ds.map Dee.name ++ ls.map Loo.name).Nodup) (c6:(∀ s ∈ Zbb ds ls,pr s.1=s.2)) (c7:(∃ y ∈ Zb0 t,¬ knR ds ls y.1)) (c8:∀ H':Hp,Same H H'→Q (.bl true) H'):spNoPrice C CC vs H Q E0_
inductive spTexts (vs:List V) (H:Hp) (Q:VK) (E0_:XK):Prop
 | mk (a b:Addr) (ys:List Str) (c0:vs=[.ref a,.ref b]) (c1:H a=some (.lst (ys.map V.str))) (c2:H b=some (.lst (ys.map V.str))) (c3:ys.length ≤ 1000) (c4:Q (.bl true) H):spTexts  vs H Q E0_
noncomputable abbrev Zfg:List Str:=["_law_plan_here", "_law_chart_here"]
noncomputable abbrev nLNoPrice:List Str:=["_law_plan_here", "_law_chart_here", "_law_refused"]
theorem scLNoPrice:FnScope nLNoPrice Zfg (Zab Zcp):=⟨rfl,rfl,rfl,by decide +kernel,rfl,by decide +kernel,by decide +kernel⟩
noncomputable abbrev Zhx:List Str:=["_law_told", "_law_lines_here"]
noncomputable abbrev nLTexts:List Str:=["_law_told", "_law_lines_here", "_law_k"]
theorem scLTexts:FnScope nLTexts Zhx (Zab Zdy):=⟨rfl,rfl,rfl,by decide +kernel,rfl,by decide +kernel,by decide +kernel⟩
theorem ok_texts {f:Addr} {fd:FuncData} (F:Fun K "_law_texts" "_law_texts" Zdy f fd) (T:Bl mg):FnOk P w K mg base CX0 1 f fd Zhx spTexts:=by
 refine F.ok scLTexts (fun vs H Q E h=>?_) (fun cdv A outer s H vs Q E hr h=>?_)
 ·obtain ⟨a,b,ys,rfl,_⟩:=h
  rfl
 ·obtain ⟨a,b,ys,rfl,ha,hb,yl,q⟩:=h
  have hsl:sizeLine=16777216:=sizeLine_eq
  have hml:(ys.map V.str).length=ys.length:=List.length_map ..
  refine ⟨_,(Zae (Zbc (PW.pt (Ze3 (Zb1 (Zci (Zat Zi6 (by rfl) T.isi Zdh (Zaa (pv 0) (Zaa (Zdl (v:=.ty "list") (by rfl) T.list Zd5 rfl) Zad))))) (Zdu (Zav Zf5 (Zat Zbf (by rfl) T.len PySem.boot_len (Zaa (pv 0) Zad)) (Zat Zbf (by rfl) T.len PySem.boot_len (Zaa (pv 1) Zad)) (Za0 _))))) (Zag (Zan Zd1)) Zau)
   (Zae (Zcc PassesOwn.never rfl (Zcg (by rfl) T.range (Zaa (Zat Zbf (by rfl) T.len PySem.boot_len (Zaa (pv 1) Zad)) Zad)) (Zaq (i:=2) scLTexts.nd rfl (Or.inl rfl))
    (Zag (Zbc (PW.pt (Ze3 (Zb1 (Zci (Zat Zfl (by rfl) T.isi Zdh (Zaa (Zap Za4 (pv 0) (pv 2) (fun _ _=>rfl)) (Zaa (Zdl (v:=.ty "str") (by rfl) T.str Zkm rfl) Zad))))) (Zdu (Zav Zf5 (Zap Za4 (pv 0) (pv 2) (fun _ _=>rfl)) (Zap Za4 (pv 1) (pv 2) (fun _ _=>rfl)) (Za0 _))))) (Zag (Zan Zd1)) Zau)))
   (Zag (Zan Zd1)))),?_⟩
  refine ⟨_,rfl,a,_,rfl,ha,_,rfl,?_⟩
  refine iteF ?_
  refine ⟨_,rfl,_,_,rfl,.inl ⟨_,SqL.of ha,rfl⟩,_,rfl,_,_,rfl,.inl ⟨_,SqL.of hb,rfl⟩,rfl,_,rfl,?_⟩
  refine ite2 (fun z=>(Zg2 z).elim) (fun _=>?_)
  try unfold tNext
  dsimp only
  refine ⟨_,rfl,_,_,rfl,.inl ⟨_,SqL.of hb,rfl⟩,_,rfl,by lia,by lia,Zc2 (n:=(ys.map V.str).length) (fun i σ H2=>∃ v2:Option V,σ = [some (.ref a),some (.ref b),v2]∧H=H2) ⟨none,rfl,rfl⟩ ?_ ?_⟩
  ·rintro i σ H2 hi ⟨v2,rfl,rfl⟩
   have hi':i < ys.length:=by rw [← hml]; exact hi
   have hat:atI (ys.map V.str) (0 + (i:Int))=some (.str ys[i]):=by
    rw [Int.zero_add]
    exact Zai (by rw [List.getElem?_map,List.getElem?_eq_getElem hi']; rfl)
   refine ⟨_,rfl,_,rfl,a,_,_,_,rfl,rfl,SqL.of ha,hat,_,rfl,_,rfl,?_⟩
   refine iteF ?_
   refine ⟨_,rfl,_,rfl,a,_,_,_,rfl,rfl,SqL.of ha,hat,_,rfl,_,rfl,b,_,_,_,rfl,rfl,SqL.of hb,hat,rfl,_,rfl,?_⟩
   refine ite2 (fun z=>(Zg2 z).elim) (fun _=>?_)
   exact ⟨_,rfl,rfl⟩
  ·rintro σ H2 ⟨v2,rfl,rfl⟩
   exact q
theorem ok_noprice {f G NN CC:Addr} {C:C3} {fd:FuncData} (F:Fun K "_law_no_price" "_law_no_price" Zcp f fd) (R':Er K mg G NN)
  (hV:∀ (A:PySem.Around),Room 4 A→∀ C' sp,VPb C CC NN C' sp→∃ (k:Nat) (f:Addr) (fd:FuncData) (ps:List Str),Cls K C'∧Meth K C' "price_by" f∧FnOk P w K mg base (CXe P w) k f fd ps sp∧Room k A∧Binds K fd ps []):FnOk P w K mg base CX0 5 f fd Zfg (spNoPrice C CC):=by
 refine F.ok scLNoPrice (fun vs H Q E h=>?_) (fun cdv A outer s H vs Q E hr4 h=>?_)
 ·obtain ⟨p,x,t,m,ds,ls,pr,rfl,_⟩:=h
  rfl
 ·obtain ⟨p,x,t,m,ds,ls,pr,rfl,pl,ok,wt,ch,nd,hpr,bad,q⟩:=h
  have hV_price_by:=hV _ hr4
  refine ⟨_,(Zae (Zax (i:=2) scLNoPrice.nd rfl (Or.inl rfl) Zd1)
   (Zae (ps_tryN (G:=NN) (nG := "ValueError.__new__") rfl rfl rfl R'.oN (by rfl) R'.mN (fun pn xe E' hx=>(Zag (Zbg (Zfa (pv 0) hV_price_by hx (Zaa (pv 1) Zad))))) (fun a=>(Zag (Zax (i:=2) scLNoPrice.nd rfl (Or.inl rfl) Zd1))))
   (Zag (Zan (pv 2))))),?_⟩
  obtain ⟨a,C',dx,fs,rfl,ha,hlk,hv⟩:=pb_any (CC:=CC) (NN:=NN) pl ok
  refine ⟨_,rfl,a,C',dx,fs,_,rfl,ha,hlk,hv,_,rfl,.ref a,x,t,m,ds,ls,pr,rfl,pl,ok,wt,ch,nd,hpr,.inr ⟨bad,fun b H' s' hb=>⟨b,rfl,rfl,fun _=>?_⟩⟩⟩
  exact ⟨_,rfl,q H' s'⟩
theorem ok_lchart {f C fI:Addr} {fd dI:FuncData} (F:Fun K "_law_chart" "_law_chart" Zda f fd) (MC:L2.Mk K C fI) (mC:mg "Chart" = some (.ref C)) (bI:Binds K dI ["self", "many", "deeds", "looks"] []) (GI:FnOk P w K mg base CX0 3 fI dI Zm6 (spInitC C)):FnOk P w K mg base CX0 5 f fd Zhz (spChartL C):=by
 refine F.ok scLChart (fun vs H Q E h=>?_) (fun cdv A outer s H vs Q E hr4 h=>?_)
 ·obtain ⟨pd,a,b,kvs,As,Bs,pr,rfl,_⟩:=h
  rfl
 ·obtain ⟨pd,a,b,kvs,As,Bs,pr,rfl,hpd,ha,hb,hx,nd,al,bl,q⟩:=h
  have hu:=Zgz hr4
  have hsl:sizeLine=16777216:=sizeLine_eq
  have hma:(As.map V.str).length=As.length:=List.length_map ..
  have hmb:(Bs.map V.str).length=Bs.length:=List.length_map ..
  refine ⟨_,(Zae (Zk8 (i:=3) (N:=["_law_name", "_law_prices_here"]) (sc:=Zab Zda) (own:=["_law_name"]) (fr:=["_law_prices_here"]) (js:=[0]) scLChart.nd rfl rfl ⟨rfl,rfl,rfl,rfl,by decide +kernel,by decide +kernel,by decide +kernel,rfl,by decide +kernel⟩ rfl (Zbd (pv 1)) (fun _ _ _ _=>Zaq (i:=0) (show List.Nodup (["_law_name", "_law_prices_here"]:List Str) by decide +kernel) rfl (Or.inl rfl)) (fun _ _ _ _=>Zbm) (fun _ _ _ _=>(Zbu (Zaa (pv 0) (Zaa (Zgh hu (pv 1) (pv 0) (fun _ _=>rfl)) (Zaa (Zc0 (Zaa (Zc0 (Zaa Zaf Zad)) Zad)) Zad))))))
   (Zag (Zan (Zhr MC GI hr4 (by rfl) mC bI .nil Zaw (Zaa Zaf (Zaa (pv 3) (Zaa (Zel (N:=["_law_name", "_law_prices_here"]) (sc:=Zab Zda) (own:=["_law_name"]) (fr:=["_law_prices_here"]) (js:=[0]) ⟨rfl,rfl,rfl,rfl,by decide +kernel,by decide +kernel,by decide +kernel,rfl,by decide +kernel⟩ rfl (Zbd (pv 2)) (fun _ _ _ _=>Zaq (i:=0) (show List.Nodup (["_law_name", "_law_prices_here"]:List Str) by decide +kernel) rfl (Or.inl rfl)) (fun _ _ _ _=>Zbm) (fun _ _ _ _=>(Zbu (Zaa (pv 0) (Zaa (Zgh hu (pv 1) (pv 0) (fun _ _=>rfl)) (Zaa (Zc0 (Zaa Za1 Zad)) Zad)))))) Zad))))))),?_⟩
  refine ⟨_,rfl,a,rfl,⟨_,SqL.of ha⟩,fun D hD=>?_⟩
  refine lcJ (n:=(As.map V.str).length) (fun i ys H4=>A2 (DeV (rm H4 [D])) ys ((As.take i).map (dE pr))∧Same H H4∧H4 D=some (.lst ys)) ⟨A2.nil,Same.new hD,Zac⟩
   (fun i ys H4 hi hh0=>by obtain ⟨_,s4,_⟩:=hh0; exact ⟨_,(As.map V.str)[i],SqL.of (s4 _ _ ha),by simp [hi]⟩) (fun ys H4 hh0=>by obtain ⟨_,s4,_⟩:=hh0; exact ⟨_,SqL.of (s4 _ _ ha),by simp⟩) ?_ ?_
  ·rintro i ys HZ y H4 hi ⟨ad,s4,e4⟩ ⟨rfl,hy⟩
   refine Zch ?_
   have hya:=hy _ (SqL.of (s4 _ _ ha))
   rw [List.getElem?_map] at hya
   obtain ⟨z,hz,rfl⟩:=Option.map_eq_some_iff.mp hya
   obtain ⟨hi2',ez⟩:=List.getElem?_eq_some_iff.mp hz
   obtain ⟨hv,_⟩:=hx z (List.mem_append_left _ (List.mem_of_getElem? hz))
   have hyl:=ad.len
   rw [List.length_map,List.length_take] at hyl
   have dg:DGet H4 pd (.str z) (some (.int (pr z))):=.inl ⟨kvs,(Sum.inr z:Key),.inl (s4 _ _ hpd),rfl,hv.symm⟩
   refine ⟨_,rfl,_,rfl,_,rfl,pd,_,rfl,dg,by show 1 ≤ sizeLine; lia,fun i1 hi1=>⟨by show 1 ≤ sizeLine; lia,fun i2 hi2=>⟨by show 3 ≤ sizeLine; lia,fun tp htp=>?_⟩⟩⟩
   have s5:Same H4 (upd H4 i1 (.lst [.int 0])):=Same.new hi1
   have e5:(upd H4 i1 (.lst [.int 0])) i1=some (.lst [.int 0]):=Zac
   generalize (upd H4 i1 (.lst [.int 0]))=H5 at s5 e5 hi2 htp ⊢
   have s6:Same H5 (upd H5 i2 (.lst [.ref i1])):=Same.new hi2
   have e6:(upd H5 i2 (.lst [.ref i1])) i2=some (.lst [.ref i1]):=Zac
   generalize (upd H5 i2 (.lst [.ref i1]))=H6 at s6 e6 htp ⊢
   have s7:Same H6 (upd H6 tp (.tup [.str z,.int (pr z),.ref i2])):=Same.new htp
   have e7:(upd H6 tp (.tup [.str z,.int (pr z),.ref i2])) tp=some (.tup [.str z,.int (pr z),.ref i2]):=Zac
   have tD:tp ≠ D:=(Zah (s6 _ _ (s5 _ _ e4)) htp).symm
   generalize (upd H6 tp (.tup [.str z,.int (pr z),.ref i2]))=H7 at s7 e7 ⊢
   have i1D:i1 ≠ D:=(Zah e4 hi1).symm
   have i2D:i2 ≠ D:=(Zah (s5 _ _ e4) hi2).symm
   have s47:=(s5.trans s6).trans s7
   refine ⟨_,s47 _ _ e4,by lia,?_,(s4.trans s47).put hD,Zac⟩
   rw [Zmh (by simp),List.take_succ_eq_append_getElem hi2',List.map_append,ez]
   have nD:∀ {c:Addr},c ≠ D→c ∉ [D]:=fun h z=>h (List.mem_singleton.mp z)
   refine A2.app (ad.mono fun v d _ r=>r.same (Zk4 s47)) (A2.one ⟨i2,[.ref i1],⟨tp,rfl,?_⟩,?_,A2.one ⟨i1,rfl,?_⟩⟩)
   ·rw [Zk5 (nD tD)]
    exact e7
   ·rw [Zk5 (nD i2D)]
    exact s7 _ _ e6
   ·rw [Zk5 (nD i1D)]
    exact s7 _ _ (s6 _ _ e5)
  rintro ys H4 ⟨ad,s4,e4⟩
  rw [hma,List.take_length] at ad
  have hyl:=ad.len
  rw [List.length_map] at hyl
  have ad4:A2 (DeV H4) ys (As.map (dE pr)):=ad.mono fun v d _ r=>r.same rm_le
  refine ⟨_,rfl,_,rfl,b,rfl,⟨_,SqL.of (s4 _ _ hb)⟩,fun D2 hD2=>?_⟩
  refine lcJ (n:=(Bs.map V.str).length) (fun i ws H5=>A2 (LoV (rm H5 [D2])) ws ((Bs.take i).map (lE pr))∧Same H4 H5∧H5 D2=some (.lst ws)) ⟨A2.nil,Same.new hD2,Zac⟩
   (fun i ws H5 hi hh0=>by obtain ⟨_,s5,_⟩:=hh0; exact ⟨_,(Bs.map V.str)[i],SqL.of (s5 _ _ (s4 _ _ hb)),by simp [hi]⟩) (fun ws H5 hh0=>by obtain ⟨_,s5,_⟩:=hh0; exact ⟨_,SqL.of (s5 _ _ (s4 _ _ hb)),by simp⟩) ?_ ?_
  ·rintro i ws HZ y H5 hi ⟨bd,s5,e5⟩ ⟨rfl,hy⟩
   refine Zch ?_
   have hya:=hy _ (SqL.of (s5 _ _ (s4 _ _ hb)))
   rw [List.getElem?_map] at hya
   obtain ⟨z,hz,rfl⟩:=Option.map_eq_some_iff.mp hya
   obtain ⟨hi2,ez⟩:=List.getElem?_eq_some_iff.mp hz
   obtain ⟨hv,_⟩:=hx z (List.mem_append_right _ (List.mem_of_getElem? hz))
   have hwl:=bd.len
   rw [List.length_map,List.length_take] at hwl
   have dg:DGet H5 pd (.str z) (some (.int (pr z))):=.inl ⟨kvs,(Sum.inr z:Key),.inl (s5 _ _ (s4 _ _ hpd)),rfl,hv.symm⟩
   refine ⟨_,rfl,_,rfl,_,rfl,pd,_,rfl,dg,by show 1 ≤ sizeLine; lia,fun i1 hi1=>⟨by show 3 ≤ sizeLine; lia,fun tp htp=>?_⟩⟩
   have s6:Same H5 (upd H5 i1 (.lst [.str tX])):=Same.new hi1
   have e6:(upd H5 i1 (.lst [.str tX])) i1=some (.lst [.str tX]):=Zac
   generalize (upd H5 i1 (.lst [.str tX]))=H6 at s6 e6 htp ⊢
   have s7:Same H6 (upd H6 tp (.tup [.str z,.int (pr z),.ref i1])):=Same.new htp
   have e7:(upd H6 tp (.tup [.str z,.int (pr z),.ref i1])) tp=some (.tup [.str z,.int (pr z),.ref i1]):=Zac
   have tD:tp ≠ D2:=(Zah (s6 _ _ e5) htp).symm
   generalize (upd H6 tp (.tup [.str z,.int (pr z),.ref i1]))=H7 at s7 e7 ⊢
   have i1D:i1 ≠ D2:=(Zah e5 hi1).symm
   have s57:=s6.trans s7
   refine ⟨_,s57 _ _ e5,by lia,?_,(s5.trans s57).put hD2,Zac⟩
   rw [Zmh (by simp),List.take_succ_eq_append_getElem hi2,List.map_append,ez]
   have nD:∀ {c:Addr},c ≠ D2→c ∉ [D2]:=fun h z=>h (List.mem_singleton.mp z)
   refine A2.app (bd.mono fun v d _ r=>r.same (Zk4 s57)) (A2.one ⟨i1,⟨tp,rfl,?_⟩,?_⟩)
   ·rw [Zk5 (nD tD)]
    exact e7
   ·rw [Zk5 (nD i1D)]
    exact s7 _ _ e6
  rintro ws H5 ⟨bd,s5,e5⟩
  rw [hmb,List.take_length] at bd
  have hwl:=bd.len
  rw [List.length_map] at hwl
  have bd5:A2 (LoV H5) ws (Bs.map (lE pr)):=bd.mono fun v d _ r=>r.same rm_le
  intro cx dx hcx hdx dxn
  have s6:Same H5 (upd (upd H5 dx (.own cx)) cx (.ins C dx [])):=(Same.new hdx).trans (Same.new (by rw [Zak dxn.symm]; exact hcx))
  have e6:(upd (upd H5 dx (.own cx)) cx (.ins C dx [])) cx=some (.ins C dx []):=Zac
  generalize (upd (upd H5 dx (.own cx)) cx (.ins C dx []))=H6 at s6 e6 ⊢
  have nms:(As.map (dE pr)).map Dee.name ++ (Bs.map (lE pr)).map Loo.name=As ++ Bs:=by
   (rw [List.map_map,List.map_map])
   have h1:(Dee.name ∘ dE pr)=id:=rfl
   have h2:(Loo.name ∘ lE pr)=id:=rfl
   rw [h1,h2,List.map_id,List.map_id]
  have cok:ChOk 1 (As.map (dE pr)) (Bs.map (lE pr)) [tX]:=by
   refine ⟨by decide,by decide,by rw [List.length_map]; lia,by rw [List.length_map]; lia,by rw [nms]; exact nd,fun d hd=>?_,fun d hd=>?_,fun d hd=>?_,fun d hd=>?_,fun d hd s hs=>?_,by decide,by decide +kernel⟩
   ·obtain ⟨z,hz,rfl⟩:=List.mem_map.mp hd
    obtain ⟨_,h1,h2,lb⟩:=hx z (List.mem_append_left _ hz)
    exact ⟨lb.l1,lb.l2,h1,h2⟩
   ·obtain ⟨z,hz,rfl⟩:=List.mem_map.mp hd
    obtain ⟨_,h1,h2,lb⟩:=hx z (List.mem_append_right _ hz)
    exact ⟨lb.l1,lb.l2,h1,h2⟩
   ·obtain ⟨z,hz,rfl⟩:=List.mem_map.mp hd
    refine ⟨rfl,fun e he=>?_,fun e he x hx=>?_,fun e he=>?_⟩
    ·rw [List.mem_singleton.mp he]
     exact List.pairwise_singleton _ _
    ·rw [List.mem_singleton.mp he] at hx
     rw [List.mem_singleton.mp hx]
     decide
    ·rw [List.mem_singleton.mp he]
     decide
   ·obtain ⟨z,hz,rfl⟩:=List.mem_map.mp hd
    rfl
   ·obtain ⟨z,hz,rfl⟩:=List.mem_map.mp hd
    have e9:=List.mem_singleton.mp hs
    rw [Option.some.inj e9]
    exact List.mem_singleton.mpr rfl
  refine ⟨cx,dx,D,D2,1,ys,ws,_,_,[tX],rfl,e6,s6 _ _ (s5 _ _ e4),s6 _ _ e5,ad4.mono fun v d _ r=>r.same (s5.trans s6),bd5.mono fun v d _ r=>r.same s6,cok,fun H7 k7 ch7=>⟨rfl,?_⟩⟩
  have s57:Same H5 H7:=fun c u e=>k7 c u (s6 _ _ e) (Zah e hcx)
  exact q cx H7 ((s4.trans s5).trans s57) ch7
noncomputable def hN (n:Str):Pn→Prop
 | .dd d r=>d=n ∨ hN n r
 | .lk _ ws=>hN n ws
 | .way _ p r=>hN n p ∨ hN n r
 | _=>False
theorem Ziw {n:Str}:∀ {t:Pn} {m:Nat} {b:Option Nat} {a:Option Str},hN n t→∃ y ∈ rwsP t m b a,∃ r,y.1=.dd n r
 | .dd d r,m,b,a,h=>by
  rcases h with e | h
  ·exact ⟨_,List.mem_cons_self,r,by rw [e]⟩
  ·obtain ⟨y,hy,z⟩:=Ziw (m:=m + 1) (b:=some m) (a:=none) h
   exact ⟨y,List.mem_cons_of_mem _ hy,z⟩
 | .lk l ws,m,b,a,h=>by
  obtain ⟨y,hy,z⟩:=Ziw (t:=ws) (m:=m + 1) (b:=some m) (a:=none) h
  exact ⟨y,List.mem_cons_of_mem _ hy,z⟩
 | .way x p r,m,b,a,h=>by
  rcases h with h | h
  ·obtain ⟨y,hy,z⟩:=Ziw (m:=m) (b:=b) (a:=some x) h
   exact ⟨y,List.mem_append_left _ hy,z⟩
  ·obtain ⟨y,hy,z⟩:=Ziw (m:=m + szP p) (b:=b) (a:=none) h
   exact ⟨y,List.mem_append_right _ hy,z⟩
 | .stop,_,_,_,h=>h.elim
 | .nil,_,_,_,h=>h.elim
theorem Zmt {n a:Str} {b:Pn} (h:hN n b):∀ pre:List (Str × Pn),hN n (ofL (pre ++ [(a,b)]) .nil)
 | []=>.inl h
 | _ :: r=>.inr (Zmt h r)
theorem wy_ht:∀ {ws:Pn},∀ y ∈ wyL ws,htP y.2 ≤ htP ws
 | .way a p r,y,hy=>by
  rcases (List.mem_cons.mp hy) with e | hy
  ·rw [e]
   exact Nat.le_max_left ..
  ·exact Nat.le_trans (wy_ht y hy) (Nat.le_max_right ..)
 | .nil,_,hy=>nomatch hy
 | .stop,_,hy=>nomatch hy
 | .dd _ _,_,hy=>nomatch hy
 | .lk _ _,_,hy=>nomatch hy
theorem Zj6 {a:Str} {p b:Pn} (h:wtP b ≤ wtP p + 1):∀ pre:List (Str × Pn),wtP (ofL (pre ++ [(a,b)]) .nil) ≤ wtP (ofL (pre ++ [(a,p)]) .nil) + 1
 | []=>by
  show wtP b + 0 + 1 ≤ wtP p + 0 + 1 + 1
  lia
 | x :: r=>by
  have:=Zj6 (a:=a) h r
  show wtP x.2 + wtP (ofL (r ++ [(a,b)]) .nil) + 1 ≤ wtP x.2 + wtP (ofL (r ++ [(a,p)]) .nil) + 1 + 1
  lia
theorem TrAt.last {H:Hp} {a:Str} {p:Pn}:∀ {pre:List (Str × Pn)} {us:List V},TrAt H (ofL (pre ++ [(a,p)]) .nil) us→∃ (us0:List V) (t:Addr) (v:V),us=us0 ++ [.ref t]∧TrAt H (ofL pre .nil) us0∧H t=some (.tup [.str a,v])∧TrAt H p [v]
 | [],us,⟨t,v,us',e,h1,h2,h3⟩=>⟨[],t,v,by rw [e,show us'=[] from h3]; rfl,rfl,h1,h2⟩
 | x :: r,us,⟨t,v,us',e,h1,h2,h3⟩=>by
  obtain ⟨us0,t',v',e',z1,z2,z3⟩:=TrAt.last (pre:=r) h3
  exact ⟨.ref t :: us0,t',v',by rw [e,e']; rfl,⟨t,v,us0,rfl,h1,h2,z1⟩,z2,z3⟩
inductive spLonger (n:Nat) (vs:List V) (H:Hp) (Q:VK) (E0_:XK):Prop
 | mk (v:V) (t:Pn) (z:Str) (c0:vs=[v,.str z]) (c1:TrAt H t [v]) (c2:okP true t) (c3:htP t ≤ n) (c4:Lb z) (c5:∀ (v':V) (b:Pn) (H':Hp),Same H H'→TrAt H' b [v']→okP true b→hN z b→htP b ≤ htP t + 1→wtP b ≤ wtP t + 1→Q v' H'):spLonger n vs H Q E0_
theorem cutM6 (xs:List V):cutV xs none (some (-1))=xs.take (xs.length - 1):=by
 unfold cutV
 rw [HT.sIx_none,List.drop_zero,Nat.sub_zero]
 have h:HT.sIx xs.length xs.length (some (-1))=xs.length - 1:=by
  unfold HT.sIx
  simp
  lia
 rw [h]
noncomputable abbrev Zfh:List Str:=["_law_tree_here", "_law_name"]
noncomputable abbrev nLLonger:List Str:=["_law_tree_here", "_law_name", "_law_last"]
theorem scLLonger:FnScope nLLonger Zfh (Zab Zcr):=⟨rfl,rfl,rfl,by decide +kernel,rfl,by decide +kernel,by decide +kernel⟩
theorem Zio {f:Addr} {fd:FuncData} (F:Fun K "_law_longer" "_law_longer" Zcr f fd) (D_l_longer:Df K mg "_law_longer" Zcr Zfh f fd):∀ n:Nat,FnOk P w K mg base CX0 (1 + n) f fd Zfh (spLonger n)
 | 0=>Ze7 fun vs H Q E h=>by
  obtain ⟨v,t,z,_,_,ok,h0,_⟩:=h
  have:=Zhd ok.wk
  lia
 | n + 1=>by
  have G_l_longer:=Zio F D_l_longer n
  refine F.ok (k:=1 + n) scLLonger (fun vs H Q E h=>?_) (fun cdv A outer s H vs Q E hrL h=>?_)
  ·obtain ⟨v,t,z,rfl,_⟩:=h
   rfl
  ·obtain ⟨v,t,z,rfl,tr,ok,hn,lz,q⟩:=h
   have hsl:sizeLine=16777216:=sizeLine_eq
   refine ⟨_,(Zae (Zbc (Zav Zdr (Zap Zar (pv 0) Zaf (fun _ _=>rfl)) Za1 (Za0 _)) (Zag (Zan (Zbu (Zaa Za1 (Zaa (pv 1) (Zaa (Zbu (Zaa Za1 Zad)) Zad)))))) Zau)
   (Zae (Zbc (Zav Zdr (Zap Zar (pv 0) Zaf (fun _ _=>rfl)) Za1 (Za0 _)) (Zag (Zan (Zbu (Zaa Za1 (Zaa (Zap Zar (pv 0) Zaf (fun _ _=>rfl)) (Zaa (Zaj G_l_longer hrL (by rfl) D_l_longer.m D_l_longer.F.kp D_l_longer.b .nil Zaw (Zaa (Zap Zar (pv 0) Zaf (fun _ _=>rfl)) (Zaa (pv 1) Zad))) Zad)))))) Zau)
   (Zae (Zax (i:=2) scLLonger.nd rfl (Or.inl rfl) (Zap Za4 (Zap Zar (pv 0) Zaf (fun _ _=>rfl)) (Zm5 Zkw Zaf) (fun _ _=>rfl)))
   (Zag (Zan (Zbu (Zaa Za1 (Zaa (Zap Zar (pv 0) Zaf (fun _ _=>rfl)) (Zaa (Zaz Zj2 (Zhq sl_list (Zap Zar (pv 0) Zaf (fun _ _=>rfl)) Zjg (Zjf (Zm5 Zkw Zaf))) (Zc0 (Zaa (Zbu (Zaa (Zap Zar (pv 2) Zaf (fun _ _=>rfl)) (Zaa (Zaj G_l_longer hrL (by rfl) D_l_longer.m D_l_longer.F.kp D_l_longer.b .nil Zaw (Zaa (Zap Zar (pv 2) Zaf (fun _ _=>rfl)) (Zaa (pv 1) Zad))) Zad))) Zad))) Zad))))))))),?_⟩
   cases t with
   | nil=>exact ok.elim
   | way _ _ _=>exact ok.elim
   | stop=>
    obtain ⟨a,e,h⟩:=tr
    cases e
    refine ⟨_,rfl,a,_,_,_,rfl,rfl,SqT.of h,Zai (j:=0) (v:=V.str tStop) rfl,rfl,_,rfl,?_⟩
    refine ite2 (fun _=>?_) (fun z=>absurd (decide_eq_true rfl) z)
    refine ⟨_,rfl,by show 1 ≤ sizeLine; lia,fun x1 hx1=>⟨by show 3 ≤ sizeLine; lia,fun x hx=>?_⟩⟩
    have s1:Same H (upd H x1 (.tup [.str tStop])):=Same.new hx1
    have e1:(upd H x1 (.tup [.str tStop])) x1=some (.tup [.str tStop]):=Zac
    generalize (upd H x1 (.tup [.str tStop]))=H1 at s1 e1 hx ⊢
    exact q (.ref x) (.dd z .stop) _ (s1.trans (Same.new hx)) ⟨x,.ref x1,rfl,Zac,x1,rfl,Same.new hx _ _ e1⟩ ⟨lz,trivial⟩ (.inl rfl) (Nat.le_refl _) (Nat.le_refl _)
   | dd d r=>
    obtain ⟨a,v',e,h,tr'⟩:=tr
    cases e
    have a0:atI [V.str (Str.ofString "do"),.str d,v'] ((0:Nat):Int)=some (.str (Str.ofString "do")):=Zai rfl
    have a1:atI [V.str (Str.ofString "do"),.str d,v'] ((1:Nat):Int)=some (.str d):=Zai rfl
    have a2:atI [V.str (Str.ofString "do"),.str d,v'] ((2:Nat):Int)=some v':=Zai rfl
    have hh':htP r + 1 ≤ n + 1:=hn
    refine ⟨_,rfl,a,_,_,_,rfl,rfl,SqT.of h,a0,rfl,_,rfl,?_⟩
    refine ite2 (fun z=>absurd (V.str.inj (of_decide_eq_true z)) (by decide +kernel)) (fun _=>?_)
    try unfold tNext
    dsimp only
    refine ⟨_,rfl,a,_,_,_,rfl,rfl,SqT.of h,a0,rfl,_,rfl,?_⟩
    refine ite2 (fun _=>?_) (fun z=>absurd (decide_eq_true rfl) z)
    refine ⟨_,rfl,a,_,_,_,rfl,rfl,SqT.of h,a1,_,rfl,a,_,_,_,rfl,rfl,SqT.of h,a2,_,rfl,v',r,z,rfl,tr',ok.2,by lia,lz,fun w' b H1 s1 tr1 okb hb hh hw=>?_⟩
    refine ⟨by show 3 ≤ sizeLine; lia,fun x hx=>?_⟩
    exact q (.ref x) (.dd d b) _ (s1.trans (Same.new hx)) ⟨x,w',rfl,Zac,tr1.same (Same.new hx)⟩ ⟨ok.1,okb⟩ (.inr hb) (Nat.succ_le_succ hh) (Nat.succ_le_succ hw)
   | lk l ws=>
    obtain ⟨a,u,us,e,h,hu,tr'⟩:=tr
    cases e
    have a0:atI [V.str (Str.ofString "look"),.str l,.ref u] ((0:Nat):Int)=some (.str (Str.ofString "look")):=Zai rfl
    have a1:atI [V.str (Str.ofString "look"),.str l,.ref u] ((1:Nat):Int)=some (.str l):=Zai rfl
    have a2:atI [V.str (Str.ofString "look"),.str l,.ref u] ((2:Nat):Int)=some (.ref u):=Zai rfl
    have hh':htP ws + 1 ≤ n + 1:=hn
    refine ⟨_,rfl,a,_,_,_,rfl,rfl,SqT.of h,a0,rfl,_,rfl,?_⟩
    refine ite2 (fun z=>absurd (V.str.inj (of_decide_eq_true z)) (by decide +kernel)) (fun _=>?_)
    try unfold tNext
    dsimp only
    refine ⟨_,rfl,a,_,_,_,rfl,rfl,SqT.of h,a0,rfl,_,rfl,?_⟩
    refine ite2 (fun z=>absurd (V.str.inj (of_decide_eq_true z)) (by decide +kernel)) (fun _=>?_)
    try unfold tNext
    dsimp only
    have okw:=ok.2.2.2
    have l2:=Zkp ws
    have l3:=ok.2.2.1.2
    have l4:=Zm3 okw ok.2.1
    have ew:=Zle okw
    have hwo:=Zko okw
    have hwh:=wy_ht (ws:=ws)
    have han:=Zhc (wyL ws)
    rw [ew] at han
    obtain ⟨pre,ap,epre⟩:∃ (pre:List (Str × Pn)) (ap:Str × Pn),wyL ws=pre ++ [ap]:=by
     rcases List.eq_nil_or_concat (wyL ws) with h | ⟨pre,ap,h⟩
     ·rw [h] at l4
      exact absurd l4 (by decide)
     ·exact ⟨pre,ap,by rw [h,List.concat_eq_append]⟩
    obtain ⟨a',p'⟩:=ap
    rw [epre] at ew hwo hwh han
    rw [← ew] at tr'
    obtain ⟨us0,t',v',rfl,tr0,ht',trp⟩:=tr'.last
    obtain ⟨lba,okp⟩:=hwo (a',p') (List.mem_append_right _ (List.mem_singleton.mpr rfl))
    have hp':=hwh (a',p') (List.mem_append_right _ (List.mem_singleton.mpr rfl))
    have b0:atI [V.str a',v'] ((0:Nat):Int)=some (.str a'):=Zai rfl
    have b1:atI [V.str a',v'] ((1:Nat):Int)=some v':=Zai rfl
    refine ⟨_,rfl,a,_,_,_,rfl,rfl,SqT.of h,a2,_,rfl,u,_,_,_,rfl,rfl,SqL.of hu,atI_last,?_⟩
    refine ⟨_,rfl,a,_,_,_,rfl,rfl,SqT.of h,a1,_,rfl,a,_,_,_,rfl,rfl,SqT.of h,a2,_,rfl,_,rfl,u,_,rfl,SqL.of hu,fun g1 hg1=>?_⟩
    rw [cutM6,show (us0 ++ [V.ref t']).take ((us0 ++ [V.ref t']).length - 1)=us0 by rw [List.length_append,List.length_singleton,Nat.add_sub_cancel,List.take_left' rfl]]
    have s1:Same H (upd H g1 (.lst us0)):=Same.new hg1
    have e1:(upd H g1 (.lst us0)) g1=some (.lst us0):=Zac
    generalize (upd H g1 (.lst us0))=H1 at s1 e1 ⊢
    refine ⟨_,rfl,t',_,_,_,rfl,rfl,SqT.of (s1 _ _ ht'),b0,_,rfl,t',_,_,_,rfl,rfl,SqT.of (s1 _ _ ht'),b1,_,rfl,v',p',z,rfl,trp.same s1,okp,by have:htP p' ≤ htP ws:=hp'; lia,lz,fun w' b H2 s2 tr2 okb hb hh hw=>?_⟩
    refine ⟨by show 2 ≤ sizeLine; lia,fun x2 hx2=>⟨by show 1 ≤ sizeLine; lia,fun x3 hx3=>?_⟩⟩
    have s3:Same H2 (upd H2 x2 (.tup [.str a',w'])):=Same.new hx2
    have e3:(upd H2 x2 (.tup [.str a',w'])) x2=some (.tup [.str a',w']):=Zac
    generalize (upd H2 x2 (.tup [.str a',w']))=H3 at s3 e3 hx3 ⊢
    have s4:Same H3 (upd H3 x3 (.lst [.ref x2])):=Same.new hx3
    have e4:(upd H3 x3 (.lst [.ref x2])) x3=some (.lst [.ref x2]):=Zac
    generalize (upd H3 x3 (.lst [.ref x2]))=H4 at s4 e4 ⊢
    have s14:=(s2.trans s3).trans s4
    have lpre:pre.length + 1=(wyL ws).length:=by rw [epre,List.length_append]; rfl
    have lus:us0.length=pre.length:=by
     have:∀ {pre:List (Str × Pn)} {us:List V},TrAt H (ofL pre .nil) us→us.length=pre.length:=fun {pre}=>by
      induction pre with
      | nil=>intro us h; rw [show us=[] from h]; rfl
      | cons x r ih=>intro us h; obtain ⟨_,_,us',e,_,_,h3⟩:=h; rw [e]; exact congrArg (· + 1) (ih h3)
     exact this tr0
    refine ⟨g1,x3,_,_,rfl,rfl,s14 _ _ e1,e4,by show us0.length + 1 ≤ _; lia,fun g hg=>⟨by show 3 ≤ sizeLine; lia,fun x hx=>?_⟩⟩
    have s5:Same H4 (upd H4 g (.lst (us0 ++ [.ref x2]))):=Same.new hg
    have e5:(upd H4 g (.lst (us0 ++ [.ref x2]))) g=some (.lst (us0 ++ [.ref x2])):=Zac
    generalize (upd H4 g (.lst (us0 ++ [.ref x2])))=H5 at s5 e5 hx ⊢
    have s6:Same H5 (upd H5 x (.tup [.str (Str.ofString "look"),.str l,.ref g])):=Same.new hx
    have s46:=s5.trans s6
    have s06:=(s1.trans s14).trans s46
    have han2:anP (ofL (pre ++ [(a',b)]) .nil)=anP ws:=by
     rw [Zhc,han,List.map_append,List.map_append]
     rfl
    refine q (.ref x) (.lk l (ofL (pre ++ [(a',b)]) .nil)) _ s06 ⟨x,g,_,rfl,Zac,s6 _ _ e5,TrAt.put (s46 _ _ (s4 _ _ e3)) (tr2.same ((s3.trans s4).trans s46)) (tr0.same s06)⟩ ⟨ok.1,?_,?_,Zj5 fun y hy=>?_⟩ (Zmt hb pre) (Nat.succ_le_succ (Zj7 fun y hy=>?_)) ?_
    ·cases pre with
     | nil=>intro z; cases z
     | cons _ _=>intro z; cases z
    ·rw [han2]
     exact ok.2.2.1
    ·rcases (List.mem_append.mp hy) with w | w
     ·exact hwo y (List.mem_append_left _ w)
     ·rw [List.mem_singleton.mp w]
      exact ⟨lba,okb⟩
    ·rcases (List.mem_append.mp hy) with w | w
     ·exact Nat.le_succ_of_le (hwh y (List.mem_append_left _ w))
     ·rw [List.mem_singleton.mp w]
      exact Nat.le_trans hh (Nat.succ_le_succ hp')
    ·have:=Zj6 (a:=a') hw pre
     rw [ew] at this
     exact Nat.succ_le_succ this
inductive spWaysStay (C:C3) (vs:List V) (H:Hp) (Q:VK) (E0_:XK):Prop
 | mk (t:Addr) (D L A:List Str) (v:V) (tr:Pn) (c0:vs=[.ref t,v]) (c1:Nm H t D L A) (c2:TrAt H tr [v]) (c3:okP true tr) (c4:htP tr ≤ 40) (c5:∀ H':Hp,Same H H'→Q (.bl true) H'):spWaysStay C vs H Q E0_
noncomputable def TwV (H:Hp) (v:V) (u:V) (a:Str):Prop:=∃ t:Addr,u=.ref t∧H t=some (.tup [.str a,v])
theorem z2_tr {H:Hp} {v:V} {tr:Pn} (ht:TrAt H tr [v]) {ws:List V} {as:List Str} (h:Z2 (TwV H v) ws as):TrAt H (ofL (as.map fun a=>(a,tr)) .nil) ws:=by
 induction h with
 | nil=>rfl
 | cons a _ ih=>
  obtain ⟨t,e,h⟩:=a
  exact ⟨t,v,_,by rw [e],h,ht,ih⟩
noncomputable def tcN (tr:Pn) (as:List Str):Pn:=ofL (as.map fun a=>(a,tr)) .nil
theorem tc_an (tr:Pn) (as:List Str):anP (tcN tr as)=as:=by
 unfold tcN
 rw [Zhc,List.map_map]
 exact List.map_id as
theorem tc_ok {tr:Pn} (h:okP true tr) {as:List Str} (ha:∀ a ∈ as,Lb a):okP false (tcN tr as):=Zj5 fun x hx=>by
 obtain ⟨a,h1,rfl⟩:=List.mem_map.mp hx
 exact ⟨ha a h1,h⟩
theorem tc_ht {tr:Pn} {as:List Str}:htP (tcN tr as) ≤ htP tr:=Zj7 fun x hx=>by
 obtain ⟨a,h1,rfl⟩:=List.mem_map.mp hx
 exact Nat.le_refl _
theorem tc_ne {tr:Pn} {as:List Str} (h:as ≠ []):tcN tr as ≠ .nil:=by
 cases as with
 | nil=>exact absurd rfl h
 | cons _ _=>intro z; cases z
theorem is_w:∀ {ws:Pn},okP false ws→isW ws
 | .nil,_=>trivial
 | .way _ _ r,h=>is_w (ws:=r) h.2.2
 | .stop,h=>h.elim
 | .dd _ _,h=>h.elim
 | .lk _ _,h=>h.elim
noncomputable def in0 (D L:List Str):Pn→Prop
 | .dd d _=>d ∈ D
 | .lk l _=>l ∈ L
 | _=>True
theorem Zgy {D L:List Str}:∀ {t:Pn} {n:Nat} {b:Option Nat} {a:Option Str},inP D L t→∀ y ∈ rwsP t n b a,in0 D L y.1
 | .stop,_,_,_,_,y,hy=>by
  rw [List.mem_singleton.mp hy]
  trivial
 | .dd d r,n,b,a,h,y,hy=>by
  rcases (List.mem_cons.mp hy) with e | hy
  ·rw [e]
   exact h.1
  ·exact Zgy h.2 y hy
 | .lk l ws,n,b,a,h,y,hy=>by
  rcases (List.mem_cons.mp hy) with e | hy
  ·rw [e]
   exact h.1
  ·exact Zgy h.2 y hy
 | .nil,_,_,_,_,_,hy=>nomatch hy
 | .way x p r,n,b,a,h,y,hy=>by
  rcases (List.mem_append.mp hy) with hy | hy
  ·exact Zgy h.1 y hy
  ·exact Zgy h.2 y hy
theorem Zh5 (pr:Str→Int) (xs:List Str):(xs.map (dE pr)).map Dee.name=xs:=by
 rw [List.map_map]
 exact List.map_id xs
theorem Zh1 (pr:Str→Int) (xs:List Str):(xs.map (lE pr)).map Loo.name=xs:=by
 rw [List.map_map]
 exact List.map_id xs
theorem Zm8 {D L:List Str} (pr:Str→Int) {t:Pn}:knR (D.map (dE pr)) (L.map (lE pr)) t ↔ in0 D L t:=by
 cases t with
 | dd d r=>
  show d ∈ (D.map (dE pr)).map Dee.name ↔ d ∈ D
  rw [Zh5]
 | lk l ws=>
  show l ∈ (L.map (lE pr)).map Loo.name ↔ l ∈ L
  rw [Zh1]
 | stop=>exact Iff.rfl
 | nil=>exact Iff.rfl
 | way _ _ _=>exact Iff.rfl
theorem Zky (pr:Str→Int) (D L:List Str):∀ s ∈ Zbb (D.map (dE pr)) (L.map (lE pr)),pr s.1=s.2:=fun s hs=>by
 rcases (List.mem_append.mp hs) with h | h
 ·obtain ⟨d,hd,rfl⟩:=List.mem_map.mp h
  obtain ⟨x,_,rfl⟩:=List.mem_map.mp hd
  rfl
 ·obtain ⟨d,hd,rfl⟩:=List.mem_map.mp h
  obtain ⟨x,_,rfl⟩:=List.mem_map.mp hd
  rfl
noncomputable def VDp (C:C3) (a:Addr) (sp:Sp):Prop:=(a=C.s ∨ a=C.d ∨ a=C.l)∧sp=spDepth C
noncomputable def VLn (C:C3) (a:Addr) (sp:Sp):Prop:=(a=C.s ∨ a=C.d ∨ a=C.l)∧sp=spLinesP C
theorem cls_any {C:C3} {H:Hp} {t:Pn} {v:V} (h:PlAt C H t [v]) (ok:okP true t):∃ (a C' dx:Addr) (fs:List (Str × V)),v=.ref a∧H a=some (.ins C' dx fs)∧fs.lookup ("depth" : Str)=none∧fs.lookup ("lines" : Str)=none∧fs.lookup ("price_by" : Str)=none∧(C'=C.s ∨ C'=C.d ∨ C'=C.l):=by
 cases t with
 | stop=>
  obtain ⟨o,dx,e,h⟩:=h
  cases e
  exact ⟨o,C.s,dx,[],rfl,h,rfl,rfl,rfl,.inl rfl⟩
 | dd d r=>
  obtain ⟨o,dx,v',e,h,pl⟩:=h
  cases e
  exact ⟨o,C.d,dx,_,rfl,h,rfl,rfl,rfl,.inr (.inl rfl)⟩
 | lk l ws=>
  obtain ⟨o,dx,u,us,e,h,hu,pl⟩:=h
  cases e
  exact ⟨o,C.l,dx,_,rfl,h,rfl,rfl,rfl,.inr (.inr rfl)⟩
 | nil=>exact ok.elim
 | way _ _ _=>exact ok.elim
noncomputable abbrev Zee:List Str:=["_law_words_here", "_law_tree_here"]
noncomputable abbrev nLWaysStay:List Str:=["_law_words_here", "_law_tree_here", "_law_ways", "_law_plan_here"]
theorem scLWaysStay:FnScope nLWaysStay Zee (Zab Zbr):=⟨rfl,rfl,rfl,by decide +kernel,rfl,by decide +kernel,by decide +kernel⟩
theorem ok_waysstay {f f1 f2 fL:Addr} {C:C3} {fd d1 d2 dL:FuncData} (F:Fun K "_law_ways_stay" "_law_ways_stay" Zbr f fd) (D_l_plan:Df K mg "_law_plan" Zd0 Zgn f1 d1) (G_l_plan:FnOk P w K mg base CX0 46 f1 d1 Zgn (spPlanL C 42)) (D_l_is:Df K mg "_law_is" sLIs pLIs f2 d2) (G_l_is:FnOk P w K mg base CX0 83 f2 d2 pLIs (spIs C 41)) (ML:L2.Mk K C.l fL) (mL:mg "Look" = some (.ref C.l)) (bL:Binds K dL ["self", "look", "ways"] []) (GL:FnOk P w K mg base CX0 2 fL dL Zfe (spLkInit C.l)) (GW:MV P w K mg base C.l "ways" 1 (spLkWays C.l)):FnOk P w K mg base CX0 90 f fd Zee (spWaysStay C):=by
 refine F.ok (k:=89) scLWaysStay (fun vs H Q E h=>?_) (fun cdv A outer s H vs Q E hrX h=>?_)
 ·obtain ⟨t,D,L,A,v,tr,rfl,_⟩:=h
  rfl
 ·obtain ⟨t,DD,L,A',v,tr,rfl,nm,htr,ok,hh,q⟩:=h
  have hr1:Room 1 _:=hrX.mono (by decide)
  have hr3:Room 3 _:=hrX.mono (by decide)
  have hrP:Room 46 _:=hrX.mono (by decide)
  have hrI:Room 83 _:=hrX.mono (by decide)
  have hsl:sizeLine=16777216:=sizeLine_eq
  have hV_ways:∀ C' sp,VWy C C' sp→∃ (k:Nat) (f:Addr) (fd:FuncData) (ps:List Str),Cls K C'∧Meth K C' "ways" f∧FnOk P w K mg base CX0 k f fd ps sp∧Room k _∧Binds K fd ps []:=fun C' sp hv=>by
   obtain ⟨rfl,rfl⟩:=hv
   obtain ⟨f',fd',m',g',b'⟩:=GW.ex
   exact ⟨1,f',fd',["self"],GW.cl,m',g',hr1,b'⟩
  obtain ⟨dl,ll,al,ht,hdl,hll,hal⟩:=nm.got
  have t1:atI [V.ref dl,.ref ll,.ref al] ((1:Nat):Int)=some (.ref ll):=Zai rfl
  have t2:atI [V.ref dl,.ref ll,.ref al] ((2:Nat):Int)=some (.ref al):=Zai rfl
  obtain ⟨g0,g0m⟩:=Ze6 (A:=L) (i:=0) (by have:=nm.l2; lia)
  have a3:=nm.a3
  have hma:(A'.map V.str).length=A'.length:=List.length_map ..
  have hne:A' ≠ []:=fun z=>by rw [z] at a3; cases a3
  have okt:=tc_ok ok nm.ab
  have ant:=tc_an tr A'
  have tht:htP (tcN tr A') ≤ htP tr:=tc_ht
  refine ⟨_,(Zae (Zk8 (i:=2) (N:=["_law_answer", "_law_tree_here"]) (sc:=Zab Zbr) (own:=["_law_answer"]) (fr:=["_law_tree_here"]) (js:=[1]) scLWaysStay.nd rfl rfl ⟨rfl,rfl,rfl,rfl,by decide +kernel,by decide +kernel,by decide +kernel,rfl,by decide +kernel⟩ rfl (Zbd (Zap Zar (pv 0) Zaf (fun _ _=>rfl))) (fun _ _ _ _=>Zaq (i:=0) (show List.Nodup (["_law_answer", "_law_tree_here"]:List Str) by decide +kernel) rfl (Or.inl rfl)) (fun _ _ _ _=>Zbm) (fun _ _ _ _=>(Zbu (Zaa (pv 0) (Zaa (Zaj G_l_plan hrP (by rfl) D_l_plan.m D_l_plan.F.kp D_l_plan.b .nil Zaw (Zaa (pv 1) Zad)) Zad)))))
   (Zae (Zax (i:=3) scLWaysStay.nd rfl (Or.inl rfl) (Zhr ML GL hr3 (by rfl) mL bL .nil Zaw (Zaa (Zap Za4 (Zap Zar (pv 0) Zaf (fun _ _=>rfl)) Zaf (fun _ _=>rfl)) (Zaa (pv 2) Zad))))
   (Zae (Zbg (Zik PySem.F.plainAttrs_list PySem.F.slot_list_pop PySem.F.type_list_pop Zlg (pv 2)))
   (Zae (Zbg (Zik PySem.F.plainAttrs_list PySem.F.slot_list_pop PySem.F.type_list_pop Zlg (Zc5 (pv 3) hV_ways)))
   (Zag (Zan (Zaj G_l_is hrI (by rfl) D_l_is.m D_l_is.F.kp D_l_is.b .nil Zaw (Zaa (pv 3) (Zaa (Zbu (Zaa Za1 (Zaa (Zap Za4 (Zap Zar (pv 0) Zaf (fun _ _=>rfl)) Zaf (fun _ _=>rfl)) (Zaa (Zel (N:=["_law_answer", "_law_tree_here"]) (sc:=Zab Zbr) (own:=["_law_answer"]) (fr:=["_law_tree_here"]) (js:=[1]) ⟨rfl,rfl,rfl,rfl,by decide +kernel,by decide +kernel,by decide +kernel,rfl,by decide +kernel⟩ rfl (Zbd (Zap Zar (pv 0) Zaf (fun _ _=>rfl))) (fun _ _ _ _=>Zaq (i:=0) (show List.Nodup (["_law_answer", "_law_tree_here"]:List Str) by decide +kernel) rfl (Or.inl rfl)) (fun _ _ _ _=>Zbm) (fun _ _ _ _=>(Zbu (Zaa (pv 0) (Zaa (pv 1) Zad))))) Zad)))) Zad))))))))),?_⟩
  refine ⟨_,rfl,t,_,_,_,rfl,rfl,SqT.of ht,t2,al,rfl,⟨_,SqL.of hal⟩,fun D hD=>?_⟩
  refine lcJ (n:=(A'.map V.str).length) (fun i ys H4=>PlAt C H4 (tcN tr (A'.take i)) ys∧ys.length=i∧Same H H4∧H4 D=some (.lst ys)) ⟨rfl,rfl,Same.new hD,Zac⟩
   (fun i ys H4 hi hh0=>by obtain ⟨_,_,s4,_⟩:=hh0; exact ⟨_,(A'.map V.str)[i],SqL.of (s4 _ _ hal),by simp [hi]⟩) (fun ys H4 hh0=>by obtain ⟨_,_,s4,_⟩:=hh0; exact ⟨_,SqL.of (s4 _ _ hal),by simp⟩) ?_ ?_
  ·rintro i ys HZ y H4 hi ⟨pl4,yl,s4,e4⟩ ⟨rfl,hy⟩
   refine Zch ?_
   have hya:=hy _ (SqL.of (s4 _ _ hal))
   rw [List.getElem?_map] at hya
   obtain ⟨z,hz,rfl⟩:=Option.map_eq_some_iff.mp hya
   obtain ⟨hi2,ez⟩:=List.getElem?_eq_some_iff.mp hz
   refine ⟨_,rfl,_,rfl,v,tr,rfl,htr.same s4,ok,by lia,fun pv H5 s5 pl5=>?_⟩
   refine ⟨by show 2 ≤ sizeLine; lia,fun tp htp=>?_⟩
   have s6:Same H5 (upd H5 tp (.tup [.str z,pv])):=Same.new htp
   have e6:(upd H5 tp (.tup [.str z,pv])) tp=some (.tup [.str z,pv]):=Zac
   generalize (upd H5 tp (.tup [.str z,pv]))=H6 at s6 e6 ⊢
   have s46:=s5.trans s6
   have eD:=s46 _ _ e4
   refine ⟨_,eD,by lia,?_,by rw [List.length_append,yl]; rfl,(s4.trans s46).put hD,Zac⟩
   have kD:∀ c u,H6 c=some u→c ≠ D→(upd H6 D (.lst (ys ++ [.ref tp]))) c=some u:=fun c u e hc=>by rw [Zak hc]; exact e
   unfold tcN at pl4 ⊢
   rw [List.take_succ_eq_append_getElem hi2,List.map_append,ez]
   exact PlAt.put (a:=z) (p:=tr) (kD _ _ e6 (Za5 e6 eD (by intro z; cases z))) ((pl5.same s6).kx kD eD) ((pl4.same s46).kx kD eD)
  rintro ys H4 ⟨pl4,yl,s4,e4⟩
  rw [hma] at pl4 yl
  rw [List.take_length] at pl4
  refine ⟨_,rfl,t,_,_,_,rfl,rfl,SqT.of (s4 _ _ ht),t1,ll,_,_,_,rfl,rfl,SqL.of (s4 _ _ hll),g0,_,rfl,?_⟩
  intro o dx ho hdx dn
  have s5:Same H4 (upd (upd H4 dx (.own o)) o (.ins C.l dx [])):=(Same.new hdx).trans (Same.new (by rw [Zak dn.symm]; exact ho))
  have e5:(upd (upd H4 dx (.own o)) o (.ins C.l dx [])) o=some (.ins C.l dx []):=Zac
  generalize (upd (upd H4 dx (.own o)) o (.ins C.l dx []))=H5 at s5 e5 ⊢
  have wy5:=(pl4.same s5).wy (is_w okt)
  rw [ant] at wy5
  refine ⟨o,dx,D,_,ys,A',rfl,e5,s5 _ _ e4,wy5,hne,nm.nd,by lia,fun tw H6 k6 e6 etw=>⟨rfl,?_⟩⟩
  have s46:Same H4 H6:=fun c u e=>k6 c u (s5 _ _ e) (Zah e ho)
  have s06:=s4.trans s46
  have eD6:=s46 _ _ e4
  have hys:0 < ys.length:=by lia
  have hg:ys[ys.length - 1]? = some (ys[ys.length - 1]'(by lia)):=List.getElem?_eq_getElem _
  refine ⟨_,rfl,.inl ⟨rfl,_,SqL.of eD6⟩,D,_,_,rfl,rfl,eD6,hg,?_⟩
  have k7:∀ c u,H6 c=some u→c ≠ D→(upd H6 D (.lst ys.dropLast)) c=some u:=fun c u e hc=>by rw [Zak hc]; exact e
  generalize (upd H6 D (.lst ys.dropLast))=H7 at k7 ⊢
  have s07:Same H H7:=fun c u e=>k7 c u (s06 _ _ e) (Zah e hD)
  have o7:=k7 _ _ e6 (Za5 e6 eD6 (by intro z; cases z))
  have tw7:=k7 _ _ etw (Za5 etw eD6 (by intro z; cases z))
  have pl7:=(pl4.same s46).kx k7 eD6
  refine ⟨_,rfl,o,C.l,dx,_,_,rfl,o7,rfl,⟨rfl,rfl⟩,o,dx,tw,_,ys,rfl,o7,tw7,fun g hg'=>?_⟩
  have s8:Same H7 (upd H7 g (.lst ys)):=Same.new hg'
  have e8:(upd H7 g (.lst ys)) g=some (.lst ys):=Zac
  generalize (upd H7 g (.lst ys))=H8 at s8 e8 ⊢
  refine ⟨.inl ⟨rfl,_,SqL.of e8⟩,g,_,_,rfl,rfl,e8,hg,?_⟩
  have k9:∀ c u,H8 c=some u→c ≠ g→(upd H8 g (.lst ys.dropLast)) c=some u:=fun c u e hc=>by rw [Zak hc]; exact e
  generalize (upd H8 g (.lst ys.dropLast))=H9 at k9 ⊢
  have s79:Same H7 H9:=fun c u e=>k9 c u (s8 _ _ e) (Zah e hg')
  have s09:=s07.trans s79
  refine ⟨_,rfl,_,rfl,t,_,_,_,rfl,rfl,SqT.of (s09 _ _ ht),t1,ll,_,_,_,rfl,rfl,SqL.of (s09 _ _ hll),g0,_,rfl,t,_,_,_,rfl,rfl,SqT.of (s09 _ _ ht),t2,al,rfl,⟨_,SqL.of (s09 _ _ hal)⟩,fun D2 hD2=>?_⟩
  refine lcJ (n:=(A'.map V.str).length) (fun i ws HA=>Z2 (TwV HA v) ws (A'.take i)∧Same H9 HA∧HA D2=some (.lst ws)) ⟨.nil,Same.new hD2,Zac⟩
   (fun i ws HA hi hh0=>by obtain ⟨_,sA,_⟩:=hh0; exact ⟨_,(A'.map V.str)[i],SqL.of (sA _ _ (s09 _ _ hal)),by simp [hi]⟩) (fun ws HA hh0=>by obtain ⟨_,sA,_⟩:=hh0; exact ⟨_,SqL.of (sA _ _ (s09 _ _ hal)),by simp⟩) ?_ ?_
  ·rintro i ws HZ y HA hi ⟨zw,sA,eA⟩ ⟨rfl,hy⟩
   refine Zch ?_
   have hya:=hy _ (SqL.of (sA _ _ (s09 _ _ hal)))
   rw [List.getElem?_map] at hya
   obtain ⟨z,hz,rfl⟩:=Option.map_eq_some_iff.mp hya
   obtain ⟨hi2,ez⟩:=List.getElem?_eq_some_iff.mp hz
   have hzl:=zw.len
   rw [List.length_take] at hzl
   refine ⟨_,rfl,_,rfl,by show 2 ≤ sizeLine; lia,fun tp htp=>?_⟩
   have sB:Same HA (upd HA tp (.tup [.str z,v])):=Same.new htp
   have eB:(upd HA tp (.tup [.str z,v])) tp=some (.tup [.str z,v]):=Zac
   generalize (upd HA tp (.tup [.str z,v]))=HB at sB eB ⊢
   have eD:=sB _ _ eA
   refine ⟨_,eD,by lia,?_,(sA.trans sB).put hD2,Zac⟩
   have kD:∀ c u,HB c=some u→c ≠ D2→(upd HB D2 (.lst (ws ++ [.ref tp]))) c=some u:=fun c u e hc=>by rw [Zak hc]; exact e
   rw [List.take_succ_eq_append_getElem hi2,ez]
   exact (zw.mono fun u a hp0=>by obtain ⟨t',e1,e2⟩:=hp0; exact ⟨t',e1,kD _ _ (sB _ _ e2) (Za5 (sB _ _ e2) eD (by intro z; cases z))⟩).app (.cons ⟨tp,rfl,kD _ _ eB (Za5 eB eD (by intro z; cases z))⟩ .nil)
  rintro ws HA ⟨zw,sA,eA⟩
  rw [hma,List.take_length] at zw
  refine ⟨by show 3 ≤ sizeLine; lia,fun x hx=>?_⟩
  have sB:Same HA (upd HA x (.tup [.str (Str.ofString "look"),.str (L.getD 0 Str.empty),.ref D2])):=Same.new hx
  have eB:(upd HA x (.tup [.str (Str.ofString "look"),.str (L.getD 0 Str.empty),.ref D2])) x=some (.tup [.str (Str.ofString "look"),.str (L.getD 0 Str.empty),.ref D2]):=Zac
  generalize (upd HA x (.tup [.str (Str.ofString "look"),.str (L.getD 0 Str.empty),.ref D2]))=HB at sB eB ⊢
  have s9B:=sA.trans sB
  have s7B:=s79.trans s9B
  have s0B:=s07.trans s7B
  have zwB:=zw.mono fun u a ⟨t',e1,e2⟩=>(⟨t',e1,sB _ _ e2⟩:TwV HB v u a)
  exact ⟨.ref o,.ref x,.lk (L.getD 0 Str.empty) (tcN tr A'),rfl,⟨o,dx,tw,ys,rfl,s7B _ _ o7,s7B _ _ tw7,pl7.same s7B⟩,⟨x,D2,ws,rfl,eB,sB _ _ eA,z2_tr (htr.same s0B) zwB⟩,⟨nm.lb _ g0m,tc_ne hne,by rw [ant]; exact ⟨nm.nd,by lia⟩,okt⟩,by show htP (tcN tr A') + 1 ≤ 41; lia,fun HC sC=>q HC (s0B.trans sC)⟩
theorem FnOk.up6 {CX:CXT} {k:Nat} {f:Addr} {fd:FuncData} {ps:List Str} {sp:Sp} (F:FnOk P w K mg base CX0 k f fd ps sp):FnOk P w K mg base CX k f fd ps sp:=
 ⟨F.len,fun A outer s H args us vs Q E hr he hb hv h=>codeAny_mono (F.run A outer s H args us vs Q E hr he hb hv h) fun r s' z=>by
  cases r with
  | ok u=>cases u <;> exact z
  | error e=>exact z.elim⟩
theorem zcs6:cs (Str.ofString "z")=[122]:=by decide +kernel
theorem ok_law {f f1 f2 f3 f4 f5 f6 f7 f8 f9 fa fb fc fe fg fh fi G NN CC:Addr} {C:C3} {fd d1 d2 d3 d4 d5 d6 d7 d8 d9 da db dc de dg' dh di:FuncData} (F:Fun K "law" "law" sLaw f fd) (T:Bl mg) (R':Er K mg G NN)
  (D_l_names:Df K mg "_law_names" Zfy Zjz f1 d1) (G_l_names:FnOk P w K mg base CX0 4 f1 d1 Zjz (spNames K)) (D_l_prices:Df K mg "_law_prices" Zc4 Zf8 f2 d2) (G_l_prices:FnOk P w K mg base CX0 4 f2 d2 Zf8 (spPrices K)) (D_l_drawn_tree:Df K mg "_law_drawn_tree" Zbs Zdm f3 d3) (G_l_drawn_tree:FnOk P w K mg base CX0 13 f3 d3 Zdm (spDrawn K))
  (D_l_plan:Df K mg "_law_plan" Zd0 Zgn f4 d4) (G_l_plan:FnOk P w K mg base CX0 46 f4 d4 Zgn (spPlanL C 42)) (D_l_chart:Df K mg "_law_chart" Zda Zhz f5 d5) (G_l_chart:FnOk P w K mg base CX0 5 f5 d5 Zhz (spChartL CC)) (D_l_is:Df K mg "_law_is" sLIs pLIs f6 d6) (G_l_is:FnOk P w K mg base CX0 83 f6 d6 pLIs (spIs C 41)) (D_l_texts:Df K mg "_law_texts" Zdy Zhx f7 d7) (G_l_texts:FnOk P w K mg base CX0 1 f7 d7 Zhx spTexts)
  (D_l_lines:Df K mg "_law_lines" Zdi Zgo f8 d8) (G_l_lines:FnOk P w K mg base CX0 42 f8 d8 Zgo (spLLines 41)) (D_l_whole:Df K mg "_law_whole" Zdx Zhw f9 d9) (G_l_whole:FnOk P w K mg base CX0 1 f9 d9 Zhw spWhole) (D_l_depth:Df K mg "_law_depth" Zc9 Zgp fa da) (G_l_depth:FnOk P w K mg base CX0 42 fa da Zgp (spDepthL 41)) (D_l_cost:Df K mg "_law_cost" Zer Zim fb db) (G_l_cost:FnOk P w K mg base CX0 42 fb db Zim (spCostL 41))
  (D_l_no_price:Df K mg "_law_no_price" Zcp Zfg fc dc) (G_l_no_price:FnOk P w K mg base CX0 5 fc dc Zfg (spNoPrice C CC)) (D_l_words:Df K mg "_law_words" Zcz Zfq fe de) (G_l_words:FnOk P w K mg base CX0 3 fe de Zfq (spWords K)) (D_l_longer:Df K mg "_law_longer" Zcr Zfh fg dg') (G_l_longer:FnOk P w K mg base CX0 42 fg dg' Zfh (spLonger 41)) (D_l_ways_stay:Df K mg "_law_ways_stay" Zbr Zee fh dh) (G_l_ways_stay:FnOk P w K mg base CX0 90 fh dh Zee (spWaysStay C)) (D_l_tree:Df K mg "_law_tree" Zep Zgm fi di) (G_l_tree:FnOk P w K mg base CX0 42 fi di Zgm (spTree K 39))
  (hVl:∀ (A:PySem.Around),Room 4 A→∀ C' sp,VLn C C' sp→∃ (k:Nat) (f:Addr) (fd:FuncData) (ps:List Str),Cls K C'∧Meth K C' "lines" f∧FnOk P w K mg base CX0 k f fd ps sp∧Room k A∧Binds K fd ps []) (hVd:∀ (A:PySem.Around),Room 4 A→∀ C' sp,VDp C C' sp→∃ (k:Nat) (f:Addr) (fd:FuncData) (ps:List Str),Cls K C'∧Meth K C' "depth" f∧FnOk P w K mg base CX0 k f fd ps sp∧Room k A∧Binds K fd ps [])
  (hVp:∀ (A:PySem.Around),Room 4 A→∀ C' sp,VPb C CC NN C' sp→∃ (k:Nat) (f:Addr) (fd:FuncData) (ps:List Str),Cls K C'∧Meth K C' "price_by" f∧FnOk P w K mg base (CXe P w) k f fd ps sp∧Room k A∧Binds K fd ps []):FnOk P w K mg base CX0 120 f fd ["_law_script"] (spLaw K):=by
 refine F.ok (k:=119) scLaw (fun vs H Q E h=>?_) (fun cdv A outer s H vs Q E hrX h=>?_)
 ·obtain ⟨a,ns,rfl,_⟩:=h
  rfl
 ·obtain ⟨a,ns,rfl,hS,hn,q⟩:=h
  have hr1:Room 1 _:=hrX.mono (by decide)
  have hr3:Room 3 _:=hrX.mono (by decide)
  have hr4:Room 4 _:=hrX.mono (by decide)
  have hr5:Room 5 _:=hrX.mono (by decide)
  have hr13:Room 13 _:=hrX.mono (by decide)
  have hr90:Room 90 _:=hrX.mono (by decide)
  have hrN:Room 42 _:=hrX.mono (by decide)
  have hrE:Room 42 _:=hrX.mono (by decide)
  have hrO:Room 42 _:=hrX.mono (by decide)
  have hrL:Room 42 _:=hrX.mono (by decide)
  have hrP:Room 46 _:=hrX.mono (by decide)
  have hrI:Room 83 _:=hrX.mono (by decide)
  have hsl:sizeLine=16777216:=sizeLine_eq
  have hV_lines:=hVl _ hr4
  have hV_depth:=hVd _ hr4
  have hV_price_by:=hVp _ hr4
  refine ⟨_,(Zae (Zax (i:=1) scLaw.nd rfl (Or.inl rfl) (Zaj G_l_names hr4 (by rfl) D_l_names.m D_l_names.F.kp D_l_names.b .nil Zaw (Zaa (pv 0) Zad)))
   (Zae (Zax (i:=2) scLaw.nd rfl (Or.inl rfl) (Zaj G_l_prices hr4 (by rfl) D_l_prices.m D_l_prices.F.kp D_l_prices.b .nil Zaw (Zaa (pv 0) (Zaa (pv 1) Zad))))
   (Zae (Zax (i:=3) scLaw.nd rfl (Or.inl rfl) (Zaj G_l_drawn_tree hr13 (by rfl) D_l_drawn_tree.m D_l_drawn_tree.F.kp D_l_drawn_tree.b .nil Zaw (Zaa (pv 0) (Zaa (pv 1) Zad))))
   (Zae (Zax (i:=4) scLaw.nd rfl (Or.inl rfl) (Zaj G_l_plan hrP (by rfl) D_l_plan.m D_l_plan.F.kp D_l_plan.b .nil Zaw (Zaa (pv 3) Zad)))
   (Zae (Zax (i:=5) scLaw.nd rfl (Or.inl rfl) (Zaj G_l_chart hr5 (by rfl) D_l_chart.m D_l_chart.F.kp D_l_chart.b .nil Zaw (Zaa (pv 2) (Zaa (Zap Zar (pv 1) Zaf (fun _ _=>rfl)) (Zaa (Zap Zar (pv 1) Zaf (fun _ _=>rfl)) Zad)))))
   (Zae (Zcc PassesOwn.never rfl (Zcg (by rfl) T.range (Zaa Zaf Zad)) (Zaq (i:=6) scLaw.nd rfl (Or.inl rfl))
    (Zae (Zbc (PW.pt (Ze3 (Zb1 (Zci (Zaj G_l_is hrI (by rfl) D_l_is.m D_l_is.F.kp D_l_is.b .nil Zaw (Zaa (pv 4) (Zaa (pv 3) Zad))))) (Zdu (Zb1 (Zci (Zaj G_l_texts hr1 (by rfl) D_l_texts.m D_l_texts.F.kp D_l_texts.b .nil Zaw (Zaa (Zc5 (pv 4) hV_lines) (Zaa (Zaj G_l_lines hrN (by rfl) D_l_lines.m D_l_lines.F.kp D_l_lines.b .nil Zaw (Zaa (pv 3) Zad)) Zad)))))))) (Zag (Zan Zd1)) Zau)
   (Zae (Zbc (PW.pt (Ze3 (Zb1 (Zci (Zaj G_l_whole hr1 (by rfl) D_l_whole.m D_l_whole.F.kp D_l_whole.b .nil Zaw (Zaa (Zc5 (pv 4) hV_depth) Zad)))) (Zdu (Zav Zf5 (Zc5 (pv 4) hV_depth) (Zaj G_l_depth hrE (by rfl) D_l_depth.m D_l_depth.F.kp D_l_depth.b .nil Zaw (Zaa (pv 3) Zad)) (Za0 _))))) (Zag (Zan Zd1)) Zau)
   (Zag (Zbc (PW.pt (Ze3 (Zb1 (Zci (Zaj G_l_whole hr1 (by rfl) D_l_whole.m D_l_whole.F.kp D_l_whole.b .nil Zaw (Zaa (Zfa (pv 4) hV_price_by Zmn (Zaa (pv 5) Zad)) Zad)))) (Zdu (Zav Zf5 (Zfa (pv 4) hV_price_by Zmn (Zaa (pv 5) Zad)) (Zaj G_l_cost hrO (by rfl) D_l_cost.m D_l_cost.F.kp D_l_cost.b .nil Zaw (Zaa (pv 3) (Zaa (pv 2) Zad))) (Za0 _))))) (Zag (Zan Zd1)) Zau)))))
   (Zae (Zax (i:=7) scLaw.nd rfl (Or.inl rfl) (Zaj G_l_chart hr5 (by rfl) D_l_chart.m D_l_chart.F.kp D_l_chart.b .nil Zaw (Zaa (pv 2) (Zaa (Zap Zar (pv 1) Zaf (fun _ _=>rfl)) (Zaa (Zap Zar (pv 1) Zaf (fun _ _=>rfl)) Zad)))))
   (Zae (Zbc (PW.pt (Zmi (Zav Zf5 (Zap Zar (pv 3) Zaf (fun _ _=>rfl)) Za1 (Za0 _)) (Zk6 (Zb1 (Zci (Zaj G_l_no_price hr5 (by rfl) D_l_no_price.m D_l_no_price.F.kp D_l_no_price.b .nil Zaw (Zaa (pv 4) (Zaa (pv 7) Zad)))))))) (Zag (Zan Zd1)) Zau)
   (Zae (Zax (i:=8) scLaw.nd rfl (Or.inl rfl) (Zap Za4 (Zaj G_l_words hr3 (by rfl) D_l_words.m D_l_words.F.kp D_l_words.b .nil Zaw (Zaa (pv 0) (Zaa Zaf (Zaa Za1 Zad)))) Zaf (fun _ _=>rfl)))
   (Zae (Zbc (PW.pt (Zmi (Zav Zjl (Zaj G_l_depth hrE (by rfl) D_l_depth.m D_l_depth.F.kp D_l_depth.b .nil Zaw (Zaa (pv 3) Zad)) Zaf (Za0 _)) (Zk6 (Zb1 (Zci (Zaj G_l_no_price hr5 (by rfl) D_l_no_price.m D_l_no_price.F.kp D_l_no_price.b .nil Zaw (Zaa (Zaj G_l_plan hrP (by rfl) D_l_plan.m D_l_plan.F.kp D_l_plan.b .nil Zaw (Zaa (Zaj G_l_longer hrL (by rfl) D_l_longer.m D_l_longer.F.kp D_l_longer.b .nil Zaw (Zaa (pv 3) (Zaa (pv 8) Zad))) Zad)) (Zaa (pv 5) Zad)))))))) (Zag (Zan Zd1)) Zau)
   (Zag (Zan (Zaj G_l_ways_stay hr90 (by rfl) D_l_ways_stay.m D_l_ways_stay.F.kp D_l_ways_stay.b .nil Zaw (Zaa (pv 1) (Zaa (Zaj G_l_tree hrN (by rfl) D_l_tree.m D_l_tree.F.kp D_l_tree.b .nil Zaw (Zaa (pv 0) (Zaa Zaf (Zaa Zaf (Zaa (pv 1) Zad))))) Zad))))))))))))))),?_⟩
  refine ⟨_,rfl,a,ns,rfl,hS,hn,fun t D L A' H1 s1 nm zz=>?_⟩
  refine ⟨_,rfl,_,rfl,a,ns,t,D,L,A',rfl,s1.seq hS,hn,nm,fun pd kvs pr H2 s2 e2 hv pnn hb=>?_⟩
  have hS2:=(s1.trans s2).seq hS
  refine ⟨_,rfl,_,rfl,a,ns,t,D,L,A',rfl,hS2,hn,nm.same s2,fun v p H3 s3 tr ok im hh hw=>?_⟩
  refine ⟨_,rfl,v,p,rfl,tr,ok,by lia,fun pv H4 s4 pl4=>?_⟩
  have s24:=s3.trans s4
  have nm4:=(nm.same s2).same s24
  have hS4:=s24.seq hS2
  have tr4:=tr.same s4
  have pd4:=s24 _ _ e2
  obtain ⟨dl,ll,al,ht,hdl,hll,hal⟩:=nm4.got
  have t0:atI [V.ref dl,.ref ll,.ref al] ((0:Nat):Int)=some (.ref dl):=Zai rfl
  have t1:atI [V.ref dl,.ref ll,.ref al] ((1:Nat):Int)=some (.ref ll):=Zai rfl
  have hx:∀ x ∈ D ++ L,valV kvs (Sum.inr x:Key)=some (.int (pr x))∧1 ≤ pr x∧pr x ≤ 1000000000∧Lb x:=fun x hx=>⟨hv x hx,(hb x hx).1,(hb x hx).2,(List.mem_append.mp hx).elim (nm.db x) (nm.lb x)⟩
  have nd2:(L ++ D).Nodup:=by
   obtain ⟨n1,n2,n3⟩:=List.nodup_append.mp nm.ndl
   exact List.nodup_append.mpr ⟨n2,n1,fun x hx y hy e=>n3 y hy x hx e.symm⟩
  refine ⟨_,rfl,_,rfl,t,_,_,_,rfl,rfl,SqT.of ht,t0,_,rfl,t,_,_,_,rfl,rfl,SqT.of ht,t1,?_⟩
  refine ⟨pd,dl,ll,kvs,D,L,pr,rfl,pd4,hdl,hll,hx,nm.ndl,by have:=nm.d3; lia,by have:=nm.l2; lia,fun cx H5 s5 ch5=>?_⟩
  obtain ⟨o,C',dx,fs,rfl,ho,l1,l2,l3,hC⟩:=cls_any pl4 ok
  have hml:=Zd4 p
  have knd:∀ y ∈ Zb0 p,knR (D.map (dE pr)) (L.map (lE pr)) y.1:=fun y hy=>(Zm8 pr).mpr (Zgy im y hy)
  have ndc:((D.map (dE pr)).map Dee.name ++ (L.map (lE pr)).map Loo.name).Nodup:=by rw [Zh5,Zh1]; exact nm.ndl
  have ndo:((L.map (dE pr)).map Dee.name ++ (D.map (lE pr)).map Loo.name).Nodup:=by rw [Zh5,Zh1]; exact nd2
  refine ⟨_,rfl,by decide,by decide,Zc2 (n:=2) (fun i σ H6=>∃ v6:Option V,σ = [some (.ref a),some (.ref t),some (.ref pd),some v,some (.ref o),some (.ref cx),v6,none,none]∧Same H5 H6) ⟨none,rfl,Same.refl _⟩ ?_ ?_⟩
  ·rintro i σ H6 hi ⟨v6,rfl,s6⟩
   have s46:=s5.trans s6
   refine ⟨_,rfl,_,rfl,.ref o,v,p,rfl,pl4.same s46,tr4.same s46,ok,hh,fun H7 s7=>⟨_,rfl,?_⟩⟩
   refine iteF ?_
   have s47:=s46.trans s7
   refine ⟨_,rfl,o,C',dx,fs,_,rfl,s47 _ _ ho,l2,⟨hC,rfl⟩,.ref o,p,rfl,pl4.same s47,ok,by lia,fun r1 H8 s8 fr8 e8=>?_⟩
   have s48:=s47.trans s8
   refine ⟨_,rfl,v,p,rfl,tr4.same s48,ok.wk,hh,by decide,by lia,fun ln H9 s9 fr9 e9=>?_⟩
   have s49:=s48.trans s9
   refine ⟨r1,ln,lnsP p,rfl,s9 _ _ e8,e9,by lia,_,rfl,?_⟩
   refine iteF ?_
   try unfold tNext
   dsimp only
   refine ⟨_,rfl,o,C',dx,fs,_,rfl,s49 _ _ ho,l1,⟨hC,rfl⟩,.ref o,p,rfl,pl4.same s49,ok,by lia,fun HA sA=>⟨_,rfl,_,rfl,?_⟩⟩
   refine iteF ?_
   have s4A:=s49.trans sA
   refine ⟨_,rfl,o,C',dx,fs,_,rfl,s4A _ _ ho,l1,⟨hC,rfl⟩,.ref o,p,rfl,pl4.same s4A,ok,by lia,fun HB sB=>?_⟩
   have s4B:=s4A.trans sB
   refine ⟨_,rfl,v,p,rfl,tr4.same s4B,ok,hh,fun HC sC=>⟨rfl,_,rfl,?_⟩⟩
   refine ite2 (fun z=>(Zg2 z).elim) (fun _=>?_)
   try unfold tNext
   dsimp only
   have s4C:=s4B.trans sC
   have s5C:Same H5 HC:=s6.trans (s7.trans (s8.trans (s9.trans (sA.trans (sB.trans sC)))))
   refine ⟨_,rfl,o,C',dx,fs,_,rfl,s4C _ _ ho,l3,⟨hC,rfl⟩,_,rfl,.ref o,cx,p,1,_,_,pr,rfl,pl4.same s4C,ok,by lia,ch5.same s5C,ndc,Zky pr D L,.inl ⟨knd,fun HD sD=>⟨_,rfl,_,rfl,?_⟩⟩⟩
   refine iteF ?_
   have s4D:=s4C.trans sD
   have s5D:=s5C.trans sD
   refine ⟨_,rfl,o,C',dx,fs,_,rfl,s4D _ _ ho,l3,⟨hC,rfl⟩,_,rfl,.ref o,cx,p,1,_,_,pr,rfl,pl4.same s4D,ok,by lia,ch5.same s5D,ndc,Zky pr D L,.inl ⟨knd,fun HE sE=>?_⟩⟩
   have s4E:=s4D.trans sE
   refine ⟨_,rfl,_,rfl,v,p,pd,kvs,D,L,pr,rfl,tr4.same s4E,ok,hh,im,s4E _ _ pd4,hv,pnn,fun HF sF=>⟨rfl,_,rfl,?_⟩⟩
   refine ite2 (fun z=>(Zg2 z).elim) (fun _=>?_)
   exact ⟨_,rfl,s5D.trans (sE.trans sF)⟩
  rintro σ H6 ⟨v6,rfl,s6⟩
  have s46:=s5.trans s6
  refine ⟨_,rfl,_,rfl,t,_,_,_,rfl,rfl,SqT.of (s46 _ _ ht),t1,_,rfl,t,_,_,_,rfl,rfl,SqT.of (s46 _ _ ht),t0,?_⟩
  refine ⟨pd,ll,dl,kvs,L,D,pr,rfl,s46 _ _ pd4,s46 _ _ hll,s46 _ _ hdl,fun x hx'=>hx x (List.mem_append.mpr (List.mem_append.mp hx').symm),nd2,by have:=nm.l2; lia,by have:=nm.d3; lia,fun ox H7 s7 ch7=>?_⟩
  have s47:=s46.trans s7
  have s57:=s6.trans s7
  try unfold tNext
  try dsimp only
  refine Zhj (fun σ' H'=>σ'=[some (.ref a),some (.ref t),some (.ref pd),some v,some (.ref o),some (.ref cx),v6,some (.ref ox),none]∧Same H7 H') ?_ (fun N hN=>?_)
  ·rintro σ' H8 ⟨rfl,s8⟩
   have s48:=s47.trans s8
   have s58:=s57.trans s8
   refine ⟨_,rfl,a,ns,_,_,rfl,s48.seq hS4,hn,by decide,by decide,by decide +kernel,by decide +kernel,fun lw H9 s9 fr9 e9=>?_⟩
   rw [zcs6] at e9
   refine ⟨lw,_,_,_,rfl,rfl,SqL.of e9,Zai (j:=0) (v:=V.str (wdS ns 2 122)) rfl,?_⟩
   have s49:=s48.trans s9
   have s59:=s58.trans s9
   have lz:=Zl7 ns 2 (c:=122) (by decide)
   generalize wdS ns 2 122=z at zz lz ⊢
   dsimp only
   refine Zhi (fun σ' H'=>σ'=[some (.ref a),some (.ref t),some (.ref pd),some v,some (.ref o),some (.ref cx),v6,some (.ref ox),some (.str z)]∧Same H9 H') ?_ (fun N hN=>?_)
   ·rintro σ' HA ⟨rfl,sA⟩
    have s4A:=s49.trans sA
    refine ⟨_,rfl,_,rfl,_,rfl,a,ns,5,2,t,D,L,A',rfl,s4A.seq hS4,hn,by decide,by decide,nm4.same s4A,fun v2 p2 HF sF tr2 ok2 im2 hh2 hw2=>?_⟩
    exact ⟨t,D,L,A',v2,p2,rfl,(nm4.same s4A).same sF,tr2.same fw_le,ok2,by lia,fun HG sG=>q HG⟩
   ·refine ⟨_,rfl,v,p,rfl,tr4.same s49,ok,hh,fun HA sA=>⟨_,_,rfl,rfl,_,rfl,?_⟩⟩
    have s4A:=s49.trans sA
    refine ite2 (fun _=>?_) (fun _=>?_)
    ·refine ⟨_,rfl,_,rfl,v,p,z,rfl,tr4.same s4A,ok,hh,lz,fun v' b HB sB trb okb hb' hhb hwb=>?_⟩
     refine ⟨v',b,rfl,trb,okb,by lia,fun pb HC sC plb=>?_⟩
     have s5C:=s59.trans (sA.trans (sB.trans sC))
     refine ⟨_,rfl,pb,cx,b,1,_,_,pr,rfl,plb,okb,by lia,ch5.same s5C,ndc,Zky pr D L,?_,fun HD sD=>⟨_,rfl,?_⟩⟩
     ·obtain ⟨y,hy,r,ey⟩:=Ziw (m:=0) (b:=none) (a:=none) hb'
      refine ⟨y,hy,fun k=>?_⟩
      have k2:=(Zm8 pr).mp k
      rw [ey] at k2
      exact zz (List.mem_append_left _ k2)
     ·refine iteF ?_
      exact hN _ _ ⟨rfl,sA.trans (sB.trans (sC.trans sD))⟩
    ·refine iteF ?_
     exact hN _ _ ⟨rfl,sA⟩
  ·have bad:p ≠ .stop→∃ y ∈ Zb0 p,¬ knR (L.map (dE pr)) (D.map (lE pr)) y.1:=fun hp=>by
    refine ⟨_,List.mem_of_getElem? (Zjw ok),fun k=>?_⟩
    have k2:=(Zm8 pr).mp k
    have n3:=(List.nodup_append.mp nm.ndl).2.2
    cases p with
    | stop=>exact hp rfl
    | dd d r=>exact n3 d im.1 d k2 rfl
    | lk l ws=>exact n3 l k2 l im.1 rfl
    | nil=>exact ok.elim
    | way _ _ _=>exact ok.elim
   have tr7:=tr4.same s47
   have pl7:=pl4.same s47
   cases p with
   | nil=>exact ok.elim
   | way _ _ _=>exact ok.elim
   | stop=>
    obtain ⟨ta,e,h⟩:=tr7
    cases e
    refine ⟨_,rfl,ta,_,_,_,rfl,rfl,SqT.of h,Zai (j:=0) (v:=V.str tStop) rfl,rfl,_,rfl,?_⟩
    refine ite2 (fun z=>(Zg2 z).elim) (fun _=>?_)
    refine iteF ?_
    exact hN _ _ ⟨rfl,Same.refl _⟩
   | dd d r=>
    obtain ⟨ta,v',e,h,tr'⟩:=tr7
    cases e
    refine ⟨_,rfl,ta,_,_,_,rfl,rfl,SqT.of h,Zai (j:=0) (v:=V.str (Str.ofString "do")) rfl,rfl,_,rfl,?_⟩
    refine ite2 (fun _=>?_) (fun z=>absurd (by decide +kernel) z)
    refine ⟨_,rfl,_,rfl,.ref o,ox,_,1,_,_,pr,rfl,pl7,ok,by lia,ch7,ndo,Zky pr L D,bad (by intro z; cases z),fun H' s'=>⟨_,rfl,?_⟩⟩
    refine iteF ?_
    exact hN _ _ ⟨rfl,s'⟩
   | lk l ws=>
    obtain ⟨ta,u,us,e,h,hu,tr'⟩:=tr7
    cases e
    refine ⟨_,rfl,ta,_,_,_,rfl,rfl,SqT.of h,Zai (j:=0) (v:=V.str (Str.ofString "look")) rfl,rfl,_,rfl,?_⟩
    refine ite2 (fun _=>?_) (fun z=>absurd (by decide +kernel) z)
    refine ⟨_,rfl,_,rfl,.ref o,ox,_,1,_,_,pr,rfl,pl7,ok,by lia,ch7,ndo,Zky pr L D,bad (by intro z; cases z),fun H' s'=>⟨_,rfl,?_⟩⟩
    refine iteF ?_
    exact hN _ _ ⟨rfl,s'⟩
end
end K36
namespace K36
open PySem L2 Tx Rk PyProof.Rows PySem.SeqAt
theorem ln1 {P:List Value→Prop} (h:∀ a0:Value,P [a0]):∀ us:List Value,us.length=1→P us:=fun us hl=>by
 obtain _ | ⟨a0,r0⟩:=us
 ·exact absurd hl (by simp)
 obtain _ | ⟨b,r⟩:=r0
 ·exact h a0
 ·exact absurd hl (by simp)
theorem ln2 {P:List Value→Prop} (h:∀ a0 a1:Value,P [a0,a1]):∀ us:List Value,us.length=2→P us:=fun us hl=>by
 obtain _ | ⟨a0,r0⟩:=us
 ·exact absurd hl (by simp)
 obtain _ | ⟨a1,r1⟩:=r0
 ·exact absurd hl (by simp)
 obtain _ | ⟨b,r⟩:=r1
 ·exact h a0 a1
 ·exact absurd hl (by simp)
theorem ln3 {P:List Value→Prop} (h:∀ a0 a1 a2:Value,P [a0,a1,a2]):∀ us:List Value,us.length=3→P us:=fun us hl=>by
 obtain _ | ⟨a0,r0⟩:=us
 ·exact absurd hl (by simp)
 obtain _ | ⟨a1,r1⟩:=r0
 ·exact absurd hl (by simp)
 obtain _ | ⟨a2,r2⟩:=r1
 ·exact absurd hl (by simp)
 obtain _ | ⟨b,r⟩:=r2
 ·exact h a0 a1 a2
 ·exact absurd hl (by simp)
theorem ln4 {P:List Value→Prop} (h:∀ a0 a1 a2 a3:Value,P [a0,a1,a2,a3]):∀ us:List Value,us.length=4→P us:=fun us hl=>by
 obtain _ | ⟨a0,r0⟩:=us
 ·exact absurd hl (by simp)
 obtain _ | ⟨a1,r1⟩:=r0
 ·exact absurd hl (by simp)
 obtain _ | ⟨a2,r2⟩:=r1
 ·exact absurd hl (by simp)
 obtain _ | ⟨a3,r3⟩:=r2
 ·exact absurd hl (by simp)
 obtain _ | ⟨b,r⟩:=r3
 ·exact h a0 a1 a2 a3
 ·exact absurd hl (by simp)
open PySem.W (Frag OpenLaw codeIn excIn findIn fnOf hasDictIn isFn isIn keepIn makesIn mg_none_of mg_of nsIn plainGet plainOver subIn)
theorem all_mk {l:OpenLaw} {w:World} {K:Frag} {h:Heap} {mg:Str→Option Value} {fa GE NN C CP CS CD CL f1 f2 f3 f4 f5 f6 f7 f8 f9 f10 f11 f12 f13 f14 f15 f16 f17 f18 f19 f20 f21 f22 f23 f24 f25 f26 f27 f28 f29 f30 f31 f32 f33 f34 f35 f36 f37 f38 f39 f40 f41 f42 f43 f44 f45 f46 f47 f48 f49 f50 f51 f52 f53 f54 f55 f56 f57 f58 f59 f60 f61 f62 f63 f64 f65 f66 f67 f68:Addr} (X:K.In h) (G:h.Ns mainGlobals mg) (hfa:mg "law" = some (.ref fa))
  {od1 an1 od2 an2 od3 an3 od4 an4 od5 an5 od6 an6 od7 an7 od8 an8 od9 an9 od10 an10 od11 an11 od12 an12 od13 an13 od14 an14 od15 an15 od16 an16 od17 an17 od18 an18 od19 an19 od20 an20 od21 an21 od22 an22 od23 an23 od24 an24 od25 an25 od26 an26 od27 an27 od28 an28 od29 an29 od30 an30 od31 an31 od32 an32 od33 an33 od34 an34 od35 an35 od36 an36 od37 an37 od38 an38 od39 an39 od40 an40 od41 an41 od42 an42 od43 an43 od44 an44 od45 an45 od46 an46 od47 an47 od48 an48 od49 an49 od50 an50 od51 an51 od52 an52 od53 an53 od54 an54 od55 an55 od56 an56 od57 an57 od58 an58 od59 an59 od60 an60 od61 an61 od62 an62 od63 an63 od64 an64 od65 an65 od66 an66 od67 an67 od68 an68:Option Addr} {sl1 sl2 sl3 sl4 sl5 sl6 sl7 sl8 sl9 sl10 sl11 sl12 sl13 sl14 sl15 sl16 sl17 sl18 sl19 sl20 sl21 sl22 sl23 sl24 sl25 sl26 sl27 sl28 sl29 sl30 sl31 sl32 sl33 sl34 sl35 sl36 sl37 sl38 sl39 sl40 sl41 sl42 sl43 sl44 sl45 sl46 sl47 sl48 sl49 sl50 sl51 sl52 sl53 sl54 sl55 sl56 sl57 sl58 sl59 sl60 sl61 sl62 sl63 sl64 sl65 sl66 sl67 sl68:Array (Option Value)} {oc1 kV1 dc1 pm1 cd1 ct1 oc2 kV2 dc2 pm2 cd2 ct2 oc3 kV3 dc3 pm3 cd3 ct3 oc4 kV4 dc4 pm4 cd4 ct4 oc5 kV5 dc5 pm5 cd5 ct5 oc6 kV6 dc6 pm6 cd6 ct6 oc7 kV7 dc7 pm7 cd7 ct7 oc8 kV8 dc8 pm8 cd8 ct8 oc9 kV9 dc9 pm9 cd9 ct9 oc10 kV10 dc10 pm10 cd10 ct10 oc11 kV11 dc11 pm11 cd11 ct11 oc12 kV12 dc12 pm12 cd12 ct12 oc13 kV13 dc13 pm13 cd13 ct13 oc14 kV14 dc14 pm14 cd14 ct14 oc15 kV15 dc15 pm15 cd15 ct15 oc16 kV16 dc16 pm16 cd16 ct16 oc17 kV17 dc17 pm17 cd17 ct17 oc18 kV18 dc18 pm18 cd18 ct18 oc19 kV19 dc19 pm19 cd19 ct19 oc20 kV20 dc20 pm20 cd20 ct20 oc21 kV21 dc21 pm21 cd21 ct21 oc22 kV22 dc22 pm22 cd22 ct22 oc23 kV23 dc23 pm23 cd23 ct23 oc24 kV24 dc24 pm24 cd24 ct24 oc25 kV25 dc25 pm25 cd25 ct25 oc26 kV26 dc26 pm26 cd26 ct26 oc27 kV27 dc27 pm27 cd27 ct27 oc28 kV28 dc28 pm28 cd28 ct28 oc29 kV29 dc29 pm29 cd29 ct29 oc30 kV30 dc30 pm30 cd30 ct30 oc31 kV31 dc31 pm31 cd31 ct31 oc32 kV32 dc32 pm32 cd32 ct32 oc33 kV33 dc33 pm33 cd33 ct33 oc34 kV34 dc34 pm34 cd34 ct34 oc35 kV35 dc35 pm35 cd35 ct35 oc36 kV36 dc36 pm36 cd36 ct36 oc37 kV37 dc37 pm37 cd37 ct37 oc38 kV38 dc38 pm38 cd38 ct38 oc39 kV39 dc39 pm39 cd39 ct39 oc40 kV40 dc40 pm40 cd40 ct40 oc41 kV41 dc41 pm41 cd41 ct41 oc42 kV42 dc42 pm42 cd42 ct42 oc43 kV43 dc43 pm43 cd43 ct43 oc44 kV44 dc44 pm44 cd44 ct44 oc45 kV45 dc45 pm45 cd45 ct45 oc46 kV46 dc46 pm46 cd46 ct46 oc47 kV47 dc47 pm47 cd47 ct47 oc48 kV48 dc48 pm48 cd48 ct48 oc49 kV49 dc49 pm49 cd49 ct49 oc50 kV50 dc50 pm50 cd50 ct50 oc51 kV51 dc51 pm51 cd51 ct51 oc52 kV52 dc52 pm52 cd52 ct52 oc53 kV53 dc53 pm53 cd53 ct53 oc54 kV54 dc54 pm54 cd54 ct54 oc55 kV55 dc55 pm55 cd55 ct55 oc56 kV56 dc56 pm56 cd56 ct56 oc57 kV57 dc57 pm57 cd57 ct57 oc58 kV58 dc58 pm58 cd58 ct58 oc59 kV59 dc59 pm59 cd59 ct59 oc60 kV60 dc60 pm60 cd60 ct60 oc61 kV61 dc61 pm61 cd61 ct61 oc62 kV62 dc62 pm62 cd62 ct62 oc63 kV63 dc63 pm63 cd63 ct63 oc64 kV64 dc64 pm64 cd64 ct64 oc65 kV65 dc65 pm65 cd65 ct65 oc66 kV66 dc66 pm66 cd66 ct66 oc67 kV67 dc67 pm67 cd67 ct67 oc68 kV68 dc68 pm68 cd68 ct68 uW uS uN uR:Value}
  (a1:nsIn K mainGlobals "set_of" = some (some (.ref f1))) (l1:K.lookup f1=some ⟨oc1,od1,.func (fnOf "set_of" "set_of" (Zam Zeo) (Zal Zeo) (Zab Zeo) .none kV1 dc1 pm1 an1 cd1 ct1),sl1⟩) (c1:codeIn K cd1 "set_of" = true) (k1:keepIn K (.ref f1)=true)
  (a2:nsIn K mainGlobals "worlds_of" = some (some (.ref f2))) (l2:K.lookup f2=some ⟨oc2,od2,.func (fnOf "worlds_of" "worlds_of" (Zam Zcn) (Zal Zcn) (Zab Zcn) .none kV2 dc2 pm2 an2 cd2 ct2),sl2⟩) (c2:codeIn K cd2 "worlds_of" = true) (k2:keepIn K (.ref f2)=true)
  (a3:nsIn K mainGlobals "check_many" = some (some (.ref f3))) (l3:K.lookup f3=some ⟨oc3,od3,.func (fnOf "check_many" "check_many" (Zam Zcb) (Zal Zcb) (Zab Zcb) .none kV3 dc3 pm3 an3 cd3 ct3),sl3⟩) (c3:codeIn K cd3 "check_many" = true) (k3:keepIn K (.ref f3)=true)
  (a4:nsIn K mainGlobals "check_steps" = some (some (.ref f4))) (l4:K.lookup f4=some ⟨oc4,od4,.func (fnOf "check_steps" "check_steps" (Zam Zbk) (Zal Zbk) (Zab Zbk) .none kV4 dc4 pm4 an4 cd4 ct4),sl4⟩) (c4:codeIn K cd4 "check_steps" = true) (k4:keepIn K (.ref f4)=true)
  (a5:nsIn K mainGlobals "check_name" = some (some (.ref f5))) (l5:K.lookup f5=some ⟨oc5,od5,.func (fnOf "check_name" "check_name" (Zam Zca) (Zal Zca) (Zab Zca) .none kV5 dc5 pm5 an5 cd5 ct5),sl5⟩) (c5:codeIn K cd5 "check_name" = true) (k5:keepIn K (.ref f5)=true)
  (a6:nsIn K mainGlobals "check_price" = some (some (.ref f6))) (l6:K.lookup f6=some ⟨oc6,od6,.func (fnOf "check_price" "check_price" (Zam Zbt) (Zal Zbt) (Zab Zbt) .none kV6 dc6 pm6 an6 cd6 ct6),sl6⟩) (c6:codeIn K cd6 "check_price" = true) (k6:keepIn K (.ref f6)=true)
  (a7:nsIn K mainGlobals "check_table" = some (some (.ref f7))) (l7:K.lookup f7=some ⟨oc7,od7,.func (fnOf "check_table" "check_table" (Zam Zbj) (Zal Zbj) (Zab Zbj) .none kV7 dc7 pm7 an7 cd7 ct7),sl7⟩) (c7:codeIn K cd7 "check_table" = true) (k7:keepIn K (.ref f7)=true)
  (a8:nsIn K mainGlobals "check_entry" = some (some (.ref f8))) (l8:K.lookup f8=some ⟨oc8,od8,.func (fnOf "check_entry" "check_entry" (Zam Zbl) (Zal Zbl) (Zab Zbl) .none kV8 dc8 pm8 an8 cd8 ct8),sl8⟩) (c8:codeIn K cd8 "check_entry" = true) (k8:keepIn K (.ref f8)=true)
  (a9:nsIn K mainGlobals "read_deeds" = some (some (.ref f9))) (l9:K.lookup f9=some ⟨oc9,od9,.func (fnOf "read_deeds" "read_deeds" (Zam Zbx) (Zal Zbx) (Zab Zbx) .none kV9 dc9 pm9 an9 cd9 ct9),sl9⟩) (c9:codeIn K cd9 "read_deeds" = true) (k9:keepIn K (.ref f9)=true)
  (a10:nsIn K mainGlobals "read_looks" = some (some (.ref f10))) (l10:K.lookup f10=some ⟨oc10,od10,.func (fnOf "read_looks" "read_looks" (Zam Zb6) (Zal Zb6) (Zab Zb6) .none kV10 dc10 pm10 an10 cd10 ct10),sl10⟩) (c10:codeIn K cd10 "read_looks" = true) (k10:keepIn K (.ref f10)=true)
  (a11:nsIn K mainGlobals "parted" = some (some (.ref f11))) (l11:K.lookup f11=some ⟨oc11,od11,.func (fnOf "parted" "parted" (Zam Zdw) (Zal Zdw) (Zab Zdw) .none kV11 dc11 pm11 an11 cd11 ct11),sl11⟩) (c11:codeIn K cd11 "parted" = true) (k11:keepIn K (.ref f11)=true)
  (a12:nsIn K mainGlobals "doable_sets" = some (some (.ref f12))) (l12:K.lookup f12=some ⟨oc12,od12,.func (fnOf "doable_sets" "doable_sets" (Zam Zbh) (Zal Zbh) (Zab Zbh) .none kV12 dc12 pm12 an12 cd12 ct12),sl12⟩) (c12:codeIn K cd12 "doable_sets" = true) (k12:keepIn K (.ref f12)=true)
  (a13:nsIn K mainGlobals "rows_in" = some (some (.ref f13))) (l13:K.lookup f13=some ⟨oc13,od13,.func (fnOf "rows_in" "rows_in" (Zam Zc8) (Zal Zc8) (Zab Zc8) .none kV13 dc13 pm13 an13 cd13 ct13),sl13⟩) (c13:codeIn K cd13 "rows_in" = true) (k13:keepIn K (.ref f13)=true)
  (a14:nsIn K mainGlobals "greatest_sum" = some (some (.ref f14))) (l14:K.lookup f14=some ⟨oc14,od14,.func (fnOf "greatest_sum" "greatest_sum" (Zam Za9) (Zal Za9) (Zab Za9) .none kV14 dc14 pm14 an14 cd14 ct14),sl14⟩) (c14:codeIn K cd14 "greatest_sum" = true) (k14:keepIn K (.ref f14)=true)
  (a15:nsIn K mainGlobals "check_ways" = some (some (.ref f15))) (l15:K.lookup f15=some ⟨oc15,od15,.func (fnOf "check_ways" "check_ways" (Zam Zbz) (Zal Zbz) (Zab Zbz) .none kV15 dc15 pm15 an15 cd15 ct15),sl15⟩) (c15:codeIn K cd15 "check_ways" = true) (k15:keepIn K (.ref f15)=true)
  (a16:nsIn K mainGlobals "_law_cell" = some (some (.ref f16))) (l16:K.lookup f16=some ⟨oc16,od16,.func (fnOf "_law_cell" "_law_cell" (Zam Zes) (Zal Zes) (Zab Zes) .none kV16 dc16 pm16 an16 cd16 ct16),sl16⟩) (c16:codeIn K cd16 "_law_cell" = true) (k16:keepIn K (.ref f16)=true)
  (a17:nsIn K mainGlobals "_law_draw" = some (some (.ref f17))) (l17:K.lookup f17=some ⟨oc17,od17,.func (fnOf "_law_draw" "_law_draw" (Zam Zeq) (Zal Zeq) (Zab Zeq) .none kV17 dc17 pm17 an17 cd17 ct17),sl17⟩) (c17:codeIn K cd17 "_law_draw" = true) (k17:keepIn K (.ref f17)=true)
  (a18:nsIn K mainGlobals "_law_sign" = some (some (.ref f18))) (l18:K.lookup f18=some ⟨oc18,od18,.func (fnOf "_law_sign" "_law_sign" (Zam Zfz) (Zal Zfz) (Zab Zfz) .none kV18 dc18 pm18 an18 cd18 ct18),sl18⟩) (c18:codeIn K cd18 "_law_sign" = true) (k18:keepIn K (.ref f18)=true)
  (a19:nsIn K mainGlobals "_law_words" = some (some (.ref f19))) (l19:K.lookup f19=some ⟨oc19,od19,.func (fnOf "_law_words" "_law_words" (Zam Zcz) (Zal Zcz) (Zab Zcz) .none kV19 dc19 pm19 an19 cd19 ct19),sl19⟩) (c19:codeIn K cd19 "_law_words" = true) (k19:keepIn K (.ref f19)=true)
  (a20:nsIn K mainGlobals "_law_names" = some (some (.ref f20))) (l20:K.lookup f20=some ⟨oc20,od20,.func (fnOf "_law_names" "_law_names" (Zam Zfy) (Zal Zfy) (Zab Zfy) .none kV20 dc20 pm20 an20 cd20 ct20),sl20⟩) (c20:codeIn K cd20 "_law_names" = true) (k20:keepIn K (.ref f20)=true)
  (a21:nsIn K mainGlobals "_law_deep" = some (some (.ref f21))) (l21:K.lookup f21=some ⟨oc21,od21,.func (fnOf "_law_deep" "_law_deep" (Zam Ze8) (Zal Ze8) (Zab Ze8) .none kV21 dc21 pm21 an21 cd21 ct21),sl21⟩) (c21:codeIn K cd21 "_law_deep" = true) (k21:keepIn K (.ref f21)=true)
  (a22:nsIn K mainGlobals "_law_tree" = some (some (.ref f22))) (l22:K.lookup f22=some ⟨oc22,od22,.func (fnOf "_law_tree" "_law_tree" (Zam Zep) (Zal Zep) (Zab Zep) .none kV22 dc22 pm22 an22 cd22 ct22),sl22⟩) (c22:codeIn K cd22 "_law_tree" = true) (k22:keepIn K (.ref f22)=true)
  (a23:nsIn K mainGlobals "_law_row_of_dos" = some (some (.ref f23))) (l23:K.lookup f23=some ⟨oc23,od23,.func (fnOf "_law_row_of_dos" "_law_row_of_dos" (Zam Zb7) (Zal Zb7) (Zab Zb7) .none kV23 dc23 pm23 an23 cd23 ct23),sl23⟩) (c23:codeIn K cd23 "_law_row_of_dos" = true) (k23:keepIn K (.ref f23)=true)
  (a24:nsIn K mainGlobals "_law_drawn_tree" = some (some (.ref f24))) (l24:K.lookup f24=some ⟨oc24,od24,.func (fnOf "_law_drawn_tree" "_law_drawn_tree" (Zam Zbs) (Zal Zbs) (Zab Zbs) .none kV24 dc24 pm24 an24 cd24 ct24),sl24⟩) (c24:codeIn K cd24 "_law_drawn_tree" = true) (k24:keepIn K (.ref f24)=true)
  (a25:nsIn K mainGlobals "_law_plan" = some (some (.ref f25))) (l25:K.lookup f25=some ⟨oc25,od25,.func (fnOf "_law_plan" "_law_plan" (Zam Zd0) (Zal Zd0) (Zab Zd0) .none kV25 dc25 pm25 an25 cd25 ct25),sl25⟩) (c25:codeIn K cd25 "_law_plan" = true) (k25:keepIn K (.ref f25)=true)
  (a26:nsIn K mainGlobals "_law_lines" = some (some (.ref f26))) (l26:K.lookup f26=some ⟨oc26,od26,.func (fnOf "_law_lines" "_law_lines" (Zam Zdi) (Zal Zdi) (Zab Zdi) .none kV26 dc26 pm26 an26 cd26 ct26),sl26⟩) (c26:codeIn K cd26 "_law_lines" = true) (k26:keepIn K (.ref f26)=true)
  (a27:nsIn K mainGlobals "_law_is" = some (some (.ref f27))) (l27:K.lookup f27=some ⟨oc27,od27,.func (fnOf "_law_is" "_law_is" (Zam sLIs) (Zal sLIs) (Zab sLIs) .none kV27 dc27 pm27 an27 cd27 ct27),sl27⟩) (c27:codeIn K cd27 "_law_is" = true) (k27:keepIn K (.ref f27)=true)
  (a28:nsIn K mainGlobals "_law_ways_are" = some (some (.ref f28))) (l28:K.lookup f28=some ⟨oc28,od28,.func (fnOf "_law_ways_are" "_law_ways_are" (Zam Zco) (Zal Zco) (Zab Zco) .none kV28 dc28 pm28 an28 cd28 ct28),sl28⟩) (c28:codeIn K cd28 "_law_ways_are" = true) (k28:keepIn K (.ref f28)=true)
  (a29:nsIn K mainGlobals "_law_whole" = some (some (.ref f29))) (l29:K.lookup f29=some ⟨oc29,od29,.func (fnOf "_law_whole" "_law_whole" (Zam Zdx) (Zal Zdx) (Zab Zdx) .none kV29 dc29 pm29 an29 cd29 ct29),sl29⟩) (c29:codeIn K cd29 "_law_whole" = true) (k29:keepIn K (.ref f29)=true)
  (a30:nsIn K mainGlobals "_law_price" = some (some (.ref f30))) (l30:K.lookup f30=some ⟨oc30,od30,.func (fnOf "_law_price" "_law_price" (Zam Zdz) (Zal Zdz) (Zab Zdz) .none kV30 dc30 pm30 an30 cd30 ct30),sl30⟩) (c30:codeIn K cd30 "_law_price" = true) (k30:keepIn K (.ref f30)=true)
  (a31:nsIn K mainGlobals "_law_prices" = some (some (.ref f31))) (l31:K.lookup f31=some ⟨oc31,od31,.func (fnOf "_law_prices" "_law_prices" (Zam Zc4) (Zal Zc4) (Zab Zc4) .none kV31 dc31 pm31 an31 cd31 ct31),sl31⟩) (c31:codeIn K cd31 "_law_prices" = true) (k31:keepIn K (.ref f31)=true)
  (a32:nsIn K mainGlobals "_law_chart" = some (some (.ref f32))) (l32:K.lookup f32=some ⟨oc32,od32,.func (fnOf "_law_chart" "_law_chart" (Zam Zda) (Zal Zda) (Zab Zda) .none kV32 dc32 pm32 an32 cd32 ct32),sl32⟩) (c32:codeIn K cd32 "_law_chart" = true) (k32:keepIn K (.ref f32)=true)
  (a33:nsIn K mainGlobals "_law_depth" = some (some (.ref f33))) (l33:K.lookup f33=some ⟨oc33,od33,.func (fnOf "_law_depth" "_law_depth" (Zam Zc9) (Zal Zc9) (Zab Zc9) .none kV33 dc33 pm33 an33 cd33 ct33),sl33⟩) (c33:codeIn K cd33 "_law_depth" = true) (k33:keepIn K (.ref f33)=true)
  (a34:nsIn K mainGlobals "_law_cost" = some (some (.ref f34))) (l34:K.lookup f34=some ⟨oc34,od34,.func (fnOf "_law_cost" "_law_cost" (Zam Zer) (Zal Zer) (Zab Zer) .none kV34 dc34 pm34 an34 cd34 ct34),sl34⟩) (c34:codeIn K cd34 "_law_cost" = true) (k34:keepIn K (.ref f34)=true)
  (a35:nsIn K mainGlobals "_law_longer" = some (some (.ref f35))) (l35:K.lookup f35=some ⟨oc35,od35,.func (fnOf "_law_longer" "_law_longer" (Zam Zcr) (Zal Zcr) (Zab Zcr) .none kV35 dc35 pm35 an35 cd35 ct35),sl35⟩) (c35:codeIn K cd35 "_law_longer" = true) (k35:keepIn K (.ref f35)=true)
  (a36:nsIn K mainGlobals "_law_no_price" = some (some (.ref f36))) (l36:K.lookup f36=some ⟨oc36,od36,.func (fnOf "_law_no_price" "_law_no_price" (Zam Zcp) (Zal Zcp) (Zab Zcp) .none kV36 dc36 pm36 an36 cd36 ct36),sl36⟩) (c36:codeIn K cd36 "_law_no_price" = true) (k36:keepIn K (.ref f36)=true)
  (a37:nsIn K mainGlobals "_law_texts" = some (some (.ref f37))) (l37:K.lookup f37=some ⟨oc37,od37,.func (fnOf "_law_texts" "_law_texts" (Zam Zdy) (Zal Zdy) (Zab Zdy) .none kV37 dc37 pm37 an37 cd37 ct37),sl37⟩) (c37:codeIn K cd37 "_law_texts" = true) (k37:keepIn K (.ref f37)=true)
  (a38:nsIn K mainGlobals "_law_ways_stay" = some (some (.ref f38))) (l38:K.lookup f38=some ⟨oc38,od38,.func (fnOf "_law_ways_stay" "_law_ways_stay" (Zam Zbr) (Zal Zbr) (Zab Zbr) .none kV38 dc38 pm38 an38 cd38 ct38),sl38⟩) (c38:codeIn K cd38 "_law_ways_stay" = true) (k38:keepIn K (.ref f38)=true)
  (a39:nsIn K mainGlobals "law" = some (some (.ref f39))) (l39:K.lookup f39=some ⟨oc39,od39,.func (fnOf "law" "law" (Zam sLaw) (Zal sLaw) (Zab sLaw) .none kV39 dc39 pm39 an39 cd39 ct39),sl39⟩) (c39:codeIn K cd39 "law" = true) (k39:keepIn K (.ref f39)=true)
  (aC:nsIn K mainGlobals "Chart" = some (some (.ref C))) (pgC:plainGet K C Str.empty=true) (hdC:hasDictIn K C=true) (poC:plainOver K C=true) (saC:findIn K (.ref C) "__setattr__" = some (some (.builtin "object.__setattr__"))) (mkC:makesIn K C=true) (kcC:keepIn K (.ref C)=true)
  (nC_1:findIn K (.ref C) "many" = some none)
  (nC_2:findIn K (.ref C) "prices" = some none)
  (nC_3:findIn K (.ref C) "told_outs" = some none)
  (nC_4:findIn K (.ref C) "told_answers" = some none)
  (nC_5:findIn K (.ref C) "told_parts" = some none)
  (nC_6:findIn K (.ref C) "told_doable" = some none)
  (aCP:nsIn K mainGlobals "Plan" = some (some (.ref CP))) (pgCP:plainGet K CP Str.empty=true) (hdCP:hasDictIn K CP=true) (poCP:plainOver K CP=true) (saCP:findIn K (.ref CP) "__setattr__" = some (some (.builtin "object.__setattr__"))) (mkCP:makesIn K CP=true) (kcCP:keepIn K (.ref CP)=true)
  (aCS:nsIn K mainGlobals "Stop" = some (some (.ref CS))) (pgCS:plainGet K CS Str.empty=true) (hdCS:hasDictIn K CS=true) (poCS:plainOver K CS=true) (saCS:findIn K (.ref CS) "__setattr__" = some (some (.builtin "object.__setattr__"))) (mkCS:makesIn K CS=true) (kcCS:keepIn K (.ref CS)=true)
  (aCD:nsIn K mainGlobals "Do" = some (some (.ref CD))) (pgCD:plainGet K CD Str.empty=true) (hdCD:hasDictIn K CD=true) (poCD:plainOver K CD=true) (saCD:findIn K (.ref CD) "__setattr__" = some (some (.builtin "object.__setattr__"))) (mkCD:makesIn K CD=true) (kcCD:keepIn K (.ref CD)=true)
  (nCD_1:findIn K (.ref CD) "deed" = some none)
  (nCD_2:findIn K (.ref CD) "rest" = some none)
  (aCL:nsIn K mainGlobals "Look" = some (some (.ref CL))) (pgCL:plainGet K CL Str.empty=true) (hdCL:hasDictIn K CL=true) (poCL:plainOver K CL=true) (saCL:findIn K (.ref CL) "__setattr__" = some (some (.builtin "object.__setattr__"))) (mkCL:makesIn K CL=true) (kcCL:keepIn K (.ref CL)=true)
  (nCL_1:findIn K (.ref CL) "look" = some none)
  (nCL_2:findIn K (.ref CL) "told_ways" = some none)
  (a40:findIn K (.ref C) "__init__" = some (some (.ref f40))) (i40:isFn K (.ref f40)=true) (l40:K.lookup f40=some ⟨oc40,od40,.func (fnOf "__init__" "Chart.__init__" (Zam Zif) (Zal Zif) (Zab Zif) .none kV40 dc40 pm40 an40 cd40 ct40),sl40⟩) (c40:codeIn K cd40 "Chart.__init__" = true) (k40:keepIn K (.ref f40)=true)
  (a41:findIn K (.ref C) "price_of" = some (some (.ref f41))) (i41:isFn K (.ref f41)=true) (l41:K.lookup f41=some ⟨oc41,od41,.func (fnOf "price_of" "Chart.price_of" (Zam Zd8) (Zal Zd8) (Zab Zd8) .none kV41 dc41 pm41 an41 cd41 ct41),sl41⟩) (c41:codeIn K cd41 "Chart.price_of" = true) (k41:keepIn K (.ref f41)=true)
  (a42:findIn K (.ref C) "check_deed" = some (some (.ref f42))) (i42:isFn K (.ref f42)=true) (l42:K.lookup f42=some ⟨oc42,od42,.func (fnOf "check_deed" "Chart.check_deed" (Zam Zcv) (Zal Zcv) (Zab Zcv) .none kV42 dc42 pm42 an42 cd42 ct42),sl42⟩) (c42:codeIn K cd42 "Chart.check_deed" = true) (k42:keepIn K (.ref f42)=true)
  (a43:findIn K (.ref C) "check_look" = some (some (.ref f43))) (i43:isFn K (.ref f43)=true) (l43:K.lookup f43=some ⟨oc43,od43,.func (fnOf "check_look" "Chart.check_look" (Zam Zcu) (Zal Zcu) (Zab Zcu) .none kV43 dc43 pm43 an43 cd43 ct43),sl43⟩) (c43:codeIn K cd43 "Chart.check_look" = true) (k43:keepIn K (.ref f43)=true)
  (a44:findIn K (.ref C) "check_step" = some (some (.ref f44))) (i44:isFn K (.ref f44)=true) (l44:K.lookup f44=some ⟨oc44,od44,.func (fnOf "check_step" "Chart.check_step" (Zam Zct) (Zal Zct) (Zab Zct) .none kV44 dc44 pm44 an44 cd44 ct44),sl44⟩) (c44:codeIn K cd44 "Chart.check_step" = true) (k44:keepIn K (.ref f44)=true)
  (a45:findIn K (.ref CS) "steps_here" = some (some (.ref f45))) (i45:isFn K (.ref f45)=true) (l45:K.lookup f45=some ⟨oc45,od45,.func (fnOf "steps_here" "Stop.steps_here" (Zam Zbn) (Zal Zbn) (Zab Zbn) .none kV45 dc45 pm45 an45 cd45 ct45),sl45⟩) (c45:codeIn K cd45 "Stop.steps_here" = true) (k45:keepIn K (.ref f45)=true)
  (a46:findIn K (.ref CS) "price_here" = some (some (.ref f46))) (i46:isFn K (.ref f46)=true) (l46:K.lookup f46=some ⟨oc46,od46,.func (fnOf "price_here" "Stop.price_here" (Zam Zbo) (Zal Zbo) (Zab Zbo) .none kV46 dc46 pm46 an46 cd46 ct46),sl46⟩) (c46:codeIn K cd46 "Stop.price_here" = true) (k46:keepIn K (.ref f46)=true)
  (a47:findIn K (.ref CS) "goes_on" = some (some (.ref f47))) (i47:isFn K (.ref f47)=true) (l47:K.lookup f47=some ⟨oc47,od47,.func (fnOf "goes_on" "Stop.goes_on" (Zam Zcj) (Zal Zcj) (Zab Zcj) .none kV47 dc47 pm47 an47 cd47 ct47),sl47⟩) (c47:codeIn K cd47 "Stop.goes_on" = true) (k47:keepIn K (.ref f47)=true)
  (a48:findIn K (.ref CS) "line_here" = some (some (.ref f48))) (i48:isFn K (.ref f48)=true) (l48:K.lookup f48=some ⟨oc48,od48,.func (fnOf "line_here" "Stop.line_here" (Zam Zbw) (Zal Zbw) (Zab Zbw) .none kV48 dc48 pm48 an48 cd48 ct48),sl48⟩) (c48:codeIn K cd48 "Stop.line_here" = true) (k48:keepIn K (.ref f48)=true)
  (a49:findIn K (.ref CS) "lines" = some (some (.ref f49))) (i49:isFn K (.ref f49)=true) (l49:K.lookup f49=some ⟨oc49,od49,.func (fnOf "lines" "Plan.lines" (Zam Zc3) (Zal Zc3) (Zab Zc3) .none kV49 dc49 pm49 an49 cd49 ct49),sl49⟩) (c49:codeIn K cd49 "Plan.lines" = true) (k49:keepIn K (.ref f49)=true)
  (a50:findIn K (.ref CS) "depth" = some (some (.ref f50))) (i50:isFn K (.ref f50)=true) (l50:K.lookup f50=some ⟨oc50,od50,.func (fnOf "depth" "Plan.depth" (Zam Za6) (Zal Za6) (Zab Za6) .none kV50 dc50 pm50 an50 cd50 ct50),sl50⟩) (c50:codeIn K cd50 "Plan.depth" = true) (k50:keepIn K (.ref f50)=true)
  (a51:findIn K (.ref CS) "price_by" = some (some (.ref f51))) (i51:isFn K (.ref f51)=true) (l51:K.lookup f51=some ⟨oc51,od51,.func (fnOf "price_by" "Plan.price_by" (Zam Zay) (Zal Zay) (Zab Zay) .none kV51 dc51 pm51 an51 cd51 ct51),sl51⟩) (c51:codeIn K cd51 "Plan.price_by" = true) (k51:keepIn K (.ref f51)=true)
  (a52:findIn K (.ref CD) "__init__" = some (some (.ref f52))) (i52:isFn K (.ref f52)=true) (l52:K.lookup f52=some ⟨oc52,od52,.func (fnOf "__init__" "Do.__init__" (Zam Zfp) (Zal Zfp) (Zab Zfp) .none kV52 dc52 pm52 an52 cd52 ct52),sl52⟩) (c52:codeIn K cd52 "Do.__init__" = true) (k52:keepIn K (.ref f52)=true)
  (a53:findIn K (.ref CD) "steps_here" = some (some (.ref f53))) (i53:isFn K (.ref f53)=true) (l53:K.lookup f53=some ⟨oc53,od53,.func (fnOf "steps_here" "Do.steps_here" (Zam Zb8) (Zal Zb8) (Zab Zb8) .none kV53 dc53 pm53 an53 cd53 ct53),sl53⟩) (c53:codeIn K cd53 "Do.steps_here" = true) (k53:keepIn K (.ref f53)=true)
  (a54:findIn K (.ref CD) "price_here" = some (some (.ref f54))) (i54:isFn K (.ref f54)=true) (l54:K.lookup f54=some ⟨oc54,od54,.func (fnOf "price_here" "Do.price_here" (Zam Zb9) (Zal Zb9) (Zab Zb9) .none kV54 dc54 pm54 an54 cd54 ct54),sl54⟩) (c54:codeIn K cd54 "Do.price_here" = true) (k54:keepIn K (.ref f54)=true)
  (a55:findIn K (.ref CD) "goes_on" = some (some (.ref f55))) (i55:isFn K (.ref f55)=true) (l55:K.lookup f55=some ⟨oc55,od55,.func (fnOf "goes_on" "Do.goes_on" (Zam Zdf) (Zal Zdf) (Zab Zdf) .none kV55 dc55 pm55 an55 cd55 ct55),sl55⟩) (c55:codeIn K cd55 "Do.goes_on" = true) (k55:keepIn K (.ref f55)=true)
  (a56:findIn K (.ref CD) "line_here" = some (some (.ref f56))) (i56:isFn K (.ref f56)=true) (l56:K.lookup f56=some ⟨oc56,od56,.func (fnOf "line_here" "Do.line_here" (Zam Zcl) (Zal Zcl) (Zab Zcl) .none kV56 dc56 pm56 an56 cd56 ct56),sl56⟩) (c56:codeIn K cd56 "Do.line_here" = true) (k56:keepIn K (.ref f56)=true)
  (a57:findIn K (.ref CD) "lines" = some (some (.ref f57))) (i57:isFn K (.ref f57)=true) (l57:K.lookup f57=some ⟨oc57,od57,.func (fnOf "lines" "Plan.lines" (Zam Zc3) (Zal Zc3) (Zab Zc3) .none kV57 dc57 pm57 an57 cd57 ct57),sl57⟩) (c57:codeIn K cd57 "Plan.lines" = true) (k57:keepIn K (.ref f57)=true)
  (a58:findIn K (.ref CD) "depth" = some (some (.ref f58))) (i58:isFn K (.ref f58)=true) (l58:K.lookup f58=some ⟨oc58,od58,.func (fnOf "depth" "Plan.depth" (Zam Za6) (Zal Za6) (Zab Za6) .none kV58 dc58 pm58 an58 cd58 ct58),sl58⟩) (c58:codeIn K cd58 "Plan.depth" = true) (k58:keepIn K (.ref f58)=true)
  (a59:findIn K (.ref CD) "price_by" = some (some (.ref f59))) (i59:isFn K (.ref f59)=true) (l59:K.lookup f59=some ⟨oc59,od59,.func (fnOf "price_by" "Plan.price_by" (Zam Zay) (Zal Zay) (Zab Zay) .none kV59 dc59 pm59 an59 cd59 ct59),sl59⟩) (c59:codeIn K cd59 "Plan.price_by" = true) (k59:keepIn K (.ref f59)=true)
  (a60:findIn K (.ref CL) "__init__" = some (some (.ref f60))) (i60:isFn K (.ref f60)=true) (l60:K.lookup f60=some ⟨oc60,od60,.func (fnOf "__init__" "Look.__init__" (Zam Zcy) (Zal Zcy) (Zab Zcy) .none kV60 dc60 pm60 an60 cd60 ct60),sl60⟩) (c60:codeIn K cd60 "Look.__init__" = true) (k60:keepIn K (.ref f60)=true)
  (a61:findIn K (.ref CL) "ways" = some (some (.ref f61))) (i61:isFn K (.ref f61)=true) (l61:K.lookup f61=some ⟨oc61,od61,.func (fnOf "ways" "Look.ways" (Zam Zde) (Zal Zde) (Zab Zde) .none kV61 dc61 pm61 an61 cd61 ct61),sl61⟩) (c61:codeIn K cd61 "Look.ways" = true) (k61:keepIn K (.ref f61)=true)
  (a62:findIn K (.ref CL) "steps_here" = some (some (.ref f62))) (i62:isFn K (.ref f62)=true) (l62:K.lookup f62=some ⟨oc62,od62,.func (fnOf "steps_here" "Look.steps_here" (Zam Zbp) (Zal Zbp) (Zab Zbp) .none kV62 dc62 pm62 an62 cd62 ct62),sl62⟩) (c62:codeIn K cd62 "Look.steps_here" = true) (k62:keepIn K (.ref f62)=true)
  (a63:findIn K (.ref CL) "price_here" = some (some (.ref f63))) (i63:isFn K (.ref f63)=true) (l63:K.lookup f63=some ⟨oc63,od63,.func (fnOf "price_here" "Look.price_here" (Zam Zbq) (Zal Zbq) (Zab Zbq) .none kV63 dc63 pm63 an63 cd63 ct63),sl63⟩) (c63:codeIn K cd63 "Look.price_here" = true) (k63:keepIn K (.ref f63)=true)
  (a64:findIn K (.ref CL) "goes_on" = some (some (.ref f64))) (i64:isFn K (.ref f64)=true) (l64:K.lookup f64=some ⟨oc64,od64,.func (fnOf "goes_on" "Look.goes_on" (Zam Zck) (Zal Zck) (Zab Zck) .none kV64 dc64 pm64 an64 cd64 ct64),sl64⟩) (c64:codeIn K cd64 "Look.goes_on" = true) (k64:keepIn K (.ref f64)=true)
  (a65:findIn K (.ref CL) "line_here" = some (some (.ref f65))) (i65:isFn K (.ref f65)=true) (l65:K.lookup f65=some ⟨oc65,od65,.func (fnOf "line_here" "Look.line_here" (Zam Zby) (Zal Zby) (Zab Zby) .none kV65 dc65 pm65 an65 cd65 ct65),sl65⟩) (c65:codeIn K cd65 "Look.line_here" = true) (k65:keepIn K (.ref f65)=true)
  (a66:findIn K (.ref CL) "lines" = some (some (.ref f66))) (i66:isFn K (.ref f66)=true) (l66:K.lookup f66=some ⟨oc66,od66,.func (fnOf "lines" "Plan.lines" (Zam Zc3) (Zal Zc3) (Zab Zc3) .none kV66 dc66 pm66 an66 cd66 ct66),sl66⟩) (c66:codeIn K cd66 "Plan.lines" = true) (k66:keepIn K (.ref f66)=true)
  (a67:findIn K (.ref CL) "depth" = some (some (.ref f67))) (i67:isFn K (.ref f67)=true) (l67:K.lookup f67=some ⟨oc67,od67,.func (fnOf "depth" "Plan.depth" (Zam Za6) (Zal Za6) (Zab Za6) .none kV67 dc67 pm67 an67 cd67 ct67),sl67⟩) (c67:codeIn K cd67 "Plan.depth" = true) (k67:keepIn K (.ref f67)=true)
  (a68:findIn K (.ref CL) "price_by" = some (some (.ref f68))) (i68:isFn K (.ref f68)=true) (l68:K.lookup f68=some ⟨oc68,od68,.func (fnOf "price_by" "Plan.price_by" (Zam Zay) (Zal Zay) (Zab Zay) .none kV68 dc68 pm68 an68 cd68 ct68),sl68⟩) (c68:codeIn K cd68 "Plan.price_by" = true) (k68:keepIn K (.ref f68)=true)
  (aG:nsIn K mainGlobals "GropeError" = some (some (.ref GE))) (aE:nsIn K mainGlobals "NoName" = some (some (.ref NN))) (oG:excIn K GE bmV "ValueError.__new__" = true) (oE:excIn K NN bmV "ValueError.__new__" = true) (sE:mroIn K NN GE=true)
  (gW:nsIn K mainGlobals "MOST_WORLDS" = some (some uW)) (vW:absV uW=some (.int 200))
  (gS:nsIn K mainGlobals "MOST_STEPS" = some (some uS)) (vS:absV uS=some (.int 40))
  (gN:nsIn K mainGlobals "MOST_SIGNS" = some (some uN)) (vN:absV uN=some (.int 30))
  (gR:nsIn K mainGlobals "MOST_PRICE" = some (some uR)) (vR:absV uR=some (.int 1000000000))
  (oS1:findIn K (.ref CS) "__init__" = some (some (.builtin "object.__init__")))
  (oS2:subIn K (.ref CS) (.type "object")=some true)
  (iPS:isIn K (.ref CS) CP=true)
  (iPD:isIn K (.ref CD) CP=true)
  (iPL:isIn K (.ref CL) CP=true)
  (z1:nsIn K mainGlobals "len" = some none) (z2:nsIn K mainGlobals "range" = some none) (z3:nsIn K mainGlobals "tuple" = some none) (z4:nsIn K mainGlobals "zip" = some none) (z5:nsIn K mainGlobals "isinstance" = some none) (z6:nsIn K mainGlobals "str" = some none) (z7:nsIn K mainGlobals "list" = some none) (z8:nsIn K mainGlobals "set" = some none) (z9:nsIn K mainGlobals "all" = some none) (z10:nsIn K mainGlobals "sorted" = some none) (z11:nsIn K mainGlobals "int" = some none) (z12:nsIn K mainGlobals "bool" = some none) (z13:nsIn K mainGlobals "sum" = some none) (z14:nsIn K mainGlobals "max" = some none) (z15:nsIn K mainGlobals "enumerate" = some none) (z16:nsIn K mainGlobals "dict" = some none) (z17:nsIn K mainGlobals "ValueError" = some none) (z18:nsIn K mainGlobals "reversed" = some none) :
  ∃ fd:FuncData,(∀ (s:Shared) (v:Value),BindsTo s fd ⟨[v],[]⟩ [("_law_script",v)])∧∀ base:Heap,K.In base→base.Ns mainGlobals mg→FnOk l.prog w K mg base CX0 120 fa fd ["_law_script"] (spLaw K):=by
 have e:=hfa.symm.trans (mg_of X G a39)
 cases e
 have T:Bl mg:=⟨mg_none_of X G z1,mg_none_of X G z2,mg_none_of X G z3,mg_none_of X G z4,mg_none_of X G z5,mg_none_of X G z6,mg_none_of X G z7,mg_none_of X G z8,mg_none_of X G z9,mg_none_of X G z10,mg_none_of X G z11,mg_none_of X G z12,mg_none_of X G z13,mg_none_of X G z14,mg_none_of X G z15,mg_none_of X G z16,mg_none_of X G z17,mg_none_of X G z18⟩
 obtain ⟨tW,eW⟩:=(Zhl vW:RelV (.int 200) uW)
 rw [eW] at gW
 obtain ⟨tS,eS⟩:=(Zhl vS:RelV (.int 40) uS)
 rw [eS] at gS
 obtain ⟨tN,eN⟩:=(Zhl vN:RelV (.int 30) uN)
 rw [eN] at gN
 obtain ⟨tR,eR⟩:=(Zhl vR:RelV (.int 1000000000) uR)
 rw [eR] at gR
 have F1:=Zas (st:=Zeo) l1 c1 k1
 have F2:=Zas (st:=Zcn) l2 c2 k2
 have F3:=Zas (st:=Zcb) l3 c3 k3
 have F4:=Zas (st:=Zbk) l4 c4 k4
 have F5:=Zas (st:=Zca) l5 c5 k5
 have F6:=Zas (st:=Zbt) l6 c6 k6
 have F7:=Zas (st:=Zbj) l7 c7 k7
 have F8:=Zas (st:=Zbl) l8 c8 k8
 have F9:=Zas (st:=Zbx) l9 c9 k9
 have F10:=Zas (st:=Zb6) l10 c10 k10
 have F11:=Zas (st:=Zdw) l11 c11 k11
 have F12:=Zas (st:=Zbh) l12 c12 k12
 have F13:=Zas (st:=Zc8) l13 c13 k13
 have F14:=Zas (st:=Za9) l14 c14 k14
 have F15:=Zas (st:=Zbz) l15 c15 k15
 have F16:=Zas (st:=Zes) l16 c16 k16
 have F17:=Zas (st:=Zeq) l17 c17 k17
 have F18:=Zas (st:=Zfz) l18 c18 k18
 have F19:=Zas (st:=Zcz) l19 c19 k19
 have F20:=Zas (st:=Zfy) l20 c20 k20
 have F21:=Zas (st:=Ze8) l21 c21 k21
 have F22:=Zas (st:=Zep) l22 c22 k22
 have F23:=Zas (st:=Zb7) l23 c23 k23
 have F24:=Zas (st:=Zbs) l24 c24 k24
 have F25:=Zas (st:=Zd0) l25 c25 k25
 have F26:=Zas (st:=Zdi) l26 c26 k26
 have F27:=Zas (st:=sLIs) l27 c27 k27
 have F28:=Zas (st:=Zco) l28 c28 k28
 have F29:=Zas (st:=Zdx) l29 c29 k29
 have F30:=Zas (st:=Zdz) l30 c30 k30
 have F31:=Zas (st:=Zc4) l31 c31 k31
 have F32:=Zas (st:=Zda) l32 c32 k32
 have F33:=Zas (st:=Zc9) l33 c33 k33
 have F34:=Zas (st:=Zer) l34 c34 k34
 have F35:=Zas (st:=Zcr) l35 c35 k35
 have F36:=Zas (st:=Zcp) l36 c36 k36
 have F37:=Zas (st:=Zdy) l37 c37 k37
 have F38:=Zas (st:=Zbr) l38 c38 k38
 have F39:=Zas (st:=sLaw) l39 c39 k39
 have F40:=Zas (st:=Zif) l40 c40 k40
 have b40:=F40.binds (ps:=["self", "many", "deeds", "looks"]) fun _ _ _ _ _ _=>ln4 fun _ _ _ _=>rfl
 have F41:=Zas (st:=Zd8) l41 c41 k41
 have b41:=F41.binds (ps:=["self", "name"]) fun _ _ _ _ _ _=>ln2 fun _ _=>rfl
 have F42:=Zas (st:=Zcv) l42 c42 k42
 have b42:=F42.binds (ps:=["self", "name"]) fun _ _ _ _ _ _=>ln2 fun _ _=>rfl
 have F43:=Zas (st:=Zcu) l43 c43 k43
 have b43:=F43.binds (ps:=["self", "name"]) fun _ _ _ _ _ _=>ln2 fun _ _=>rfl
 have F44:=Zas (st:=Zct) l44 c44 k44
 have b44:=F44.binds (ps:=["self", "name"]) fun _ _ _ _ _ _=>ln2 fun _ _=>rfl
 have F45:=Zas (st:=Zbn) l45 c45 k45
 have b45:=F45.binds (ps:=["self"]) fun _ _ _ _ _ _=>ln1 fun _=>rfl
 have F46:=Zas (st:=Zbo) l46 c46 k46
 have b46:=F46.binds (ps:=["self", "chart"]) fun _ _ _ _ _ _=>ln2 fun _ _=>rfl
 have F47:=Zas (st:=Zcj) l47 c47 k47
 have b47:=F47.binds (ps:=["self"]) fun _ _ _ _ _ _=>ln1 fun _=>rfl
 have F48:=Zas (st:=Zbw) l48 c48 k48
 have b48:=F48.binds (ps:=["self"]) fun _ _ _ _ _ _=>ln1 fun _=>rfl
 have F49:=Zas (st:=Zc3) l49 c49 k49
 have b49:=F49.binds (ps:=["self"]) fun _ _ _ _ _ _=>ln1 fun _=>rfl
 have F50:=Zas (st:=Za6) l50 c50 k50
 have b50:=F50.binds (ps:=["self"]) fun _ _ _ _ _ _=>ln1 fun _=>rfl
 have F51:=Zas (st:=Zay) l51 c51 k51
 have b51:=F51.binds (ps:=["self", "chart"]) fun _ _ _ _ _ _=>ln2 fun _ _=>rfl
 have F52:=Zas (st:=Zfp) l52 c52 k52
 have b52:=F52.binds (ps:=["self", "deed", "rest"]) fun _ _ _ _ _ _=>ln3 fun _ _ _=>rfl
 have F53:=Zas (st:=Zb8) l53 c53 k53
 have b53:=F53.binds (ps:=["self"]) fun _ _ _ _ _ _=>ln1 fun _=>rfl
 have F54:=Zas (st:=Zb9) l54 c54 k54
 have b54:=F54.binds (ps:=["self", "chart"]) fun _ _ _ _ _ _=>ln2 fun _ _=>rfl
 have F55:=Zas (st:=Zdf) l55 c55 k55
 have b55:=F55.binds (ps:=["self"]) fun _ _ _ _ _ _=>ln1 fun _=>rfl
 have F56:=Zas (st:=Zcl) l56 c56 k56
 have b56:=F56.binds (ps:=["self"]) fun _ _ _ _ _ _=>ln1 fun _=>rfl
 have F57:=Zas (st:=Zc3) l57 c57 k57
 have b57:=F57.binds (ps:=["self"]) fun _ _ _ _ _ _=>ln1 fun _=>rfl
 have F58:=Zas (st:=Za6) l58 c58 k58
 have b58:=F58.binds (ps:=["self"]) fun _ _ _ _ _ _=>ln1 fun _=>rfl
 have F59:=Zas (st:=Zay) l59 c59 k59
 have b59:=F59.binds (ps:=["self", "chart"]) fun _ _ _ _ _ _=>ln2 fun _ _=>rfl
 have F60:=Zas (st:=Zcy) l60 c60 k60
 have b60:=F60.binds (ps:=["self", "look", "ways"]) fun _ _ _ _ _ _=>ln3 fun _ _ _=>rfl
 have F61:=Zas (st:=Zde) l61 c61 k61
 have b61:=F61.binds (ps:=["self"]) fun _ _ _ _ _ _=>ln1 fun _=>rfl
 have F62:=Zas (st:=Zbp) l62 c62 k62
 have b62:=F62.binds (ps:=["self"]) fun _ _ _ _ _ _=>ln1 fun _=>rfl
 have F63:=Zas (st:=Zbq) l63 c63 k63
 have b63:=F63.binds (ps:=["self", "chart"]) fun _ _ _ _ _ _=>ln2 fun _ _=>rfl
 have F64:=Zas (st:=Zck) l64 c64 k64
 have b64:=F64.binds (ps:=["self"]) fun _ _ _ _ _ _=>ln1 fun _=>rfl
 have F65:=Zas (st:=Zby) l65 c65 k65
 have b65:=F65.binds (ps:=["self"]) fun _ _ _ _ _ _=>ln1 fun _=>rfl
 have F66:=Zas (st:=Zc3) l66 c66 k66
 have b66:=F66.binds (ps:=["self"]) fun _ _ _ _ _ _=>ln1 fun _=>rfl
 have F67:=Zas (st:=Za6) l67 c67 k67
 have b67:=F67.binds (ps:=["self"]) fun _ _ _ _ _ _=>ln1 fun _=>rfl
 have F68:=Zas (st:=Zay) l68 c68 k68
 have b68:=F68.binds (ps:=["self", "chart"]) fun _ _ _ _ _ _=>ln2 fun _ _=>rfl
 have CC:Cls K C:=⟨pgC,hdC,poC,saC⟩
 have CCP:Cls K CP:=⟨pgCP,hdCP,poCP,saCP⟩
 have CCS:Cls K CS:=⟨pgCS,hdCS,poCS,saCS⟩
 have CCD:Cls K CD:=⟨pgCD,hdCD,poCD,saCD⟩
 have CCL:Cls K CL:=⟨pgCL,hdCL,poCL,saCL⟩
 have D1:Df K mg "set_of" Zeo ["worlds"] f1 _:=⟨F1,mg_of X G a1,F1.binds (ps:=["worlds"]) fun _ _ _ _ _ _=>ln1 fun _=>rfl⟩
 have D2:Df K mg "worlds_of" Zcn ["some"] f2 _:=⟨F2,mg_of X G a2,F2.binds (ps:=["some"]) fun _ _ _ _ _ _=>ln1 fun _=>rfl⟩
 have D3:Df K mg "check_many" Zcb ["many"] f3 _:=⟨F3,mg_of X G a3,F3.binds (ps:=["many"]) fun _ _ _ _ _ _=>ln1 fun _=>rfl⟩
 have D4:Df K mg "check_steps" Zbk ["deeds", "looks"] f4 _:=⟨F4,mg_of X G a4,F4.binds (ps:=["deeds", "looks"]) fun _ _ _ _ _ _=>ln2 fun _ _=>rfl⟩
 have D5:Df K mg "check_name" Zca ["name"] f5 _:=⟨F5,mg_of X G a5,F5.binds (ps:=["name"]) fun _ _ _ _ _ _=>ln1 fun _=>rfl⟩
 have D6:Df K mg "check_price" Zbt ["price"] f6 _:=⟨F6,mg_of X G a6,F6.binds (ps:=["price"]) fun _ _ _ _ _ _=>ln1 fun _=>rfl⟩
 have D7:Df K mg "check_table" Zbj ["many", "name", "table"] f7 _:=⟨F7,mg_of X G a7,F7.binds (ps:=["many", "name", "table"]) fun _ _ _ _ _ _=>ln3 fun _ _ _=>rfl⟩
 have D8:Df K mg "check_entry" Zbl ["many", "name", "entry"] f8 _:=⟨F8,mg_of X G a8,F8.binds (ps:=["many", "name", "entry"]) fun _ _ _ _ _ _=>ln3 fun _ _ _=>rfl⟩
 have D9:Df K mg "read_deeds" Zbx ["many", "deeds"] f9 _:=⟨F9,mg_of X G a9,F9.binds (ps:=["many", "deeds"]) fun _ _ _ _ _ _=>ln2 fun _ _=>rfl⟩
 have D10:Df K mg "read_looks" Zb6 ["many", "looks"] f10 _:=⟨F10,mg_of X G a10,F10.binds (ps:=["many", "looks"]) fun _ _ _ _ _ _=>ln2 fun _ _=>rfl⟩
 have D11:Df K mg "parted" Zdw ["answers"] f11 _:=⟨F11,mg_of X G a11,F11.binds (ps:=["answers"]) fun _ _ _ _ _ _=>ln1 fun _=>rfl⟩
 have D12:Df K mg "doable_sets" Zbh ["outs", "answers"] f12 _:=⟨F12,mg_of X G a12,F12.binds (ps:=["outs", "answers"]) fun _ _ _ _ _ _=>ln2 fun _ _=>rfl⟩
 have D13:Df K mg "rows_in" Zc8 ["plan"] f13 _:=⟨F13,mg_of X G a13,F13.binds (ps:=["plan"]) fun _ _ _ _ _ _=>ln1 fun _=>rfl⟩
 have D14:Df K mg "greatest_sum" Za9 ["rows", "costs"] f14 _:=⟨F14,mg_of X G a14,F14.binds (ps:=["rows", "costs"]) fun _ _ _ _ _ _=>ln2 fun _ _=>rfl⟩
 have D15:Df K mg "check_ways" Zbz ["ways"] f15 _:=⟨F15,mg_of X G a15,F15.binds (ps:=["ways"]) fun _ _ _ _ _ _=>ln1 fun _=>rfl⟩
 have D16:Df K mg "_law_cell" Zes ["_law_script", "_law_k"] f16 _:=⟨F16,mg_of X G a16,F16.binds (ps:=["_law_script", "_law_k"]) fun _ _ _ _ _ _=>ln2 fun _ _=>rfl⟩
 have D17:Df K mg "_law_draw" Zeq ["_law_script", "_law_k", "_law_prime", "_law_many"] f17 _:=⟨F17,mg_of X G a17,F17.binds (ps:=["_law_script", "_law_k", "_law_prime", "_law_many"]) fun _ _ _ _ _ _=>ln4 fun _ _ _ _=>rfl⟩
 have D18:Df K mg "_law_sign" Zfz ["_law_number"] f18 _:=⟨F18,mg_of X G a18,F18.binds (ps:=["_law_number"]) fun _ _ _ _ _ _=>ln1 fun _=>rfl⟩
 have D19:Df K mg "_law_words" Zcz ["_law_script", "_law_k", "_law_letters"] f19 _:=⟨F19,mg_of X G a19,F19.binds (ps:=["_law_script", "_law_k", "_law_letters"]) fun _ _ _ _ _ _=>ln3 fun _ _ _=>rfl⟩
 have D20:Df K mg "_law_names" Zfy ["_law_script"] f20 _:=⟨F20,mg_of X G a20,F20.binds (ps:=["_law_script"]) fun _ _ _ _ _ _=>ln1 fun _=>rfl⟩
 have D21:Df K mg "_law_deep" Ze8 ["_law_script", "_law_k", "_law_prime", "_law_many"] f21 _:=⟨F21,mg_of X G a21,F21.binds (ps:=["_law_script", "_law_k", "_law_prime", "_law_many"]) fun _ _ _ _ _ _=>ln4 fun _ _ _ _=>rfl⟩
 have D22:Df K mg "_law_tree" Zep ["_law_script", "_law_k", "_law_deep_here", "_law_words_here"] f22 _:=⟨F22,mg_of X G a22,F22.binds (ps:=["_law_script", "_law_k", "_law_deep_here", "_law_words_here"]) fun _ _ _ _ _ _=>ln4 fun _ _ _ _=>rfl⟩
 have D23:Df K mg "_law_row_of_dos" Zb7 ["_law_script", "_law_count", "_law_words_here"] f23 _:=⟨F23,mg_of X G a23,F23.binds (ps:=["_law_script", "_law_count", "_law_words_here"]) fun _ _ _ _ _ _=>ln3 fun _ _ _=>rfl⟩
 have D24:Df K mg "_law_drawn_tree" Zbs ["_law_script", "_law_words_here"] f24 _:=⟨F24,mg_of X G a24,F24.binds (ps:=["_law_script", "_law_words_here"]) fun _ _ _ _ _ _=>ln2 fun _ _=>rfl⟩
 have D25:Df K mg "_law_plan" Zd0 ["_law_tree_here"] f25 _:=⟨F25,mg_of X G a25,F25.binds (ps:=["_law_tree_here"]) fun _ _ _ _ _ _=>ln1 fun _=>rfl⟩
 have D26:Df K mg "_law_lines" Zdi ["_law_tree_here"] f26 _:=⟨F26,mg_of X G a26,F26.binds (ps:=["_law_tree_here"]) fun _ _ _ _ _ _=>ln1 fun _=>rfl⟩
 have D27:Df K mg "_law_is" sLIs ["_law_plan_here", "_law_tree_here"] f27 _:=⟨F27,mg_of X G a27,F27.binds (ps:=["_law_plan_here", "_law_tree_here"]) fun _ _ _ _ _ _=>ln2 fun _ _=>rfl⟩
 have D28:Df K mg "_law_ways_are" Zco ["_law_told", "_law_ways"] f28 _:=⟨F28,mg_of X G a28,F28.binds (ps:=["_law_told", "_law_ways"]) fun _ _ _ _ _ _=>ln2 fun _ _=>rfl⟩
 have D29:Df K mg "_law_whole" Zdx ["_law_thing"] f29 _:=⟨F29,mg_of X G a29,F29.binds (ps:=["_law_thing"]) fun _ _ _ _ _ _=>ln1 fun _=>rfl⟩
 have D30:Df K mg "_law_price" Zdz ["_law_script", "_law_k"] f30 _:=⟨F30,mg_of X G a30,F30.binds (ps:=["_law_script", "_law_k"]) fun _ _ _ _ _ _=>ln2 fun _ _=>rfl⟩
 have D31:Df K mg "_law_prices" Zc4 ["_law_script", "_law_words_here"] f31 _:=⟨F31,mg_of X G a31,F31.binds (ps:=["_law_script", "_law_words_here"]) fun _ _ _ _ _ _=>ln2 fun _ _=>rfl⟩
 have D32:Df K mg "_law_chart" Zda ["_law_prices_here", "_law_deeds", "_law_looks"] f32 _:=⟨F32,mg_of X G a32,F32.binds (ps:=["_law_prices_here", "_law_deeds", "_law_looks"]) fun _ _ _ _ _ _=>ln3 fun _ _ _=>rfl⟩
 have D33:Df K mg "_law_depth" Zc9 ["_law_tree_here"] f33 _:=⟨F33,mg_of X G a33,F33.binds (ps:=["_law_tree_here"]) fun _ _ _ _ _ _=>ln1 fun _=>rfl⟩
 have D34:Df K mg "_law_cost" Zer ["_law_tree_here", "_law_prices_here"] f34 _:=⟨F34,mg_of X G a34,F34.binds (ps:=["_law_tree_here", "_law_prices_here"]) fun _ _ _ _ _ _=>ln2 fun _ _=>rfl⟩
 have D35:Df K mg "_law_longer" Zcr ["_law_tree_here", "_law_name"] f35 _:=⟨F35,mg_of X G a35,F35.binds (ps:=["_law_tree_here", "_law_name"]) fun _ _ _ _ _ _=>ln2 fun _ _=>rfl⟩
 have D36:Df K mg "_law_no_price" Zcp ["_law_plan_here", "_law_chart_here"] f36 _:=⟨F36,mg_of X G a36,F36.binds (ps:=["_law_plan_here", "_law_chart_here"]) fun _ _ _ _ _ _=>ln2 fun _ _=>rfl⟩
 have D37:Df K mg "_law_texts" Zdy ["_law_told", "_law_lines_here"] f37 _:=⟨F37,mg_of X G a37,F37.binds (ps:=["_law_told", "_law_lines_here"]) fun _ _ _ _ _ _=>ln2 fun _ _=>rfl⟩
 have D38:Df K mg "_law_ways_stay" Zbr ["_law_words_here", "_law_tree_here"] f38 _:=⟨F38,mg_of X G a38,F38.binds (ps:=["_law_words_here", "_law_tree_here"]) fun _ _ _ _ _ _=>ln2 fun _ _=>rfl⟩
 refine ⟨fnOf "law" "law" (Zam sLaw) (Zal sLaw) (Zab sLaw) .none kV39 dc39 pm39 an39 cd39 ct39,fun s v=>.of_eq rfl,fun base _ _=>?_⟩
 have R':Er K mg GE NN:=⟨mg_of X G aG,mg_of X G aE,oG,oE,sE⟩
 have M:Mc mg:=⟨⟨_,mg_of X G gW⟩,⟨_,mg_of X G gS⟩,⟨_,mg_of X G gN⟩,⟨_,mg_of X G gR⟩⟩
 have L:Cl K C:=⟨CC,nC_1,nC_2,nC_3,nC_4,nC_5,nC_6⟩
 have Gso:=ok_setof (P:=l.prog) (w:=w) (mg:=mg) (base:=base) F1
 have Gwo:=ok_worldsof (P:=l.prog) (w:=w) (base:=base) F2 T
 have Gcm:=ok_checkmany (P:=l.prog) (w:=w) (base:=base) F3 M
 have Gcn:=ok_checkname (P:=l.prog) (w:=w) (base:=base) F5 T M
 have Gcp:=ok_checkprice (P:=l.prog) (w:=w) (base:=base) F6 M
 have Gct:=ok_checktable (P:=l.prog) (w:=w) (base:=base) F7 T
 have Gce:=ok_checkentry (P:=l.prog) (w:=w) (base:=base) F8 T
 have Gcs:=ok_checksteps (P:=l.prog) (w:=w) (base:=base) F4 T M D5 Gcn D6 Gcp
 have Grl:=ok_readlooks (P:=l.prog) (w:=w) (base:=base) F10 T D7 Gct
 have Grd:=ok_readdeeds (P:=l.prog) (w:=w) (base:=base) F9 T D7 Gct D8 Gce D1 Gso
 have Gpa:=ok_parted (P:=l.prog) (w:=w) (base:=base) F11 T D1 Gso
 have Gdo:=ok_doable (P:=l.prog) (w:=w) (base:=base) F12 T D1 Gso
 have Gin:=ok_init (P:=l.prog) (w:=w) (base:=base) F40 L T D3 Gcm D4 Gcs D9 Grd D10 Grl D11 Gpa D12 Gdo
 have Gce:=ok_cell (P:=l.prog) (w:=w) (base:=base) F16 T
 have GdD:=ok_drawD (P:=l.prog) (w:=w) (base:=base) F17 D16 Gce
 have Gdr:=ok_draw GdD
 have Gsg:=ok_sign (P:=l.prog) (w:=w) (mg:=mg) (base:=base) F18
 have Gws:=ok_words (P:=l.prog) (w:=w) (base:=base) F19 T D17 GdD D18 Gsg
 have Gnm:=ok_names (P:=l.prog) (w:=w) (base:=base) F20 D19 Gws
 have Gdp:=ok_deep (P:=l.prog) (w:=w) (base:=base) F21 D16 Gce
 have Gtr:=Zld (P:=l.prog) (w:=w) (base:=base) F22 T D22 D21 Gdp
 have Grw:=ok_row (P:=l.prog) (w:=w) (base:=base) F23 T D21 Gdp
 have Gdt:=ok_drawn (P:=l.prog) (w:=w) (base:=base) F24 D17 Gdr D23 Grw D22 (Gtr 9)
 have Gln:=Zip (P:=l.prog) (w:=w) (base:=base) F26 D26
 have LD:ClD K CD:=⟨CCD,nCD_1,nCD_2⟩
 have LL:ClL K CL:=⟨CCL,nCL_1,nCL_2⟩
 have Gsgo:=ok_stopgo (P:=l.prog) (w:=w) (mg:=mg) (base:=base) F47
 have Gshe:=ok_stophere (P:=l.prog) (w:=w) (mg:=mg) (base:=base) F48
 have Gdi:=ok_doinit (P:=l.prog) (w:=w) (mg:=mg) (base:=base) F52 LD
 have Gdgo:=ok_dogo (P:=l.prog) (w:=w) (mg:=mg) (base:=base) F55 LD
 have Gdhe:=ok_dohere (P:=l.prog) (w:=w) (mg:=mg) (base:=base) F56 LD
 have Gcw:=ok_checkways (P:=l.prog) (w:=w) (base:=base) F15 T
 have Glhe:=ok_lkhere (P:=l.prog) (w:=w) (mg:=mg) (base:=base) F65 LL
 have Glw:=ok_lkways (P:=l.prog) (w:=w) (base:=base) F61 LL T
 have Glgo:=ok_lkgo (P:=l.prog) (w:=w) (base:=base) F64 LL b61 ⟨a61,i61,k61⟩ Glw
 have Gli:=ok_lkinit (P:=l.prog) (w:=w) (base:=base) F60 LL T D15 Gcw
 have VGS:MV l.prog w K mg base CS "goes_on" 1 spStopGo:=⟨CCS,_,_,⟨a47,i47,k47⟩,Gsgo,b47⟩
 have VGD:MV l.prog w K mg base CD "goes_on" 1 (spDoGo CD):=⟨CCD,_,_,⟨a55,i55,k55⟩,Gdgo,b55⟩
 have VGL:MV l.prog w K mg base CL "goes_on" 2 (spLkWays CL):=⟨CCL,_,_,⟨a64,i64,k64⟩,Glgo,b64⟩
 have Gri:=ok_rowsin (P:=l.prog) (w:=w) (base:=base) (C:=⟨CS,CD,CL⟩) F13 T VGS VGD VGL
 have VHS:MV l.prog w K mg base CS "line_here" 1 spStopHere:=⟨CCS,_,_,⟨a48,i48,k48⟩,Gshe,b48⟩
 have VHD:MV l.prog w K mg base CD "line_here" 1 (spDoHere CD):=⟨CCD,_,_,⟨a56,i56,k56⟩,Gdhe,b56⟩
 have VHL:MV l.prog w K mg base CL "line_here" 1 (spLkHere CL):=⟨CCL,_,_,⟨a65,i65,k65⟩,Glhe,b65⟩
 have GlS:=Zgr (P:=l.prog) (w:=w) (base:=base) (C:=⟨CS,CD,CL⟩) F49 D13 Gri VHS VHD VHL
 have VLS:MV l.prog w K mg base CS "lines" 4 (spLinesP ⟨CS,CD,CL⟩):=⟨CCS,_,_,⟨a49,i49,k49⟩,GlS,b49⟩
 have GlD:=Zgr (P:=l.prog) (w:=w) (base:=base) (C:=⟨CS,CD,CL⟩) F57 D13 Gri VHS VHD VHL
 have VLD:MV l.prog w K mg base CD "lines" 4 (spLinesP ⟨CS,CD,CL⟩):=⟨CCD,_,_,⟨a57,i57,k57⟩,GlD,b57⟩
 have GlL:=Zgr (P:=l.prog) (w:=w) (base:=base) (C:=⟨CS,CD,CL⟩) F66 D13 Gri VHS VHD VHL
 have VLL:MV l.prog w K mg base CL "lines" 4 (spLinesP ⟨CS,CD,CL⟩):=⟨CCL,_,_,⟨a66,i66,k66⟩,GlL,b66⟩
 have VWL:MV l.prog w K mg base CL "ways" 1 (spLkWays CL):=⟨CCL,_,_,⟨a61,i61,k61⟩,Glw,b61⟩
 have Gcd:=ok_checkdeed (P:=l.prog) (w:=w) (base:=base) F42 L R'
 have Gcl:=ok_checklook (P:=l.prog) (w:=w) (base:=base) F43 L R'
 have Gck:=ok_checkstep (P:=l.prog) (w:=w) (base:=base) F44 L R'
 have Gpo:=ok_priceof (P:=l.prog) (w:=w) (base:=base) F41 L R' b44 ⟨a44,i44,k44⟩ Gck
 have Gpr:=ok_price (P:=l.prog) (w:=w) (base:=base) F30 D17 Gdr D16 Gce
 have Gwh:=ok_whole (P:=l.prog) (w:=w) (base:=base) F29 T
 have Ggs:=ok_gsum (P:=l.prog) (w:=w) (base:=base) (C:=⟨CS,CD,CL⟩) F14 T
 have S0:=ok_st0 (P:=l.prog) (w:=w) (mg:=mg) (base:=base) F45
 have S1:=ok_st1 (P:=l.prog) (w:=w) (mg:=mg) (base:=base) F53
 have S2:=ok_st2 (P:=l.prog) (w:=w) (mg:=mg) (base:=base) F62
 have P0:=ok_ph0 (P:=l.prog) (w:=w) (mg:=mg) (base:=base) F46
 have P1:=ok_ph1 (P:=l.prog) (w:=w) (base:=base) F54 LD L b42 ⟨a42,i42,k42⟩ Gcd b41 ⟨a41,i41,k41⟩ Gpo
 have P2:=ok_ph2 (P:=l.prog) (w:=w) (base:=base) F63 LL L b43 ⟨a43,i43,k43⟩ Gcl b41 ⟨a41,i41,k41⟩ Gpo
 have VS0:MV l.prog w K mg base CS "steps_here" 1 (spSt 0):=⟨CCS,_,_,⟨a45,i45,k45⟩,S0,b45⟩
 have VS1:MV l.prog w K mg base CD "steps_here" 1 (spSt 1):=⟨CCD,_,_,⟨a53,i53,k53⟩,S1,b53⟩
 have VS2:MV l.prog w K mg base CL "steps_here" 1 (spSt 1):=⟨CCL,_,_,⟨a62,i62,k62⟩,S2,b62⟩
 have hPh:∀ (A:PySem.Around),Room 3 A→∀ C' sp,VPh ⟨CS,CD,CL⟩ C NN C' sp→∃ (k:Nat) (f:Addr) (fd:FuncData) (ps:List Str),Cls K C'∧Meth K C' "price_here" f∧FnOk l.prog w K mg base (CXe l.prog w) k f fd ps sp∧Room k A∧Binds K fd ps []:=fun A hA C' sp hv=>by
  rcases hv with ⟨rfl,rfl⟩ | ⟨rfl,rfl⟩ | ⟨rfl,rfl⟩
  ·exact ⟨1,_,_,_,CCS,⟨a46,i46,k46⟩,FnOk.up6 P0,hA.mono (by decide),b46⟩
  ·exact ⟨3,_,_,_,CCD,⟨a54,i54,k54⟩,P1,hA,b54⟩
  ·exact ⟨3,_,_,_,CCL,⟨a63,i63,k63⟩,P2,hA,b63⟩
 have GdeS:=Zh0 (P:=l.prog) (w:=w) (base:=base) (C:=⟨CS,CD,CL⟩) F50 D13 Gri D14 Ggs VS0 VS1 VS2
 have GpbS:=Zfu (P:=l.prog) (w:=w) (base:=base) (C:=⟨CS,CD,CL⟩) F51 D13 Gri D14 Ggs hPh
 have GdeD:=Zh0 (P:=l.prog) (w:=w) (base:=base) (C:=⟨CS,CD,CL⟩) F58 D13 Gri D14 Ggs VS0 VS1 VS2
 have GpbD:=Zfu (P:=l.prog) (w:=w) (base:=base) (C:=⟨CS,CD,CL⟩) F59 D13 Gri D14 Ggs hPh
 have GdeL:=Zh0 (P:=l.prog) (w:=w) (base:=base) (C:=⟨CS,CD,CL⟩) F67 D13 Gri D14 Ggs VS0 VS1 VS2
 have GpbL:=Zfu (P:=l.prog) (w:=w) (base:=base) (C:=⟨CS,CD,CL⟩) F68 D13 Gri D14 Ggs hPh
 have hPb:∀ (A:PySem.Around),Room 4 A→∀ C' sp,VPb ⟨CS,CD,CL⟩ C NN C' sp→∃ (k:Nat) (f:Addr) (fd:FuncData) (ps:List Str),Cls K C'∧Meth K C' "price_by" f∧FnOk l.prog w K mg base (CXe l.prog w) k f fd ps sp∧Room k A∧Binds K fd ps []:=fun A hA C' sp hv=>by
  obtain ⟨h1,rfl⟩:=hv
  rcases h1 with rfl | rfl | rfl
  ·exact ⟨4,_,_,_,CCS,⟨a51,i51,k51⟩,GpbS,hA,b51⟩
  ·exact ⟨4,_,_,_,CCD,⟨a59,i59,k59⟩,GpbD,hA,b59⟩
  ·exact ⟨4,_,_,_,CCL,⟨a68,i68,k68⟩,GpbL,hA,b68⟩
 have hDp:∀ (A:PySem.Around),Room 4 A→∀ C' sp,VDp ⟨CS,CD,CL⟩ C' sp→∃ (k:Nat) (f:Addr) (fd:FuncData) (ps:List Str),Cls K C'∧Meth K C' "depth" f∧FnOk l.prog w K mg base CX0 k f fd ps sp∧Room k A∧Binds K fd ps []:=fun A hA C' sp hv=>by
  obtain ⟨h1,rfl⟩:=hv
  rcases h1 with rfl | rfl | rfl
  ·exact ⟨4,_,_,_,CCS,⟨a50,i50,k50⟩,GdeS,hA,b50⟩
  ·exact ⟨4,_,_,_,CCD,⟨a58,i58,k58⟩,GdeD,hA,b58⟩
  ·exact ⟨4,_,_,_,CCL,⟨a67,i67,k67⟩,GdeL,hA,b67⟩
 have hLn:∀ (A:PySem.Around),Room 4 A→∀ C' sp,VLn ⟨CS,CD,CL⟩ C' sp→∃ (k:Nat) (f:Addr) (fd:FuncData) (ps:List Str),Cls K C'∧Meth K C' "lines" f∧FnOk l.prog w K mg base CX0 k f fd ps sp∧Room k A∧Binds K fd ps []:=fun A hA C' sp hv=>by
  obtain ⟨h1,rfl⟩:=hv
  rcases h1 with rfl | rfl | rfl
  ·exact ⟨4,_,_,_,CCS,⟨a49,i49,k49⟩,GlS,hA,b49⟩
  ·exact ⟨4,_,_,_,CCD,⟨a57,i57,k57⟩,GlD,hA,b57⟩
  ·exact ⟨4,_,_,_,CCL,⟨a66,i66,k66⟩,GlL,hA,b66⟩
 have Gis:=ok_is (P:=l.prog) (w:=w) (base:=base) (C:=⟨CS,CD,CL⟩) F27 T ⟨iPS,iPD,iPL⟩ LD LL (mg_of X G aCP) (mg_of X G aCS) (mg_of X G aCD) (mg_of X G aCL) VWL D27 (fun n G=>ok_waysare F28 T D27 G) D28
 have Gpn:=Zj3 (P:=l.prog) (w:=w) (base:=base) (C:=⟨CS,CD,CL⟩) F25 D25 ⟨mkCS,oS1,oS2,kcCS⟩ (mg_of X G aCS) ⟨mkCD,a52,i52,kcCD⟩ (mg_of X G aCD) b52 Gdi ⟨mkCL,a60,i60,kcCL⟩ (mg_of X G aCL) b60 Gli
 have Gld:=Ziq (P:=l.prog) (w:=w) (base:=base) F33 T D33
 have Glc:=Zj4 (P:=l.prog) (w:=w) (base:=base) F34 T D34
 have Gpx:=ok_prices (P:=l.prog) (w:=w) (base:=base) F31 T D30 Gpr
 have Gtx:=ok_texts (P:=l.prog) (w:=w) (base:=base) F37 T
 have Gnp:=ok_noprice (P:=l.prog) (w:=w) (base:=base) (C:=⟨CS,CD,CL⟩) F36 R' hPb
 have Gch:=ok_lchart (P:=l.prog) (w:=w) (base:=base) F32 ⟨mkC,a40,i40,kcC⟩ (mg_of X G aC) b40 Gin
 have Glo:=Zio (P:=l.prog) (w:=w) (base:=base) F35 D35
 have Gwy:=ok_waysstay (P:=l.prog) (w:=w) (base:=base) (C:=⟨CS,CD,CL⟩) F38 D25 (Gpn 42) D27 (Gis 41) ⟨mkCL,a60,i60,kcCL⟩ (mg_of X G aCL) b60 Gli VWL
 exact ok_law (C:=⟨CS,CD,CL⟩) (CC:=C) F39 T R' D20 Gnm D31 Gpx D24 Gdt D25 (Gpn 42) D32 Gch D27 (Gis 41) D37 Gtx D26 (Gln 41) D29 Gwh D33 (Gld 41) D34 (Glc 41) D36 Gnp D19 Gws D35 (Glo 41) D38 Gwy D22 (Gtr 39) hLn hDp hPb
theorem walk {l:PySem.W.OpenLaw} {q:Program} {loose:List Str} {XP:(Str→Option Value)→Heap→Prop} {YP:World→Heap→Prop} {d:DefRec} {K:Params→PySem.W.Frag} (hn:l.most=some 63) (hdf:d.params.defaults=[])
  (hY:∀ (w:World) (h:Heap),YP w h→(K w.params).In h)
  (F:∀ (w:World) (mg:Str→Option Value) (fa:Addr) (h:Heap),(K w.params).In h→h.Ns mainGlobals mg→mg d.name=some (.ref fa) →
   ∃ fd:FuncData,(∀ (s:Shared) (u:Value),BindsTo s fd ⟨[u],[]⟩ [("_law_script",u)])∧∀ base:Heap,(K w.params).In base→base.Ns mainGlobals mg→FnOk l.prog w (K w.params) mg base CX0 120 fa fd ["_law_script"] (spLaw (K w.params))) :
  PySem.W.WalkO q loose XP YP l.row.toRowW d [] (fun f vs=>PySem.call f vs):=
 L2.walk_of (n:=63) (k:=120) (x := "_law_script") (CX:=fun _=>CX0) (sp:=fun w=>spLaw (K w.params)) hn (by decide) hdf ⟨rfl,by decide,by decide⟩ hY F (fun _ _ a ns hl _ hS=>⟨a,ns,rfl,hS,hl,fun _=>rfl⟩) fun _ _ _ _ _ z=>z
end K36
def PySem.W.Fast.tw16086268809137923365:Nat:=0
def PySem.W.Fast.tw1577177141202483521:Nat:=0
def PySem.W.Fast.tw8207382878786004035:Nat:=0
def PySem.W.Fast.tw18191572297201774015:Nat:=0
def PySem.W.Fast.tw5776576870979533477:Nat:=0
def PySem.W.Fast.tw16005743603523971626:Nat:=0
def PySem.W.Fast.tw380331959326703167:Nat:=0
def PySem.W.Fast.tw18416631696881278372:Nat:=0
def PySem.W.Fast.tw3058711545237767834:Nat:=0
def PySem.W.Fast.tw3330728951777867800:Nat:=0
def PySem.W.Fast.tw13959421117896282132:Nat:=0
def PySem.W.Fast.tw9246353855646456905:Nat:=0
def PySem.W.Fast.tw8972889689669769559:Nat:=0
def PySem.W.Fast.tw6854398991589410171:Nat:=0
def PySem.W.Fast.tw14845196545335722785:Nat:=0
def PySem.W.Fast.tw10154716918688886757:Nat:=0
def PySem.W.Fast.tw15942856548797166723:Nat:=0
def PySem.W.Fast.tw11702613536587764545:Nat:=0
def PySem.W.Fast.tw1380738223358081744:Nat:=0
def PySem.W.Fast.tw13626342277633510996:Nat:=0
def PySem.W.Fast.tw918877851649297199:Nat:=0
def PySem.W.Fast.tw11101075435816029028:Nat:=0
def PySem.W.Fast.tw10231537429693405082:Nat:=0
def PySem.W.Fast.tw15609255427054423989:Nat:=0
def PySem.W.Fast.tw10167248245821592890:Nat:=0
def PySem.W.Fast.tw134726938287920637:Nat:=0
def PySem.W.Fast.tw9305253713902569805:Nat:=0
def PySem.W.Fast.tw2495120159871431438:Nat:=0
def PySem.W.Fast.tw6891511057106509152:Nat:=0
def PySem.W.Fast.tw5444557638488136969:Nat:=0
open PySem PySem.W PyProof.Rows
set_option maxRecDepth 100000 in
set_option maxHeartbeats 0 in
theorem PySem.Challenge.cw_grope_k36_a_plan_told_holds : PySem.Challenge.rw_grope_k36_a_plan_told.Holds := by
 w_on; o_law; k_head; (case hw=>w_witness2)
 k_fill
 refine K36.walk (l:=PySem.Challenge.rw_grope_k36_a_plan_told) rfl rfl (fun w h Y=>PySem.W.kIn_of Y) ?F
 case F=>
  intro w mg fa h KX G hmg
  refine' K36.all_mk KX G hmg ?a1 ?l1 ?c1 ?k1 ?a2 ?l2 ?c2 ?k2 ?a3 ?l3 ?c3 ?k3 ?a4 ?l4 ?c4 ?k4 ?a5 ?l5 ?c5 ?k5 ?a6 ?l6 ?c6 ?k6 ?a7 ?l7 ?c7 ?k7 ?a8 ?l8 ?c8 ?k8 ?a9 ?l9 ?c9 ?k9 ?a10 ?l10 ?c10 ?k10 ?a11 ?l11 ?c11 ?k11 ?a12 ?l12 ?c12 ?k12 ?a13 ?l13 ?c13 ?k13 ?a14 ?l14 ?c14 ?k14 ?a15 ?l15 ?c15 ?k15 ?a16 ?l16 ?c16 ?k16 ?a17 ?l17 ?c17 ?k17 ?a18 ?l18 ?c18 ?k18 ?a19 ?l19 ?c19 ?k19 ?a20 ?l20 ?c20 ?k20 ?a21 ?l21 ?c21 ?k21 ?a22 ?l22 ?c22 ?k22 ?a23 ?l23 ?c23 ?k23 ?a24 ?l24 ?c24 ?k24 ?a25 ?l25 ?c25 ?k25 ?a26 ?l26 ?c26 ?k26 ?a27 ?l27 ?c27 ?k27 ?a28 ?l28 ?c28 ?k28 ?a29 ?l29 ?c29 ?k29 ?a30 ?l30 ?c30 ?k30 ?a31 ?l31 ?c31 ?k31 ?a32 ?l32 ?c32 ?k32 ?a33 ?l33 ?c33 ?k33 ?a34 ?l34 ?c34 ?k34 ?a35 ?l35 ?c35 ?k35 ?a36 ?l36 ?c36 ?k36 ?a37 ?l37 ?c37 ?k37 ?a38 ?l38 ?c38 ?k38 ?a39 ?l39 ?c39 ?k39 ?aC ?pgC ?hdC ?poC ?saC ?mkC ?kcC ?nC_1 ?nC_2 ?nC_3 ?nC_4 ?nC_5 ?nC_6 ?aCP ?pgCP ?hdCP ?poCP ?saCP ?mkCP ?kcCP ?aCS ?pgCS ?hdCS ?poCS ?saCS ?mkCS ?kcCS ?aCD ?pgCD ?hdCD ?poCD ?saCD ?mkCD ?kcCD ?nCD_1 ?nCD_2 ?aCL ?pgCL ?hdCL ?poCL ?saCL ?mkCL ?kcCL ?nCL_1 ?nCL_2 ?a40 ?i40 ?l40 ?c40 ?k40 ?a41 ?i41 ?l41 ?c41 ?k41 ?a42 ?i42 ?l42 ?c42 ?k42 ?a43 ?i43 ?l43 ?c43 ?k43 ?a44 ?i44 ?l44 ?c44 ?k44 ?a45 ?i45 ?l45 ?c45 ?k45 ?a46 ?i46 ?l46 ?c46 ?k46 ?a47 ?i47 ?l47 ?c47 ?k47 ?a48 ?i48 ?l48 ?c48 ?k48 ?a49 ?i49 ?l49 ?c49 ?k49 ?a50 ?i50 ?l50 ?c50 ?k50 ?a51 ?i51 ?l51 ?c51 ?k51 ?a52 ?i52 ?l52 ?c52 ?k52 ?a53 ?i53 ?l53 ?c53 ?k53 ?a54 ?i54 ?l54 ?c54 ?k54 ?a55 ?i55 ?l55 ?c55 ?k55 ?a56 ?i56 ?l56 ?c56 ?k56 ?a57 ?i57 ?l57 ?c57 ?k57 ?a58 ?i58 ?l58 ?c58 ?k58 ?a59 ?i59 ?l59 ?c59 ?k59 ?a60 ?i60 ?l60 ?c60 ?k60 ?a61 ?i61 ?l61 ?c61 ?k61 ?a62 ?i62 ?l62 ?c62 ?k62 ?a63 ?i63 ?l63 ?c63 ?k63 ?a64 ?i64 ?l64 ?c64 ?k64 ?a65 ?i65 ?l65 ?c65 ?k65 ?a66 ?i66 ?l66 ?c66 ?k66 ?a67 ?i67 ?l67 ?c67 ?k67 ?a68 ?i68 ?l68 ?c68 ?k68 ?aG ?aE ?oG ?oE ?sE ?gW ?vW ?gS ?vS ?gN ?vN ?gR ?vR ?oS1 ?oS2 ?iPS ?iPD ?iPL ?z1 ?z2 ?z3 ?z4 ?z5 ?z6 ?z7 ?z8 ?z9 ?z10 ?z11 ?z12 ?z13 ?z14 ?z15 ?z16 ?z17 ?z18
  (case a1=>k_is)
  (case l1=>k_is)
  (case c1=>k_is)
  (case k1=>k_is)
  (case a2=>k_is)
  (case l2=>k_is)
  (case c2=>k_is)
  (case k2=>k_is)
  (case a3=>k_is)
  (case l3=>k_is)
  (case c3=>k_is)
  (case k3=>k_is)
  (case a4=>k_is)
  (case l4=>k_is)
  (case c4=>k_is)
  (case k4=>k_is)
  (case a5=>k_is)
  (case l5=>k_is)
  (case c5=>k_is)
  (case k5=>k_is)
  (case a6=>k_is)
  (case l6=>k_is)
  (case c6=>k_is)
  (case k6=>k_is)
  (case a7=>k_is)
  (case l7=>k_is)
  (case c7=>k_is)
  (case k7=>k_is)
  (case a8=>k_is)
  (case l8=>k_is)
  (case c8=>k_is)
  (case k8=>k_is)
  (case a9=>k_is)
  (case l9=>k_is)
  (case c9=>k_is)
  (case k9=>k_is)
  (case a10=>k_is)
  (case l10=>k_is)
  (case c10=>k_is)
  (case k10=>k_is)
  (case a11=>k_is)
  (case l11=>k_is)
  (case c11=>k_is)
  (case k11=>k_is)
  (case a12=>k_is)
  (case l12=>k_is)
  (case c12=>k_is)
  (case k12=>k_is)
  (case a13=>k_is)
  (case l13=>k_is)
  (case c13=>k_is)
  (case k13=>k_is)
  (case a14=>k_is)
  (case l14=>k_is)
  (case c14=>k_is)
  (case k14=>k_is)
  (case a15=>k_is)
  (case l15=>k_is)
  (case c15=>k_is)
  (case k15=>k_is)
  (case a16=>k_is)
  (case l16=>k_is)
  (case c16=>k_is)
  (case k16=>k_is)
  (case a17=>k_is)
  (case l17=>k_is)
  (case c17=>k_is)
  (case k17=>k_is)
  (case a18=>k_is)
  (case l18=>k_is)
  (case c18=>k_is)
  (case k18=>k_is)
  (case a19=>k_is)
  (case l19=>k_is)
  (case c19=>k_is)
  (case k19=>k_is)
  (case a20=>k_is)
  (case l20=>k_is)
  (case c20=>k_is)
  (case k20=>k_is)
  (case a21=>k_is)
  (case l21=>k_is)
  (case c21=>k_is)
  (case k21=>k_is)
  (case a22=>k_is)
  (case l22=>k_is)
  (case c22=>k_is)
  (case k22=>k_is)
  (case a23=>k_is)
  (case l23=>k_is)
  (case c23=>k_is)
  (case k23=>k_is)
  (case a24=>k_is)
  (case l24=>k_is)
  (case c24=>k_is)
  (case k24=>k_is)
  (case a25=>k_is)
  (case l25=>k_is)
  (case c25=>k_is)
  (case k25=>k_is)
  (case a26=>k_is)
  (case l26=>k_is)
  (case c26=>k_is)
  (case k26=>k_is)
  (case a27=>k_is)
  (case l27=>k_is)
  (case c27=>k_is)
  (case k27=>k_is)
  (case a28=>k_is)
  (case l28=>k_is)
  (case c28=>k_is)
  (case k28=>k_is)
  (case a29=>k_is)
  (case l29=>k_is)
  (case c29=>k_is)
  (case k29=>k_is)
  (case a30=>k_is)
  (case l30=>k_is)
  (case c30=>k_is)
  (case k30=>k_is)
  (case a31=>k_is)
  (case l31=>k_is)
  (case c31=>k_is)
  (case k31=>k_is)
  (case a32=>k_is)
  (case l32=>k_is)
  (case c32=>k_is)
  (case k32=>k_is)
  (case a33=>k_is)
  (case l33=>k_is)
  (case c33=>k_is)
  (case k33=>k_is)
  (case a34=>k_is)
  (case l34=>k_is)
  (case c34=>k_is)
  (case k34=>k_is)
  (case a35=>k_is)
  (case l35=>k_is)
  (case c35=>k_is)
  (case k35=>k_is)
  (case a36=>k_is)
  (case l36=>k_is)
  (case c36=>k_is)
  (case k36=>k_is)
  (case a37=>k_is)
  (case l37=>k_is)
  (case c37=>k_is)
  (case k37=>k_is)
  (case a38=>k_is)
  (case l38=>k_is)
  (case c38=>k_is)
  (case k38=>k_is)
  (case a39=>k_is)
  (case l39=>k_is)
  (case c39=>k_is)
  (case k39=>k_is)
  (case aC=>k_is)
  (case pgC=>k_is)
  (case hdC=>k_is)
  (case poC=>k_is)
  (case saC=>k_is)
  (case mkC=>k_is)
  (case kcC=>k_is)
  (case nC_1=>k_is)
  (case nC_2=>k_is)
  (case nC_3=>k_is)
  (case nC_4=>k_is)
  (case nC_5=>k_is)
  (case nC_6=>k_is)
  (case aCP=>k_is)
  (case pgCP=>k_is)
  (case hdCP=>k_is)
  (case poCP=>k_is)
  (case saCP=>k_is)
  (case mkCP=>k_is)
  (case kcCP=>k_is)
  (case aCS=>k_is)
  (case pgCS=>k_is)
  (case hdCS=>k_is)
  (case poCS=>k_is)
  (case saCS=>k_is)
  (case mkCS=>k_is)
  (case kcCS=>k_is)
  (case aCD=>k_is)
  (case pgCD=>k_is)
  (case hdCD=>k_is)
  (case poCD=>k_is)
  (case saCD=>k_is)
  (case mkCD=>k_is)
  (case kcCD=>k_is)
  (case nCD_1=>k_is)
  (case nCD_2=>k_is)
  (case aCL=>k_is)
  (case pgCL=>k_is)
  (case hdCL=>k_is)
  (case poCL=>k_is)
  (case saCL=>k_is)
  (case mkCL=>k_is)
  (case kcCL=>k_is)
  (case nCL_1=>k_is)
  (case nCL_2=>k_is)
  (case a40=>k_is)
  (case i40=>k_is)
  (case l40=>k_is)
  (case c40=>k_is)
  (case k40=>k_is)
  (case a41=>k_is)
  (case i41=>k_is)
  (case l41=>k_is)
  (case c41=>k_is)
  (case k41=>k_is)
  (case a42=>k_is)
  (case i42=>k_is)
  (case l42=>k_is)
  (case c42=>k_is)
  (case k42=>k_is)
  (case a43=>k_is)
  (case i43=>k_is)
  (case l43=>k_is)
  (case c43=>k_is)
  (case k43=>k_is)
  (case a44=>k_is)
  (case i44=>k_is)
  (case l44=>k_is)
  (case c44=>k_is)
  (case k44=>k_is)
  (case a45=>k_is)
  (case i45=>k_is)
  (case l45=>k_is)
  (case c45=>k_is)
  (case k45=>k_is)
  (case a46=>k_is)
  (case i46=>k_is)
  (case l46=>k_is)
  (case c46=>k_is)
  (case k46=>k_is)
  (case a47=>k_is)
  (case i47=>k_is)
  (case l47=>k_is)
  (case c47=>k_is)
  (case k47=>k_is)
  (case a48=>k_is)
  (case i48=>k_is)
  (case l48=>k_is)
  (case c48=>k_is)
  (case k48=>k_is)
  (case a49=>k_is)
  (case i49=>k_is)
  (case l49=>k_is)
  (case c49=>k_is)
  (case k49=>k_is)
  (case a50=>k_is)
  (case i50=>k_is)
  (case l50=>k_is)
  (case c50=>k_is)
  (case k50=>k_is)
  (case a51=>k_is)
  (case i51=>k_is)
  (case l51=>k_is)
  (case c51=>k_is)
  (case k51=>k_is)
  (case a52=>k_is)
  (case i52=>k_is)
  (case l52=>k_is)
  (case c52=>k_is)
  (case k52=>k_is)
  (case a53=>k_is)
  (case i53=>k_is)
  (case l53=>k_is)
  (case c53=>k_is)
  (case k53=>k_is)
  (case a54=>k_is)
  (case i54=>k_is)
  (case l54=>k_is)
  (case c54=>k_is)
  (case k54=>k_is)
  (case a55=>k_is)
  (case i55=>k_is)
  (case l55=>k_is)
  (case c55=>k_is)
  (case k55=>k_is)
  (case a56=>k_is)
  (case i56=>k_is)
  (case l56=>k_is)
  (case c56=>k_is)
  (case k56=>k_is)
  (case a57=>k_is)
  (case i57=>k_is)
  (case l57=>k_is)
  (case c57=>k_is)
  (case k57=>k_is)
  (case a58=>k_is)
  (case i58=>k_is)
  (case l58=>k_is)
  (case c58=>k_is)
  (case k58=>k_is)
  (case a59=>k_is)
  (case i59=>k_is)
  (case l59=>k_is)
  (case c59=>k_is)
  (case k59=>k_is)
  (case a60=>k_is)
  (case i60=>k_is)
  (case l60=>k_is)
  (case c60=>k_is)
  (case k60=>k_is)
  (case a61=>k_is)
  (case i61=>k_is)
  (case l61=>k_is)
  (case c61=>k_is)
  (case k61=>k_is)
  (case a62=>k_is)
  (case i62=>k_is)
  (case l62=>k_is)
  (case c62=>k_is)
  (case k62=>k_is)
  (case a63=>k_is)
  (case i63=>k_is)
  (case l63=>k_is)
  (case c63=>k_is)
  (case k63=>k_is)
  (case a64=>k_is)
  (case i64=>k_is)
  (case l64=>k_is)
  (case c64=>k_is)
  (case k64=>k_is)
  (case a65=>k_is)
  (case i65=>k_is)
  (case l65=>k_is)
  (case c65=>k_is)
  (case k65=>k_is)
  (case a66=>k_is)
  (case i66=>k_is)
  (case l66=>k_is)
  (case c66=>k_is)
  (case k66=>k_is)
  (case a67=>k_is)
  (case i67=>k_is)
  (case l67=>k_is)
  (case c67=>k_is)
  (case k67=>k_is)
  (case a68=>k_is)
  (case i68=>k_is)
  (case l68=>k_is)
  (case c68=>k_is)
  (case k68=>k_is)
  (case aG=>k_is)
  (case aE=>k_is)
  (case oG=>k_exc)
  (case oE=>k_exc)
  (case sE=>first | rfl | (with_unfolding_all rfl) | exact Eq.refl true)
  (case gW=>k_is)
  (case vW=>first | rfl | decide +kernel | k_is)
  (case gS=>k_is)
  (case vS=>first | rfl | decide +kernel | k_is)
  (case gN=>k_is)
  (case vN=>first | rfl | decide +kernel | k_is)
  (case gR=>k_is)
  (case vR=>first | rfl | decide +kernel | k_is)
  (case oS1=>k_is)
  (case oS2=>k_is)
  (case iPS=>k_is)
  (case iPD=>k_is)
  (case iPL=>k_is)
  (case z1=>k_is)
  (case z2=>k_is)
  (case z3=>k_is)
  (case z4=>k_is)
  (case z5=>k_is)
  (case z6=>k_is)
  (case z7=>k_is)
  (case z8=>k_is)
  (case z9=>k_is)
  (case z10=>k_is)
  (case z11=>k_is)
  (case z12=>k_is)
  (case z13=>k_is)
  (case z14=>k_is)
  (case z15=>k_is)
  (case z16=>k_is)
  (case z17=>k_is)
  (case z18=>k_is)
#print axioms PySem.Challenge.cw_grope_k36_a_plan_told_holds
