import PyProof.Rows.All
import Wide.All
import OpenK.AllK
import Wide.FinOn
import Lean
import PyProof.EqAt
import PyProof.EqKinds
import PyProof.TupleCall
import PySem.Challenge.RW_grope_k44_least_by_table
set_option Elab.async false
set_option linter.all false
set_option maxRecDepth 100000
set_option maxHeartbeats 4000000
open Nat (lt_of_lt_of_le lt_irrefl ne_of_lt le_trans le_of_lt ne_of_gt zero_le le_of_eq lt_succ_self le_succ lt_trans le_of_not_lt lt_of_le_of_lt lt_succ_of_lt lt_or_ge mod_lt testBit_or testBit_two_pow zero_testBit eq_of_testBit_eq testBit_and testBit_lt_two_pow two_pow_pos pow_le_pow_right lt_pow_two_of_testBit pow_lt_pow_right add_le_add_right le_succ_of_le)
open List (mem_filter mem_range filterMap_cons mem_cons_self mem_cons_of_mem mem_cons mem_append mem_append_left getElem_inj mem_filterMap mem_append_right size_toArray any_eq_false length_cons map_cons length_map append_nil nodup_cons of_mem_zip replicate length_take getElem?_append_right getElem?_replicate getElem?_append_left getElem?_map getElem?_take_of_lt take_sublist mem_of_getElem? length_append length_replicate length_singleton find?_cons any_cons length_nil map_nil nodup_nil mem_map any_eq_true mem_singleton lookup_cons not_mem_nil all_eq_true getElem_mem getElem?_toArray pairwise_iff_getElem pairwise_lt_range length_eq_zero_iff getElem?_eq_getElem append_assoc ext_getElem length_range map_map take_succ_eq_append_getElem take_length getElem?_eq_none foldl_cons getD_eq_getElem?_getD not_lt getElem?_of_mem pairwise_map map_append perm_ext_iff_of_nodup take_zero map_take nodup_append range_succ filter_append filter_congr filter_eq_nil_iff map_congr_left mem_of_mem_take length_filter_le take_of_length_le length_drop take_succ pairwise_cons)
open Option (isSome_iff_exists map_some isSome_map map_eq_some_iff isSome)
open Bool (false_eq_true and_eq_true not_eq_true')
open Int (toNat_natCast one_mul emod_nonneg emod_lt_of_pos toNat_of_nonneg ofNat)
namespace L2
open PySem PySem.Spec PyProof.Rows
noncomputable abbrev Key:=Sum Int Str
noncomputable def Ze8:Key→Value→Bool
 | .inl k,v=>Value.isInt k v
 | .inr x,v=>Value.isStrOf x v
noncomputable def keyH (w:World):Key→Int
 | .inl k=>hashInt k
 | .inr x=>hashStr w x
theorem Zax:∀{k:Key}{v:Value},Ze8 k v=true→(∃i t,k=Sum.inl i∧v=Value.int i t)∨(∃x t,k=Sum.inr x∧v=Value.str x t)
 | .inl i,v,h=>by
  obtain⟨t,e⟩:=Value.isInt_shape (k:=i) (v:=v) h
  exact .inl ⟨i,t,rfl,e⟩
 | .inr x,v,h=>by
  obtain⟨t,e⟩:=Value.isStrOf_shape (x:=x) (v:=v) h
  exact .inr ⟨x,t,rfl,e⟩
theorem keyIs_int (i:Int) (t:Tok):Ze8 (.inl i) (.int i t)=true:=by simp[Ze8,Value.isInt]
theorem keyIs_str (x:Str) (t:Tok):Ze8 (.inr x) (.str x t)=true:=by simp[Ze8,Value.isStrOf]
theorem key_ll (a b:Int):decide ((Sum.inl a:Key)=Sum.inl b)=(a == b):=by
 by_cases e:a=b
 ·subst e; simp
 have h:¬(Sum.inl a:Key)=Sum.inl b:=λq=>e (Sum.inl.inj q)
 rw[decide_eq_false h]
 exact(beq_eq_false_iff_ne.mpr e).symm
theorem key_rr (a b:Str):decide ((Sum.inr a:Key)=Sum.inr b)=decide (a=b):=by
 by_cases e:a=b
 ·subst e; simp
 have h:¬(Sum.inr a:Key)=Sum.inr b:=λq=>e (Sum.inr.inj q)
 rw[decide_eq_false h,decide_eq_false e]
theorem key_lr (a:Int) (b:Str):decide ((Sum.inl a:Key)=Sum.inr b)=false:=decide_eq_false (λq=>nomatch q)
theorem key_rl (a:Str) (b:Int):decide ((Sum.inr a:Key)=Sum.inl b)=false:=decide_eq_false (λq=>nomatch q)
noncomputable def Zat (prog:Program) (w:World):PySem.KeyKind prog w Key where
 is:=Ze8
 hash:=keyH w
 inj:=λv a b ha hb=>by
  rcases Zax ha with⟨i,t,rfl,rfl⟩ | ⟨x,t,rfl,rfl⟩
  ·rcases Zax hb with⟨j,u,rfl,e⟩ | ⟨y,u,rfl,e⟩
   ·injection e with e1 _; rw[e1]
   exact nomatch e
  rcases Zax hb with⟨j,u,rfl,e⟩ | ⟨y,u,rfl,e⟩
  ·exact nomatch e
  injection e with e1 _; rw[e1]
 byValue:=λk v h=>by
  rcases Zax h with⟨i,t,rfl,rfl⟩ | ⟨x,t,rfl,rfl⟩ <;> rfl
 pyHash:=λhv h=>by
  rcases Zax hv with⟨i,t,rfl,rfl⟩ | ⟨x,t,rfl,rfl⟩
  ·exact wpAny_pyHash_int h
  exact wpAny_pyHash_str h
 eqBool:=λhu hv h=>by
  rcases Zax hu with⟨i,t,rfl,rfl⟩ | ⟨x,t,rfl,rfl⟩
  ·rcases Zax hv with⟨j,u,rfl,rfl⟩ | ⟨y,u,rfl,rfl⟩
   ·rw[key_ll]at h; exact wpAny_eqBool_int h
   rw[key_lr]at h; exact SeqAt.EqAt.int_str i t y u _ _ _ _ h
  rcases Zax hv with⟨j,u,rfl,rfl⟩ | ⟨y,u,rfl,rfl⟩
  ·rw[key_rl]at h; exact SeqAt.EqAt.str_int x t j u _ _ _ _ h
  rw[key_rr]at h; exact wpAny_eqBool_str h
 «strs»:=λk x t v h=>by
  rcases Zax h with⟨i,u,rfl,e⟩ | ⟨y,u,rfl,e⟩
  ·exact nomatch e
  injection e with e1 _
  subst e1
  cases v <;> rfl
theorem mixKind_int (prog:Program) (w:World) (i:Int) (t:Tok):(Zat prog w).is (.inl i) (.int i t)=true:=keyIs_int i t
theorem mixKind_str (prog:Program) (w:World) (x:Str) (t:Tok):(Zat prog w).is (.inr x) (.str x t)=true:=keyIs_str x t
end L2
namespace L2
open PySem PySem.Spec PyProof.Rows
inductive V where
 | non | bl (b:Bool) | int (i:Int) | str (x:Str) | byt (b:Array UInt8) | flt (b:UInt64) | ref (a:Addr) | ty (n:String)
 deriving DecidableEq
noncomputable def RelV:V→Value→Prop
 | .non,u=>u=Value.none
 | .bl b,u=>u=Value.bool b
 | .int i,u=>∃t,u=Value.int i t
 | .str x,u=>∃t,u=Value.str x t
 | .byt b,u=>∃t,u=Value.bytes b t
 | .flt b,u=>∃t,u=Value.float b t
 | .ref a,u=>u=Value.ref a
 | .ty n,u=>u=Value.type n
noncomputable abbrev Vals:List V→List Value→Prop:=Paired RelV
theorem Vals.length {xs:List V}{us:List Value}(r:Vals xs us):xs.length=us.length:=Paired.length r
theorem Vals.get:∀{xs:List V}{us:List Value}{i:Nat}{x:V},Vals xs us→xs[i]? = some x→∃u,us[i]? = some u∧RelV x u
 | _,_,_,_,.nil,e=>by simp at e
 | _,_,0,_,.cons r _,e=>by simp at e; subst e; exact⟨_,rfl,r⟩
 | _,_,i + 1,x,.cons _ t,e=>by
  obtain⟨u,h1,h2⟩:=Vals.get (i:=i) (x:=x) t (by simpa using e)
  exact⟨u,by simpa using h1,h2⟩
theorem Vals.append:∀{xs ys:List V}{us ws:List Value},Vals xs us→Vals ys ws→Vals (xs ++ ys) (us ++ ws)
 | _,_,_,_,.nil,s=>s
 | _,_,_,_,.cons r t,s=>.cons r (Vals.append t s)
noncomputable def RelO:Option V→Option Value→Prop
 | some v,some u=>RelV v u
 | none,none=>True
 | _,_=>False
noncomputable def KV {κ:Type}:List (κ×V)→List (κ×Value)→Prop:=Paired λ(p:κ×V) (q:κ×Value)=>p.1=q.1∧RelV p.2 q.2
noncomputable def kV:Key→V
 | .inl i=>.int i
 | .inr x=>.str x
inductive HO where
 /-- a list -/
 | lst (xs:List V)
 /-- a tuple (never changes) -/
 | tup (xs:List V)
 /-- a dict whose keys are ints and texts; one whose keys are tuples of ints and texts (the empty one is both) -/
 | dK (kvs:List (Key×V)) | dT (kvs:List (List Key×V))
 /-- a set of ints: its members,its size -/
 | set (S:Int→Bool) (n:Nat)
 /-- an instance of the class at C,its dict at dx,its attributes -/
 | ins (C dx:Addr) (fs:List (Str×V))
 /-- the dict of the instance at x -/
 | own (x:Addr)
 /-- the dict of an exception -/
 | xd (fs:List (Str×V))
 /-- a bound method,f of x -/
 | met (f x:Addr)
 /-- a range object lo,lo + 1,.. below hi -/
 | rng (lo hi:Int)
 /-- a thing that is known to the object (the script; a dict while a loop walks it): read,never written while it is so -/
 | frz (o:Obj) (u:HO)
 /-- a code object's table -/
 | tbl (ps:Array Value)
 /-- any other thing,by what is true of its one object (a def of one's own: SetO a S n:=HO.ext λh=>..) -/
 | ext (φ:Heap→Prop)
noncomputable abbrev Hp:=Addr→Option HO
noncomputable def upd (H:Hp) (a:Addr) (o:HO):Hp:=λb=>if b=a then some o else H b
theorem Zac {H:Hp}{a:Addr}{o:HO}:upd H a o a=some o:=by unfold upd; rw[if_pos rfl]
theorem Zaj {H:Hp}{a b:Addr}{o:HO}(h:b≠a):upd H a o b=H b:=by unfold upd; rw[if_neg h]
theorem Zb4 {H:Hp}{a b:Addr}{o u:HO}(h:H a=some o) (h':H b=some u) (d:o≠u):a≠b:=by
 intro e; subst e; rw[h]at h'; exact d (Option.some.inj h')
theorem Zag {H:Hp}{a b:Addr}{o:HO}(h:H a=some o) (h':H b=none):a≠b:=by
 intro e; subst e; rw[h]at h'; cases h'
section
variable (P:Program) (w:World)
noncomputable def ObjOk (H:Hp) (h:Heap) (a:Addr):HO→Prop
 | .lst xs=>xs.length≤sizeLine∧∃(its:List Value) (n:Nat),Vals xs its∧h.get? a=some { cls:=.type "list",data:=.seq its.toArray n }
 | .tup xs=>xs.length≤sizeLine∧∃its:List Value,Vals xs its∧IsTup h a its.toArray
 | .dK kvs=>kvs.length≤sizeLine∧(a == sysModules)=false∧∃vs,KV kvs vs∧h.DictOf (Zat P w) a vs
 | .dT kvs=>kvs.length≤sizeLine∧(a == sysModules)=false∧∃xs:List (List Key×Addr×Value),
   Paired (λ(p:List Key×V) (q:List Key×Addr×Value)=>p.1=q.1∧H q.2.1=some (.tup (p.1.map kV))∧RelV p.2 q.2.2) kvs xs ∧
   ∃o es ep,h.get? a=some o∧o.ExactDict∧o.data=.dict es ep∧es.toList=xs.map (entryOfKey (tupleKind (Zat P w)))∧(xs.map (·.1)).Nodup
 | .set S n=>h.SetOf (intKind P w) a S n
 | .ins C dx fs=>H dx=some (.own a)∧fs.length≤1000∧dx≠a∧h.get? a=some (PySem.W.instObj C dx) ∧
   ∃mA,h.Ns1 dx mA∧(∀f,RelO (fs.lookup f) (mA f))∧PySem.Within mA (fs.map (·.1))
 | .own _=>∃o,h.get? a=some o
 | .xd fs=>∃mA,h.Ns1 a mA∧∀f,RelO (fs.lookup f) (mA f)
 | .rng lo hi=>∃t u v,h.get? a=some { cls:=.type "range",data:=.fields #[.int lo t,.int hi u,.int 1 v] }
 | .frz o u=>h.get? a=some o∧ObjOk H h a u
 | .tbl ps=>h.get? a=some { cls:=.none,data:=.fields ps }
 | .met f x=>h.get? a=some (PySem.W.methodObj (.ref f) (.ref x))
 | .ext φ=>φ h∧(∃o,h.get? a=some o)∧∀h1 h2:Heap,φ h1→(∀o,h1.get? a=some o→h2.get? a=some o)→φ h2
noncomputable def HOk (H:Hp) (h:Heap):Prop:=∀a o,H a=some o→ObjOk P w H h a o
end
section
variable {P:Program}{w:World}{H H':Hp}{h h':Heap}{a:Addr}{o:HO}
theorem ObjOk.lt (x:ObjOk P w H h a o):a < h.objs.size:=by
 cases o with
 | lst xs=>obtain⟨_,_,_,_,e⟩:=x; exact Heap.lt_size e
 | tup xs=>obtain⟨_,_,_,p⟩:=x; exact p.lt
 | dK kvs=>obtain⟨_,_,_,_,o,_,_,e,_⟩:=x; exact Heap.lt_size e
 | dT kvs=>obtain⟨_,_,_,_,o,_,_,e,_⟩:=x; exact Heap.lt_size e
 | set S n=>obtain⟨o,_,_,_,e,_⟩:=x; exact Heap.lt_size e
 | ins C dx fs=>obtain⟨_,_,_,e,_⟩:=x; exact Heap.lt_size e
 | own y=>obtain⟨_,e⟩:=x; exact Heap.lt_size e
 | xd fs=>obtain⟨_,⟨_,_,_,e,_⟩,_⟩:=x; exact Heap.lt_size e
 | rng lo hi=>obtain⟨_,_,_,e⟩:=x; exact Heap.lt_size e
 | frz ob u=>obtain⟨e,_⟩:=x; exact Heap.lt_size e
 | tbl ps=>exact Heap.lt_size (show h.get? a=some _ from x)
 | met f y=>exact Heap.lt_size (show h.get? a=some _ from x)
 | ext φ=>obtain⟨_,⟨_,e⟩,_⟩:=x; exact Heap.lt_size e
theorem Paired.mapP {α β:Type}{F G:α→β→Prop}:∀{l₁:List α}{l₂:List β},Paired F l₁ l₂→(∀a b,F a b→G a b)→Paired G l₁ l₂
 | _,_,.nil,_=>.nil
 | _,_,.cons r t,f=>.cons (f _ _ r) (Paired.mapP t f)
theorem ObjOk.stay (x:ObjOk P w H h a o) (k:∀b u,(b=a∨H b=some (.own a))→h.get? b=some u→h'.get? b=some u)
  (ho:∀b,H b=some (.own a)→H' b=some (.own a)) (ht:∀b xs,H b=some (.tup xs)→H' b=some (.tup xs)):ObjOk P w H' h' a o:=by
 induction o with
 | lst xs=>obtain⟨z,its,n,r,e⟩:=x; exact⟨z,its,n,r,k _ _ (.inl rfl) e⟩
 | tup xs=>obtain⟨z,its,r,ob,e,c⟩:=x; exact⟨z,its,r,ob,k _ _ (.inl rfl) e,c⟩
 | dK kvs=>obtain⟨z,y,vs,r,ob,es,ep,e,c⟩:=x; exact⟨z,y,vs,r,ob,es,ep,k _ _ (.inl rfl) e,c⟩
 | dT kvs=>
  obtain⟨z,y,xs,r,ob,es,ep,e,c⟩:=x
  exact⟨z,y,xs,Paired.mapP r λp q z=>⟨z.1,ht _ _ z.2.1,z.2.2⟩,ob,es,ep,k _ _ (.inl rfl) e,c⟩
 | set S n=>obtain⟨ob,es,ep,t,e,c⟩:=x; exact⟨ob,es,ep,t,k _ _ (.inl rfl) e,c⟩
 | ins C dx fs=>
  obtain⟨d,z,ne,e,mA,⟨od,es,ep,e2,c⟩,r⟩:=x
  exact⟨ho _ d,z,ne,k _ _ (.inl rfl) e,mA,⟨od,es,ep,k _ _ (.inr d) e2,c⟩,r⟩
 | own y=>obtain⟨ob,e⟩:=x; exact⟨ob,k _ _ (.inl rfl) e⟩
 | xd fs=>obtain⟨mA,⟨od,es,ep,e,c⟩,r⟩:=x; exact⟨mA,⟨od,es,ep,k _ _ (.inl rfl) e,c⟩,r⟩
 | rng lo hi=>obtain⟨t,u,v,e⟩:=x; exact⟨t,u,v,k _ _ (.inl rfl) e⟩
 | frz ob u ih=>obtain⟨e,q⟩:=x; exact⟨k _ _ (.inl rfl) e,ih q⟩
 | tbl ps=>
  have e:h.get? a=some { cls:=.none,data:=.fields ps }:=x
  show h'.get? a=some { cls:=.none,data:=.fields ps }
  exact k a _ (.inl rfl) e
 | met f y=>
  have e:h.get? a=some (PySem.W.methodObj (.ref f) (.ref y)):=x
  show h'.get? a=some (PySem.W.methodObj (.ref f) (.ref y))
  exact k a _ (.inl rfl) e
 | ext φ=>obtain⟨p,⟨o,e⟩,st⟩:=x; exact⟨st _ _ p λo q=>k _ _ (.inl rfl) q,⟨o,k _ _ (.inl rfl) e⟩,st⟩
theorem HOk.lt (x:HOk P w H h) (e:H a=some o):a < h.objs.size:=(x a o e).lt
theorem HOk.fresh (x:HOk P w H h) (e:h.objs.size≤a):H a=none:=by
 cases q:H a with
 | none=>rfl
 | some u=>exact absurd (lt_of_lt_of_le (x.lt q) e) (lt_irrefl _)
theorem HOk.kept (x:HOk P w H h) (k:∀b u,h.get? b=some u→h'.get? b=some u):HOk P w H h':=λa o e=>
 (x a o e).stay (λb u _ q=>k b u q) (λ_ q=>q) λ_ _ q=>q
theorem HOk.laid (x:HOk P w H h) (k:∀b u,h.get? b=some u→h'.get? b=some u) (hp:h.objs.size≤a) (new:ObjOk P w (upd H a o) h' a o):HOk P w (upd H a o) h':=λb u e=>by
 have hn:=x.fresh hp
 by_cases hb:b=a
 ·subst hb; rw[Zac]at e; cases e; exact new
 rw[Zaj hb]at e
 exact(x b u e).stay (λc v _ q=>k c v q) (λc q=>by rw[Zaj (Zag q hn)]; exact q) λc xs q=>by rw[Zaj (Zag q hn)]; exact q
end
noncomputable def Rd (H:Hp) (a:Addr) (u:HO):Prop:=H a=some u∨∃o,H a=some (.frz o u)
theorem Rd.ok {P:Program}{w:World}{H:Hp}{h:Heap}{a:Addr}{u:HO}(r:Rd H a u) (x:HOk P w H h):ObjOk P w H h a u:=by
 rcases r with r | ⟨o,r⟩
 ·exact x a u r
 obtain⟨_,q⟩:=x a _ r
 exact q
noncomputable def Mut:Option HO→Prop
 | some (.lst _)=>True
 | some (.dK _)=>True
 | some (.dT _)=>True
 | some (.set _ _)=>True
 | some (.ins _ _ _)=>True
 | some (.ext _)=>True
 | _=>False
section
variable {P:Program}{w:World}{H:Hp}{h h':Heap}{x e:Addr}{o':HO}
theorem HOk.write (ok:HOk P w H h) (mu:Mut (H x)) (he:e=x∨H e=some (.own x)) (k:∀b u,b≠e→h.get? b=some u→h'.get? b=some u) (heo:∃u,h'.get? e=some u)
  (new:ObjOk P w (upd H x o') h' x o'):HOk P w (upd H x o') h':=λb u q=>by
 have nown:∀c y,H c=some (.own y)→c≠x:=λc y r z=>by subst z; rw[r]at mu; exact mu
 have ntup:∀c xs,H c=some (.tup xs)→c≠x:=λc xs r z=>by subst z; rw[r]at mu; exact mu
 by_cases hb:b=x
 ·subst hb; rw[Zac]at q; cases q; exact new
 rw[Zaj hb]at q
 by_cases hbe:b=e
 ·have q':H b=some (.own x):=by
   rcases he with z | z
   ·exact absurd (hbe.trans z) hb
   rw[hbe]; exact z
  rw[q]at q'; cases q'
  obtain⟨v,hv⟩:=heo
  exact⟨v,by rw[hbe]; exact hv⟩
 refine(ok b u q).stay (λc v hc r=>k c v ?_ r) (λc r=>by rw[Zaj (nown c b r)]; exact r) λc xs r=>by rw[Zaj (ntup c xs r)]; exact r
 rcases hc with rfl | hc
 ·exact hbe
 rintro rfl
 rcases he with z | z
 ·exact nown c b hc z
 rw[hc]at z; cases z; exact hb rfl
end
structure Un (fs ex:List Addr) (H H':Hp) (h h':Heap):Prop where
 keep:∀b o,h.get? b=some o→H b=none→b∉fs→b∉ex→h'.get? b=some o
 slot:∀b o,h.get? b=some o→H b=none→b∈fs→b∉ex→∃sl,h'.get? b=some { o with slots:=sl }
 free:∀b o,h.get? b=some o→H b=none→b∉ex→H' b=none
 there:∀b o,h.get? b=some o→b∉ex→∃o',h'.get? b=some o'
 tups:∀b xs,H b=some (.tup xs)→H' b=some (.tup xs)
 frzs:∀b o u,H b=some (.frz o u)→H' b=some (.frz o u)
 tbls:∀b ps,H b=some (.tbl ps)→∃more,H' b=some (.tbl (ps ++ more))
section
variable {fs fs' ex ex':List Addr}{H H1 H2:Hp}{h h1 h2 h':Heap}{a x e:Addr}{o:HO}
theorem Un.any (u:Un fs ex H H1 h h1) {b:Addr}{ob:Obj}(q:h.get? b=some ob) (n:H b=none) (hx:b∉ex):∃sl,h1.get? b=some { ob with slots:=sl }:=by
 by_cases hb:b∈fs
 ·exact u.slot b ob q n hb hx
 exact⟨ob.slots,u.keep b ob q n hb hx⟩
theorem Un.kept (k:∀b u,h.get? b=some u→h'.get? b=some u):Un fs ex H H h h':=
 ⟨λb ob q _ _ _=>k b ob q,λb ob q _ _ _=>⟨ob.slots,k b ob q⟩,λ_ _ _ n _=>n,λb ob q _=>⟨ob,k b ob q⟩,λ_ _ q=>q,λ_ _ _ q=>q,λ_ ps q=>⟨#[],by rw[q]; simp⟩⟩
theorem Un.refl:Un fs ex H H h h:=Un.kept λ_ _ q=>q
theorem Un.laid (k:∀b u,h.get? b=some u→h'.get? b=some u) (hp:h.objs.size≤a) (hn:H a=none):Un fs ex H (upd H a o) h h' where
 keep:=λb u q _ _ _=>k b u q
 slot:=λb u q _ _ _=>⟨u.slots,k b u q⟩
 free:=λb u q n _=>by rw[Zaj (ne_of_lt (lt_of_lt_of_le (Heap.lt_size q) hp))]; exact n
 there:=λb u q _=>⟨u,k b u q⟩
 tups:=λb xs q=>by rw[Zaj (Zag q hn)]; exact q
 frzs:=λb u xs q=>by rw[Zaj (Zag q hn)]; exact q
 tbls:=λb ps q=>⟨#[],by rw[Zaj (Zag q hn),q]; simp⟩
theorem Un.write (mu:Mut (H x)) (he:e=x∨H e=some (.own x)) (k:∀b u,b≠e→h.get? b=some u→h'.get? b=some u) (heo:∃u,h'.get? e=some u):Un fs ex H (upd H x o) h h':=by
 have hx:∀b,H b=none→b≠x:=λb n z=>by subst z; rw[n]at mu; exact mu
 have hb:∀b,H b=none→b≠e:=λb n z=>by
  subst z
  rcases he with r | r
  ·exact hx b n r
  rw[n]at r; cases r
 have hm:∀b u,H b=some u→¬Mut (some u)→b≠x:=λb u q nm z=>by subst z; rw[q]at mu; exact nm mu
 refine⟨λb u q n _ _=>k b u (hb b n) q,λb u q n _ _=>⟨u.slots,k b u (hb b n) q⟩,λb u q n _=>by rw[Zaj (hx b n)]; exact n,λb u q _=>?_,
  λb xs q=>by rw[Zaj (hm b _ q λz=>z)]; exact q,λb u xs q=>by rw[Zaj (hm b _ q λz=>z)]; exact q,λb ps q=>⟨#[],by rw[Zaj (hm b _ q λz=>z),q]; simp⟩⟩
 by_cases hbe:b=e
 ·subst hbe; exact heo
 exact⟨u,k b u hbe q⟩
end
noncomputable def trk (h:Heap) (H:Hp):List Addr:=(List.range h.objs.size).filter λa=>(H a).isSome
noncomputable def hidT (h:Heap) (H:Hp):Heap:=PySem.W.hideAll h (trk h H)
theorem hidT_size (h:Heap) (H:Hp):(hidT h H).objs.size=h.objs.size:=PySem.W.hideAll_size _ _
theorem hidT_get {h:Heap}{H:Hp}{b:Addr}{o:Obj}(e:h.get? b=some o) (n:H b=none):(hidT h H).get? b=some o:=
 PySem.W.hideAll_get _ e λhm=>by
  have q:(H b).isSome=true:=(mem_filter.mp hm).2
  rw[n]at q; simp at q
theorem of_hidT {h:Heap}{H:Hp}{b:Addr}{o:Obj}(e:(hidT h H).get? b=some o):h.get? b=some o∧H b=none:=by
 have e':h.get? b=some o:=PySem.W.of_hideAll (trk h H) e
 refine⟨e',?_⟩
 cases q:H b with
 | none=>rfl
 | some x=>
  have hm:b∈trk h H:=mem_filter.mpr ⟨mem_range.mpr (Heap.lt_size e'),by simp[q]⟩
  have z:(hidT h H).get? b=none:=PySem.W.hideAll_none (trk h H) hm
  rw[z]at e; cases e
end L2
namespace L2
open PySem PySem.Spec PyProof.Rows
structure Mod (K:W.Frag) (mg:Str→Option Value) (base:Heap):Prop where
 kin:K.In base
 glob:base.Ns mainGlobals mg
 blt:∃mb,base.Ns builtinsNs mb∧∀x:Str,x ≠ "__name__" → mb x=bootBuiltins x
 nolimit:base.NoLimit
structure Cx where
 prog:Program
 w:World
 K:W.Frag
 mg:Str→Option Value
 base:Heap
 A:Around
 N:List Str
 s₀:Shared
 H₀:Hp
 env:Env
 outer:List Env
 stack:List Env
 ex:List Addr
 fn:Str→Bool
 calm:Bool
 pn:List (Addr×Obj)
 xe:Value→Shared→Prop
noncomputable def frs (l:List Env):List Addr:=l.filterMap (·.frame)
noncomputable abbrev Cx.fs (X:Cx):List Addr:=frs X.outer
noncomputable def Vis (sc:Scope) (x:Str):Prop:=sc.names.lookup x=some .local∨sc.names.lookup x=some .cell∨sc.names.lookup x=some .free
noncomputable def Loc (sc:Scope) (x:Str):Prop:=sc.names.lookup x=some .local∨sc.names.lookup x=some .cell
noncomputable def Look (env:Env) (h:Heap) (m:Str→Option Value) (x:Str) (u:Value):Prop:=
 (env.kindOf x=some .local∧m x=some u)∨((env.kindOf x=some .cell∨env.kindOf x=some .free)∧∃c,env.cells.lookup x=some c∧h.IsCell c (some u))
structure Cx.Ok (X:Cx):Prop where
 mod:Mod X.K X.mg X.base
 kind:X.env.scope.kind=.function
 glob:X.env.globals=mainGlobals
 blt:X.env.builtins=builtinsNs
 above:X.s₀.heap.objs.size≤X.env.locals
 inj:∀x y c,X.env.cells.lookup x=some c→X.env.cells.lookup y=some c→x=y
 has:∀x,(X.env.kindOf x=some .cell∨X.env.kindOf x=some .free)→∃c,X.env.cells.lookup x=some c
 cab:∀x c,X.fn x=true→X.env.cells.lookup x=some c→X.s₀.heap.objs.size≤c
 hd:X.calm=true→X.A.handled=none
 frames:X.A.frames=some X.stack
 stk:X.stack=X.outer∨(X.stack=X.env :: X.outer∧X.env.frame=some X.env.locals)
 exf:∀b∈X.ex,b≠X.env.locals∧∀x c,X.env.cells.lookup x=some c→c≠b
 bs:∀b o,X.base.get? b=some o→X.s₀.heap.get? b=some o∧X.H₀ b=none
 bsz:X.base.objs.size≤X.s₀.heap.objs.size
 noex:∀b o,X.base.get? b=some o→b∉X.ex
 exfs:∀b∈X.ex,b∉X.fs
 funs:X.s₀.heap.FunFrames X.base X.outer
 frf:∀b∈X.fs,X.H₀ b=none
structure Inv (X:Cx) (pins:List (Addr×Obj)) (σ:List (Option V)) (H:Hp) (s:Shared):Prop where
 ok:X.Ok
 os:s.os=X.s₀.os
 bare:AllBare s.gens
 base:Un X.fs X.ex X.H₀ H X.s₀.heap s.heap
 loc:∃m,s.heap.Ns X.env.locals m∧∀(i:Nat) (x:Str) (v:V),X.N[i]? = some x→σ[i]? = some (some v)→Vis X.env.scope x→∃u,RelV v u∧Look X.env s.heap m x u
 cell:∀x c,X.env.cells.lookup x=some c→∃v,s.heap.IsCell c v
 free:H X.env.locals=none
 freeC:∀x c,X.env.cells.lookup x=some c→H c=none
 pin:∀p∈X.pn ++ pins,s.heap.get? p.1=some p.2∧H p.1=none∧p.1≠X.env.locals∧p.1∉X.fs∧∀v,p.2.data≠.cell v
 hok:HOk X.prog X.w H s.heap
 len:σ.length=X.N.length
section
variable {X:Cx}{pins:List (Addr×Obj)}{σ:List (Option V)}{H H':Hp}{s:Shared}{h':Heap}
theorem Cx.Ok.nofr (ok:X.Ok) {b:Addr}{o:Obj}(e:X.base.get? b=some o):b∉X.fs:=λhb=>by
 have:=(ok.funs.mem hb).1
 rw[e]at this; cases this
theorem Inv.bs (I:Inv X pins σ H s):∀b o,X.base.get? b=some o→s.heap.get? b=some o∧H b=none:=λb o e=>
 ⟨I.base.keep b o (I.ok.bs b o e).1 (I.ok.bs b o e).2 (I.ok.nofr e) (I.ok.noex b o e),I.base.free b o (I.ok.bs b o e).1 (I.ok.bs b o e).2 (I.ok.noex b o e)⟩
theorem Inv.bk (I:Inv X pins σ H s):∀b o,X.base.get? b=some o→s.heap.get? b=some o:=λb o e=>(I.bs b o e).1
theorem Inv.mod (I:Inv X pins σ H s):Mod X.K X.mg X.base:=I.ok.mod
theorem Inv.kIn (I:Inv X pins σ H s):X.K.In s.heap:=I.ok.mod.kin.keeps I.bk
theorem Inv.lt (I:Inv X pins σ H s):X.env.locals < s.heap.objs.size:=let ⟨_,hn,_⟩:=I.loc; hn.lt
theorem Inv.sz (I:Inv X pins σ H s):X.s₀.heap.objs.size≤s.heap.objs.size:=le_trans I.ok.above (le_of_lt I.lt)
theorem Inv.nofs (I:Inv X pins σ H s) {a:Addr}(h:s.heap.objs.size≤a):a∉X.fs:=λhb=>by
 obtain⟨_,o,ho,_⟩:=I.ok.funs.mem hb
 exact absurd (lt_of_lt_of_le (Heap.lt_size ho) (le_trans I.sz h)) (lt_irrefl _)
theorem Inv.cne (I:Inv X pins σ H s):∀x c,X.env.cells.lookup x=some c→c≠X.env.locals:=λx c e z=>by
 obtain⟨v,o,ho,hd⟩:=I.cell x c e
 obtain⟨m,⟨o',es,ep,ho',hd',_⟩,_⟩:=I.loc
 rw[z,ho']at ho; cases ho; rw[hd']at hd; cases hd
theorem Inv.funs (I:Inv X pins σ H s):s.heap.FunFrames X.base X.outer:=by
 have all:∀(l:List Env),(∀b∈frs l,b∈X.fs)→X.s₀.heap.FunFrames X.base l→s.heap.FunFrames X.base l:=by
  intro l
  induction l with
  | nil=>intro _ _; trivial
  | cons env r ih=>
   intro hs hl
   obtain⟨hk,⟨L,o,hf,hn,ho,hd⟩,hr⟩:=hl
   have hL:L∈X.fs:=hs L (by unfold frs; rw[filterMap_cons,hf]; exact mem_cons_self)
   obtain⟨sl,e⟩:=I.base.slot L o ho (I.ok.frf L hL) hL λz=>I.ok.exfs L z hL
   exact⟨hk,⟨L,_,hf,hn,e,hd⟩,ih (λb hb=>hs b (by unfold frs; rw[filterMap_cons,hf]; exact mem_cons_of_mem _ hb)) hr⟩
 exact all X.outer (λ_ hb=>hb) I.ok.funs
theorem Inv.stack (I:Inv X pins σ H s):s.heap.FunFrames X.base X.stack:=by
 rcases I.ok.stk with e | ⟨e,hf⟩
 ·rw[e]; exact I.funs
 rw[e]
 obtain⟨m,hn,_⟩:=I.loc
 refine .cons (by rw[I.ok.kind]; decide) hf hn ?_ I.funs
 exact Heap.get?_none_of_le (le_trans I.ok.bsz I.ok.above)
theorem Inv.stkSub (I:Inv X pins σ H s):∀b∈frs X.stack,b∈X.env.locals :: X.fs:=λb hb=>by
 rcases I.ok.stk with e | ⟨e,hf⟩
 ·rw[e]at hb; exact mem_cons_of_mem _ hb
 rw[e]at hb
 unfold frs at hb
 rw[filterMap_cons,hf]at hb
 exact hb
theorem Inv.stkFree (I:Inv X pins σ H s):∀b∈frs X.stack,H b=none:=λb hb=>by
 rcases mem_cons.mp (I.stkSub b hb)with e | hb
 ·rw[e]; exact I.free
 obtain⟨_,o,ho,_⟩:=I.ok.funs.mem hb
 exact I.base.free b o ho (I.ok.frf b hb) λz=>I.ok.exfs b z hb
theorem Inv.step {g':Array GenState}{t':Nat}{d':Drawn}{ch:List Addr}(I:Inv X pins σ H s)
  (hch:∀b∈ch,(b∈X.ex∨X.s₀.heap.objs.size≤b)∧b≠X.env.locals∧(∀x c,X.env.cells.lookup x=some c→c≠b)∧∀p∈X.pn ++ pins,p.1≠b)
  (keep:∀b o,b≠X.env.locals→b∉X.fs→b∉ch→s.heap.get? b=some o→H b=none→h'.get? b=some o)
  (slot:∀b o,b≠X.env.locals→b∈X.fs→b∉ch→s.heap.get? b=some o→H b=none→∃sl,h'.get? b=some { o with slots:=sl }) (free:∀b o,b∉ch→s.heap.get? b=some o→H b=none→H' b=none)
  (there:∀b o,b∉ch→s.heap.get? b=some o→∃o',h'.get? b=some o')
  (tups:∀b xs,H b=some (.tup xs)→H' b=some (.tup xs)) (frzs:∀b o u,H b=some (.frz o u)→H' b=some (.frz o u)) (tbls:∀b ps,H b=some (.tbl ps)→∃more,H' b=some (.tbl (ps ++ more)))
  (ns:∀m,s.heap.Ns X.env.locals m→h'.Ns X.env.locals m) (hok:HOk X.prog X.w H' h') (hg:AllBare g') :
  Inv X pins σ H' { s with heap:=h',gens:=g',drawn:=d',toks:=t' }:=by
 have neL:∀b o,X.s₀.heap.get? b=some o→b≠X.env.locals:=λb o e=>ne_of_lt (lt_of_lt_of_le (Heap.lt_size e) I.ok.above)
 have neC:∀b o,X.s₀.heap.get? b=some o→b∉X.ex→b∉ch:=λb o e hx hb=>by
  rcases(hch b hb).1 with z | z
  ·exact hx z
  exact absurd (lt_of_lt_of_le (Heap.lt_size e) z) (lt_irrefl _)
 have cellK:∀x c,X.env.cells.lookup x=some c→∀v,s.heap.IsCell c v→h'.IsCell c v:=λx c e v ⟨o,ho,hd⟩=>by
  have nch:c∉ch:=λz=>(hch c z).2.2.1 x c e rfl
  by_cases hc:c∈X.fs
  ·obtain⟨sl,q⟩:=slot c o (I.cne x c e) hc nch ho (I.freeC x c e)
   exact⟨_,q,hd⟩
  exact⟨o,keep c o (I.cne x c e) hc nch ho (I.freeC x c e),hd⟩
 refine⟨I.ok,I.os,hg,⟨λb o e n hb hx=>?_,λb o e n hb hx=>?_,λb o e n hx=>?_,λb o e hx=>?_,λb xs e=>tups b xs (I.base.tups b xs e),λb o xs e=>frzs b o xs (I.base.frzs b o xs e),λb ps e=>?_⟩,?_,λx c e=>?_,?_,λx c e=>?_,λp hp=>?_,hok,I.len⟩
 ·exact keep b o (neL b o e) hb (neC b o e hx) (I.base.keep b o e n hb hx) (I.base.free b o e n hx)
 ·obtain⟨sl,e1⟩:=I.base.slot b o e n hb hx
  obtain⟨sl',e2⟩:=slot b _ (neL b o e) hb (neC b o e hx) e1 (I.base.free b o e n hx)
  exact⟨sl',e2⟩
 ·obtain⟨o',e1⟩:=I.base.there b o e hx
  exact free b o' (neC b o e hx) e1 (I.base.free b o e n hx)
 ·obtain⟨o',e1⟩:=I.base.there b o e hx
  exact there b o' (neC b o e hx) e1
 ·obtain⟨m1,e1⟩:=I.base.tbls b ps e
  obtain⟨m2,e2⟩:=tbls b _ e1
  exact⟨m1 ++ m2,by rw[e2,Array.append_assoc]⟩
 ·obtain⟨m,hn,hl⟩:=I.loc
  refine⟨m,ns m hn,λi x v e1 e2 e3=>?_⟩
  obtain⟨u,r,l⟩:=hl i x v e1 e2 e3
  refine⟨u,r,?_⟩
  rcases l with l | ⟨k,c,e,z⟩
  ·exact .inl l
  exact .inr ⟨k,c,e,cellK x c e _ z⟩
 ·obtain⟨v,z⟩:=I.cell x c e
  exact⟨v,cellK x c e v z⟩
 ·obtain⟨m,⟨o,_,_,ho,_⟩,_⟩:=I.loc
  exact free _ o (λz=>(hch _ z).2.1 rfl) ho I.free
 ·obtain⟨v,o,ho,hd⟩:=I.cell x c e
  exact free c o (λz=>(hch c z).2.2.1 x c e rfl) ho (I.freeC x c e)
 obtain⟨e,n,ne,nf,d⟩:=I.pin p hp
 have nch:p.1∉ch:=λz=>(hch p.1 z).2.2.2 p hp rfl
 exact⟨keep p.1 p.2 ne nf nch e n,free p.1 p.2 nch e n,ne,nf,d⟩
theorem Inv.un {t':Nat}(I:Inv X pins σ H s) (u:Un X.fs [] H H' s.heap h') (hok:HOk X.prog X.w H' h'):Inv X pins σ H' { s with heap:=h',toks:=t' }:=by
 obtain⟨m,⟨o,es,ep,ho,r⟩,_⟩:=id I.loc
 obtain⟨sl,hL⟩:=u.any ho I.free (by simp)
 exact I.step (g':=s.gens) (d':=s.drawn) (ch:=[]) (λ_ z=>nomatch z) (λb o _ hb _ e n=>u.keep b o e n hb (by simp)) (λb o _ hb _ e n=>u.slot b o e n hb (by simp)) (λb o _ e n=>u.free b o e n (by simp)) (λb o _ e=>u.there b o e (by simp)) u.tups u.frzs u.tbls (λm' hm=>by
  obtain⟨o',es',ep',ho',r'⟩:=hm
  rw[ho]at ho'; cases ho'
  exact⟨_,es',ep',hL,r'⟩) hok I.bare
theorem Inv.call {g':Array GenState}{t':Nat}{d':Drawn}{ch:List Addr}(I:Inv X pins σ H s) (u:Un (frs X.stack) ch H H' s.heap h') (hok:HOk X.prog X.w H' h') (hg:AllBare g')
  (hch:∀b∈ch,(b∈X.ex∨X.s₀.heap.objs.size≤b)∧b≠X.env.locals∧(∀x c,X.env.cells.lookup x=some c→c≠b)∧∀p∈X.pn ++ pins,p.1≠b) :
  Inv X pins σ H' { s with heap:=h',gens:=g',drawn:=d',toks:=t' }:=by
 obtain⟨m,⟨o,es,ep,ho,r⟩,_⟩:=id I.loc
 obtain⟨sl,hL⟩:=u.any ho I.free λz=>(hch _ z).2.1 rfl
 exact I.step (ch:=ch) hch (λb o hL hb hc e n=>u.keep b o e n (λz=>(mem_cons.mp (I.stkSub b z)).elim hL hb) hc) (λb o _ _ hc e n=>u.any e n hc) (λb o hc e n=>u.free b o e n hc) (λb o hc e=>u.there b o e hc) u.tups u.frzs u.tbls (λm' hm=>by
  obtain⟨o',es',ep',ho',r'⟩:=hm
  rw[ho]at ho'; cases ho'
  exact⟨_,es',ep',hL,r'⟩) hok hg
theorem Inv.turned {t':Nat}{it:Addr}(I:Inv X pins σ H s) (k:∀b o,b≠it→s.heap.get? b=some o→h'.get? b=some o) (hn:H it=none) (hL:it≠X.env.locals)
  (h1:it∈X.ex∨X.s₀.heap.objs.size≤it) (h2:∀x c,X.env.cells.lookup x=some c→c≠it) (h3:∀p∈X.pn ++ pins,p.1≠it):Inv X pins σ H { s with heap:=h',toks:=t' }:=by
 have nit:∀b u,H b=some u→b≠it:=λb u e z=>by rw[z,hn]at e; cases e
 refine I.step (g':=s.gens) (d':=s.drawn) (ch:=[it]) (λb hb=>?_) (λb o _ _ hc e _=>k b o (λz=>hc (by simp[z])) e) (λb o _ _ hc e _=>⟨o.slots,k b o (λz=>hc (by simp[z])) e⟩) (λ_ _ _ _ n=>n)
  (λb o hc e=>⟨o,k b o (λz=>hc (by simp[z])) e⟩) (λ_ _ e=>e) (λ_ _ _ e=>e) (λb ps e=>⟨#[],by rw[e]; simp⟩) (λm hm=>?_) (λb u e=>?_) I.bare
 ·have e:b=it:=by simpa using hb
  subst e
  exact⟨h1,hL,h2,h3⟩
 ·obtain⟨o,es,ep,ho,r⟩:=hm
  exact⟨o,es,ep,k _ o (Ne.symm hL) ho,r⟩
 refine(I.hok b u e).stay (λc v hc q=>k c v ?_ q) (λ_ q=>q) λ_ _ q=>q
 rcases hc with z | z
 ·rw[z]; exact nit b u e
 exact nit c _ z
theorem Inv.tok (I:Inv X pins σ H s) (t:Nat):Inv X pins σ H { s with toks:=t }:=I.un (h':=s.heap) (t':=t) Un.refl I.hok
theorem Inv.kept {t':Nat}(I:Inv X pins σ H s) (k:∀b u,s.heap.get? b=some u→h'.get? b=some u):Inv X pins σ H { s with heap:=h',toks:=t' }:=I.un (Un.kept k) (I.hok.kept k)
theorem Inv.laid {a:Addr}{o:HO}{t':Nat}(I:Inv X pins σ H s) (k:∀b u,s.heap.get? b=some u→h'.get? b=some u) (hp:s.heap.objs.size≤a) (new:ObjOk X.prog X.w (upd H a o) h' a o) :
  Inv X pins σ (upd H a o) { s with heap:=h',toks:=t' }:=I.un (Un.laid k hp (I.hok.fresh hp)) (I.hok.laid k hp new)
theorem Inv.write {x e:Addr}{o:HO}{t':Nat}(I:Inv X pins σ H s) (mu:Mut (H x)) (he:e=x∨H e=some (.own x)) (k:∀b u,b≠e→s.heap.get? b=some u→h'.get? b=some u) (heo:∃u,h'.get? e=some u)
  (new:ObjOk X.prog X.w (upd H x o) h' x o):Inv X pins σ (upd H x o) { s with heap:=h',toks:=t' }:=I.un (Un.write mu he k heo) (I.hok.write mu he k heo new)
theorem Inv.weak {σ':List (Option V)}(I:Inv X pins σ H s) (hl:σ'.length=σ.length) (w:∀(i:Nat) v,σ'[i]? = some (some v)→σ[i]? = some (some v)):Inv X pins σ' H s:=
 ⟨I.ok,I.os,I.bare,I.base,let ⟨m,hn,hl'⟩:=I.loc; ⟨m,hn,λi x v e1 e2 e3=>hl' i x v e1 (w i v e2) e3⟩,I.cell,I.free,I.freeC,I.pin,I.hok,hl.trans I.len⟩
theorem Inv.pins_of {pins':List (Addr×Obj)}(I:Inv X pins σ H s) (h:∀p∈pins',s.heap.get? p.1=some p.2∧H p.1=none∧p.1≠X.env.locals∧p.1∉X.fs∧∀v,p.2.data≠.cell v):Inv X pins' σ H s:=
 ⟨I.ok,I.os,I.bare,I.base,I.loc,I.cell,I.free,I.freeC,λp hp=>(mem_append.mp hp).elim (λz=>I.pin p (mem_append_left _ z)) (h p),I.hok,I.len⟩
theorem Zk3 {N:List Str}(hN:N.Nodup) {i j:Nat}{x:Str}(a:N[i]? = some x) (b:N[j]? = some x):i=j:=by
 obtain⟨h1,e1⟩:=List.getElem?_eq_some_iff.mp a
 obtain⟨h2,e2⟩:=List.getElem?_eq_some_iff.mp b
 exact(getElem_inj hN).mp (e1.trans e2.symm)
theorem Zi7 {M:Model}{A:Around}{E:Value→Shared→Prop}{i:Nat}{x:Str}{v:V}{u:Value}{Q:Unit→Shared→Prop}(I:Inv X pins σ H s) (hN:X.N.Nodup) (hi:X.N[i]? = some x) (hx:Loc X.env.scope x) (r:RelV v u)
  (h:∀s',Inv X pins (σ.set i (some v)) H s'→(∃a,Heap.SameBut a s.heap s'.heap∧(a=X.env.locals∨X.env.cells.lookup x=some a))→Q () s') (hf:X.fn x=true∨X.env.scope.names.lookup x=some .local:=by first | exact .inl rfl | exact .inr rfl | assumption):wpAny M A (storeName X.env x u) Q E s:=by
 obtain⟨m,hn,hl⟩:=id I.loc
 have hcls:(X.env.scope.kind == .class || (X.env.scope.kind == .module && X.env.locals != X.env.globals))=false:=by rw[I.ok.kind]; rfl
 have hiσ:i < σ.length:=by rw[I.len]; exact(List.getElem?_eq_some_iff.mp hi).1
 have cne:=I.cne
 have tracked:∀{a:Addr}{h':Heap},(∃o,s.heap.get? a=some o∧H a=none)→Heap.SameBut a s.heap h'→HOk X.prog X.w H h':=λ{a h'} ha hs b ob e=>by
  obtain⟨_,_,hfree⟩:=ha
  refine(I.hok b ob e).stay (λc w' hc q=>(hs.2 c ?_).trans q) (λ_ q=>q) λ_ _ q=>q
  rintro rfl
  rcases hc with rfl | hc
  ·rw[hfree]at e; cases e
  rw[hfree]at hc; cases hc
 rcases hx with hk | hk
 ·refine wpAny_storeName_local hk hn (λh' hn' hs=>?_) hcls
  obtain⟨oL,_,_,hoL,_⟩:=id hn
  refine h _ ⟨I.ok,I.os,I.bare,⟨λb o e n hb hx=>?_,λb o e n hb hx=>?_,I.base.free,λb o e hx=>?_,I.base.tups,I.base.frzs,I.base.tbls⟩,⟨_,hn',λj y v' e1 e2 e3=>?_⟩,λy c e=>?_,I.free,I.freeC,λp hp=>?_,tracked ⟨oL,hoL,I.free⟩ hs,by simpa using I.len⟩ ⟨_,hs,.inl rfl⟩
  ·exact(hs.2 b (ne_of_lt (lt_of_lt_of_le (Heap.lt_size e) I.ok.above))).trans (I.base.keep b o e n hb hx)
  ·obtain⟨sl,e1⟩:=I.base.slot b o e n hb hx
   exact⟨sl,(hs.2 b (ne_of_lt (lt_of_lt_of_le (Heap.lt_size e) I.ok.above))).trans e1⟩
  ·obtain⟨o',e1⟩:=I.base.there b o e hx
   exact⟨o',(hs.2 b (ne_of_lt (lt_of_lt_of_le (Heap.lt_size e) I.ok.above))).trans e1⟩
  ·by_cases hj:j=i
   ·subst hj
    rw[hi]at e1; cases e1
    rw[List.getElem?_set_self hiσ]at e2
    cases e2
    exact⟨u,r,.inl ⟨hk,by simp⟩⟩
   rw[List.getElem?_set_ne (Ne.symm hj)]at e2
   obtain⟨u',r',q⟩:=hl j y v' e1 e2 e3
   refine⟨u',r',?_⟩
   rcases q with⟨k,e⟩ | ⟨k,c,e,z⟩
   ·refine .inl ⟨k,?_⟩
    have:y≠x:=λe=>hj (Zk3 hN e1 (e ▸ hi))
    simp[this,e]
   exact .inr ⟨k,c,e,z.sameBut hs (cne y c e)⟩
  ·obtain⟨w',z⟩:=I.cell y c e
   exact⟨w',z.sameBut hs (cne y c e)⟩
  obtain⟨e,n,ne,nf,d⟩:=I.pin p hp
  exact⟨(hs.2 p.1 ne).trans e,n,ne,nf,d⟩
 have hfn:X.fn x=true:=by
  rcases hf with z | z
  ·exact z
  rw[z]at hk; cases hk
 obtain⟨c,hc⟩:=I.ok.has x (.inl hk)
 obtain⟨w',z⟩:=I.cell x c hc
 refine wpAny_storeName_cell I.ok.kind hk hc z (λh' hc' hs=>?_)
 obtain⟨oc,hoc,hocd⟩:=id z
 refine h { s with heap:=h' } ⟨I.ok,I.os,I.bare,⟨λb o e n hb hx=>?_,λb o e n hb hx=>?_,I.base.free,λb o e hx=>?_,I.base.tups,I.base.frzs,I.base.tbls⟩,⟨m,hn.sameBut hs (Ne.symm (cne x c hc)),λj y v' e1 e2 e3=>?_⟩,λy c' e=>?_,I.free,I.freeC,λp hp=>?_,tracked ⟨oc,hoc,I.freeC x c hc⟩ hs,by simpa using I.len⟩ ⟨c,hs,.inr hc⟩
 ·exact(hs.2 b (ne_of_lt (lt_of_lt_of_le (Heap.lt_size e) (I.ok.cab x c hfn hc)))).trans (I.base.keep b o e n hb hx)
 ·obtain⟨sl,e1⟩:=I.base.slot b o e n hb hx
  exact⟨sl,(hs.2 b (ne_of_lt (lt_of_lt_of_le (Heap.lt_size e) (I.ok.cab x c hfn hc)))).trans e1⟩
 ·obtain⟨o',e1⟩:=I.base.there b o e hx
  exact⟨o',(hs.2 b (ne_of_lt (lt_of_lt_of_le (Heap.lt_size e) (I.ok.cab x c hfn hc)))).trans e1⟩
 ·by_cases hj:j=i
  ·subst hj
   rw[hi]at e1; cases e1
   rw[List.getElem?_set_self hiσ]at e2
   cases e2
   exact⟨u,r,.inr ⟨.inl hk,c,hc,hc'⟩⟩
  rw[List.getElem?_set_ne (Ne.symm hj)]at e2
  obtain⟨u',r',q⟩:=hl j y v' e1 e2 e3
  refine⟨u',r',?_⟩
  rcases q with q | ⟨k,c',e,z'⟩
  ·exact .inl q
  refine .inr ⟨k,c',e,z'.sameBut hs ?_⟩
  rintro rfl
  exact hj (Zk3 hN e1 (I.ok.inj _ _ _ e hc ▸ hi))
 ·by_cases hcc:c'=c
  ·subst hcc; exact⟨_,hc'⟩
  obtain⟨w2,z2⟩:=I.cell y c' e
  exact⟨w2,z2.sameBut hs hcc⟩
 obtain⟨e,n,ne,nf,d⟩:=I.pin p hp
 refine⟨(hs.2 p.1 ?_).trans e,n,ne,nf,d⟩
 intro q
 rw[q,hoc]at e
 have q':oc=p.2:=Option.some.inj e
 exact d w' (by rw[← q']; exact hocd)
theorem Zkf {M:Model}{A:Around}{E:Value→Shared→Prop}{i:Nat}{x:Str}{v:V}{u:Value}{Q:Unit→Shared→Prop}(I:Inv X pins σ H s) (hN:X.N.Nodup) (hi:X.N[i]? = some x) (hx:Loc X.env.scope x) (r:RelV v u)
  (h:∀s',Inv X pins (σ.set i (some v)) H s'→Q () s') (hf:X.fn x=true∨X.env.scope.names.lookup x=some .local:=by first | exact .inl rfl | exact .inr rfl | assumption):wpAny M A (storeName X.env x u) Q E s:=
 Zi7 I hN hi hx r (λs' I' _=>h s' I') hf
theorem Inv.call' {s':Shared}{ch:List Addr}(I:Inv X pins σ H s) (ho:s'.os=s.os) (u:Un (frs X.stack) ch H H' s.heap s'.heap) (hok:HOk X.prog X.w H' s'.heap) (hg:AllBare s'.gens)
  (hch:∀b∈ch,(b∈X.ex∨X.s₀.heap.objs.size≤b)∧b≠X.env.locals∧(∀x c,X.env.cells.lookup x=some c→c≠b)∧∀p∈X.pn ++ pins,p.1≠b):Inv X pins σ H' s':=by
 obtain⟨h',g',d',t',o'⟩:=s'
 have e:o'=s.os:=ho
 subst e
 exact I.call (g':=g') (t':=t') (d':=d') u hok hg hch
end
noncomputable abbrev XK:=Value→Option Addr→Hp→Prop
noncomputable abbrev St:=List (Option V)
noncomputable abbrev VK:=V→Hp→Prop
noncomputable abbrev TE:=St→Hp→VK→Prop
noncomputable abbrev TT:=St→Hp→(Bool→Hp→Prop)→Prop
noncomputable abbrev TA:=St→Hp→(List V→Hp→Prop)→Prop
structure Ends where
 nx:St→Hp→Prop
 rt:VK
 bk:St→Hp→Prop:=λ_ _=>False
 ct:St→Hp→Prop:=λ_ _=>False
noncomputable abbrev TS:=Ends→St→Hp→Prop
noncomputable def EP (X:Cx) (pins:List (Addr×Obj)) (σ:St) (Q:VK) (u:Value) (s':Shared):Prop:=∃v H',Inv X pins σ H' s'∧RelV v u∧Q v H'
noncomputable def TP (X:Cx) (pins:List (Addr×Obj)) (σ:St) (Q:Bool→Hp→Prop) (b:Bool) (s':Shared):Prop:=∃H',Inv X pins σ H' s'∧Q b H'
noncomputable def AP (X:Cx) (pins:List (Addr×Obj)) (σ:St) (Q:List V→Hp→Prop) (us:List Value) (s':Shared):Prop:=∃vs H',Inv X pins σ H' s'∧Vals vs us∧Q vs H'
noncomputable def SP (X:Cx) (pins:List (Addr×Obj)) (D:Ends) (f:Flow) (s':Shared):Prop:=
 match f with
 | .next=>∃σ' H',Inv X pins σ' H' s'∧D.nx σ' H'
 | .brk=>∃σ' H',Inv X pins σ' H' s'∧D.bk σ' H'
 | .cont=>∃σ' H',Inv X pins σ' H' s'∧D.ct σ' H'
 | .ret u=>∃v σ' H',Inv X pins σ' H' s'∧RelV v u∧D.rt v H'
noncomputable def PE (X:Cx) (e:Expr) (t:TE):Prop:=
 ∀(pins:List (Addr×Obj)) (s:Shared) (σ:St) (H:Hp) (Q:VK),Inv X pins σ H s→t σ H Q→wpAny (model X.prog X.w) X.A (eval e X.env) (EP X pins σ Q) X.xe s
noncomputable def PT (X:Cx) (e:Expr) (t:TT):Prop:=
 ∀(pins:List (Addr×Obj)) (s:Shared) (σ:St) (H:Hp) (Q:Bool→Hp→Prop),Inv X pins σ H s→t σ H Q→wpAny (model X.prog X.w) X.A (isTrue e X.env (eval e X.env)) (TP X pins σ Q) X.xe s
noncomputable def PW (X:Cx) (e:Expr) (t:TT):Prop:=
 ∀(whole:Sem Value) (pins:List (Addr×Obj)) (s:Shared) (σ:St) (H:Hp) (Q:Bool→Hp→Prop),Inv X pins σ H s→t σ H Q→wpAny (model X.prog X.w) X.A (isTrue e X.env whole) (TP X pins σ Q) X.xe s
theorem PW.pt {X:Cx}{e:Expr}{t:TT}(h:PW X e t):PT X e t:=h _
noncomputable def PA (X:Cx) (es:List Expr) (t:TA):Prop:=
 ∀(pos:Pos) (pins:List (Addr×Obj)) (s:Shared) (σ:St) (H:Hp) (Q:List V→Hp→Prop),Inv X pins σ H s→t σ H Q→wpAny (model X.prog X.w) X.A (spliced (backTo pos (starEach es X.env))) (AP X pins σ Q) X.xe s
noncomputable def PS (X:Cx) (st:Stmt) (t:TS):Prop:=
 ∀(pins:List (Addr×Obj)) (s:Shared) (σ:St) (H:Hp) (D:Ends),Inv X pins σ H s→t D σ H→wpAny (model X.prog X.w) X.A (exec st X.env) (SP X pins D) X.xe s
noncomputable def PSs (X:Cx) (st:List Stmt) (t:TS):Prop:=
 ∀(pins:List (Addr×Obj)) (s:Shared) (σ:St) (H:Hp) (D:Ends),Inv X pins σ H s→t D σ H→wpAny (model X.prog X.w) X.A (execs st X.env) (SP X pins D) X.xe s
theorem thn {α:Type}{t:Sem α}{Q Q':α→Shared→Prop}{M:Model}{A:Around}{E:Value→Shared→Prop}{s:Shared}(h:wpAny M A t Q E s) (hQ:∀a s,Q a s→Q' a s):wpAny M A t Q' E s:=wpAny_mono h hQ λ_ _ x=>x
end L2
namespace L2
open PySem PySem.Spec PyProof.Rows
section
variable {X:Cx}
inductive tVar (i:Nat) (σ:St) (H:Hp) (Q:VK):Prop
 | mk (v:_) (c0:σ[i]? = some (some v)) (c1:Q v H):tVar i σ H Q
noncomputable def tC (v:V):TE:=λ_ H Q=>Q v H
theorem pe_var {i:Nat}{x:Str}{pos:Pos}(hN:X.N[i]? = some x) (hv:Vis X.env.scope x) (hd:(x == ("__debug__" : Str))=false:=by decide) (hcd:(x == ("__classdict__" : Str))=false:=by decide):PE X (.Name x pos) (tVar i):=by
 intro pins s σ H Q I h
 obtain⟨v,e,h⟩:=h
 obtain⟨m,hn,hl⟩:=I.loc
 obtain⟨u,r,l⟩:=hl i x v hN e hv
 have fin:EP X pins σ Q u s:=⟨v,H,I,r,h⟩
 rcases l with⟨hk,hm⟩ | ⟨hk,c,hc,hcell⟩
 ·exact wpAny_Name (wpAny_loadName_local I.ok.kind hk hn hm fin) hd
 rcases hk with hk | hk
 ·exact wpAny_Name (wpAny_loadName_cell I.ok.kind hk hc hcell fin) hd
 exact wpAny_Name (wpAny_loadName_free I.ok.kind hk hc hcell fin hcd) hd
theorem Zah {i j pos}:PE X (.Constant (.int i) j pos) (tC (.int i)):=λ_ _ _ H _ I h=>wpAny_Constant_int ⟨.int i,H,I.tok _,⟨_,rfl⟩,h⟩
theorem Zm6 {b j pos}:PE X (.Constant (.bool b) j pos) (tC (.bl b)):=λ_ _ _ H _ I h=>Constant_bool ⟨.bl b,H,I,rfl,h⟩
theorem Zf6 {j pos}:PE X (.Constant .none j pos) (tC .non):=λ_ _ _ H _ I h=>Constant_none ⟨.non,H,I,rfl,h⟩
theorem Zf5 {x j pos}:PE X (.Constant (.str x) j pos) (tC (.str x)):=λ_ _ _ H _ I h=>Calls.Constant_str ⟨.str x,H,I.tok _,⟨_,rfl⟩,h⟩
noncomputable def Gl (X:Cx) (x:Str):Prop:=X.env.kindOf x=some .globalImplicit
theorem Zfo {E:Value→Shared→Prop}{pins:List (Addr×Obj)}{s:Shared}{σ:St}{H:Hp}{x:Str}{u:Value}{pos:Pos}{Q:Value→Shared→Prop}(I:Inv X pins σ H s) (hg:Gl X x) (hm:X.mg x=some u) (h:Q u s)
  (hd:(x == ("__debug__" : Str))=false:=by decide):wpAny (model X.prog X.w) X.A (eval (.Name x pos) X.env) Q E s:=
 Calls.Name_function_global I.ok.kind hg (Calls.loadGlobal_global (by rw[I.ok.glob]; exact I.mod.glob.keeps I.bk) hm h) hd
theorem Zho {E:Value→Shared→Prop}{pins:List (Addr×Obj)}{s:Shared}{σ:St}{H:Hp}{x:Str}{u:Value}{pos:Pos}{Q:Value→Shared→Prop}(I:Inv X pins σ H s) (hg:Gl X x) (hm:X.mg x=none) (hv:bootBuiltins x=some u) (h:Q u s)
  (hn:x ≠ "__name__" := by decide) (hd:(x == ("__debug__" : Str))=false:=by decide):wpAny (model X.prog X.w) X.A (eval (.Name x pos) X.env) Q E s:=by
 obtain⟨mb,h1,h2⟩:=I.mod.blt
 exact Calls.Name_function_global I.ok.kind hg (Calls.loadGlobal_builtin (by rw[I.ok.glob]; exact I.mod.glob.keeps I.bk) hm (by rw[I.ok.blt]; exact h1.keeps I.bk) ((h2 x hn).trans hv) h) hd
theorem Zfg {x:Str}{v:V}{u:Value}{pos:Pos}(hg:Gl X x) (hm:X.mg x=some u) (r:RelV v u) (hd:(x == ("__debug__" : Str))=false:=by decide):PE X (.Name x pos) (tC v):=
 λ_ _ _ H _ I h=>Zfo I hg hm ⟨v,H,I,r,h⟩ hd
theorem Zh6 {x:Str}{v:V}{u:Value}{pos:Pos}(hg:Gl X x) (hm:X.mg x=none) (hv:bootBuiltins x=some u) (r:RelV v u) (hn:x ≠ "__name__" := by decide) (hd:(x == ("__debug__" : Str))=false:=by decide):PE X (.Name x pos) (tC v):=
 λ_ _ _ H _ I h=>Zho I hg hm hv ⟨v,H,I,r,h⟩ hn hd
variable {a b:Expr}{ta tb:TE}{pos:Pos}
noncomputable def PC (X:Cx) (op:CmpOp) (a b:Expr) (t:TE):Prop:=
 ∀(pins:List (Addr×Obj)) (s:Shared) (σ:St) (H:Hp) (Q:VK),Inv X pins σ H s→t σ H Q →
  wpAny (model X.prog X.w) X.A (eval a X.env) (λv s₁=>wpAny (model X.prog X.w) X.A (eval b X.env) (λu s₂=>wpAny (model X.prog X.w) X.A (compareOp op v u) (EP X pins σ Q) X.xe s₂) X.xe s₁) X.xe s
inductive isB0 (Q:Bool→Hp→Prop) (x:V) (H1:Hp):Prop
 | mk (c:_) (c0:x=.bl c) (c1:Q c H1):isB0 Q x H1
noncomputable def tB (t:TE):TT:=λσ H Q=>t σ H λx H1=>isB0 Q x H1
theorem pe_cmp {op:CmpOp}{t:TE}(h:PC X op a b t) (h1:behindInMarks op b=false:=by first | exact nobehind _ (by decide) (by decide) | rfl):PE X (.Compare a [op] [b] pos) t:=λpins s σ H Q I hw=>wpAny_Compare1 (h pins s σ H Q I hw) h1
theorem Zjc {op:CmpOp}{t:TE}(h:PC X op a b t) (h1:behindInMarks op b=false:=by first | exact nobehind _ (by decide) (by decide) | rfl):PT X (.Compare a [op] [b] pos) (tB t):=by
 intro pins s σ H Q I hw
 refine wpAny_isTrue_Compare1 (thn (h pins s σ H _ I hw) λv s1 h1=>thn h1 λu s2 h2=>thn h2 λc s3 hp0=>?_) h1
 obtain⟨x,H1,I1,r1,q1⟩:=hp0
 obtain⟨d,rfl,q⟩:=q1
 cases r1
 exact wpAny_truthy_bool ⟨H1,I1,q⟩
theorem Zcs {e:Expr}{t:TE}(h:PE X e t) (he:∀whole,isTrue e X.env whole=(do let v ← whole; standAt e.pos; holding [v] (truthy v)):=by intro _; rfl):PT X e (tB t):=by
 intro pins s σ H Q I hw
 refine isTrue_plain (thn (h pins s σ H _ I hw) λv s1 hp0=>?_) (he _)
 obtain⟨x,H1,I1,r1,q1⟩:=hp0
 obtain⟨d,rfl,q⟩:=q1
 cases r1
 exact wpAny_truthy_bool ⟨H1,I1,q⟩
variable {tA tB':TT}{rest:List Expr}
noncomputable def tAnd (t u:TT):TT:=λσ H Q=>t σ H λc H1=>if c=true then u σ H1 Q else Q false H1
noncomputable def tOr (t u:TT):TT:=λσ H Q=>t σ H λc H1=>if c=true then Q true H1 else u σ H1 Q
noncomputable def tNot (t:TT):TT:=λσ H Q=>t σ H λc H1=>Q (!c) H1
theorem pw_and1 (ha:PT X a tA):PW X (.BoolOp .And [a] pos) tA:=by
 intro wh pins s σ H Q I h
 refine isTrue_and (thn (ha pins s σ H Q I h) λc s1 e=>?_)
 cases c with
 | true=>exact isTrue_and_nil e
 | false=>exact e
theorem Zl4 (ha:PT X a tA):PW X (.BoolOp .Or [a] pos) tA:=by
 intro wh pins s σ H Q I h
 refine isTrue_or (thn (ha pins s σ H Q I h) λc s1 e=>?_)
 cases c with
 | false=>exact isTrue_or_nil e
 | true=>exact e
theorem pw_and (ha:PT X a tA) (hb:PW X (.BoolOp .And (b :: rest) pos) tB'):PW X (.BoolOp .And (a :: b :: rest) pos) (tAnd tA tB'):=by
 intro wh pins s σ H Q I h
 refine isTrue_and (thn (ha pins s σ H _ I h) λc s1 hp0=>?_)
 obtain⟨H1,I1,q1⟩:=hp0
 cases c with
 | true=>exact hb wh pins s1 σ H1 Q I1 q1
 | false=>exact⟨H1,I1,q1⟩
theorem Zn2 (ha:PT X a tA) (hb:PW X (.BoolOp .Or (b :: rest) pos) tB'):PW X (.BoolOp .Or (a :: b :: rest) pos) (tOr tA tB'):=by
 intro wh pins s σ H Q I h
 refine isTrue_or (thn (ha pins s σ H _ I h) λc s1 hp0=>?_)
 obtain⟨H1,I1,q1⟩:=hp0
 cases c with
 | true=>exact⟨H1,I1,q1⟩
 | false=>exact hb wh pins s1 σ H1 Q I1 q1
theorem Zg1 (ha:PT X a tA):PT X (.UnaryOp .Not a pos) (tNot tA):=by
 intro pins s σ H Q I h
 exact isTrue_not (ha pins s σ H (λc H1=>Q (!c) H1) I h)
noncomputable def tAndV (ta tb:TE):TE:=λσ H Q=>ta σ H λx H1=>∃c,x=.bl c∧if c=true then tb σ H1 Q else Q (.bl false) H1
noncomputable def tNotV (ta:TE):TE:=λσ H Q=>ta σ H λx H1=>∃c,x=.bl c∧Q (.bl (!c)) H1
theorem Znl {op}{t:TE}(h:PE X a t):PE X (.BoolOp op [a] pos) t:=λpins s σ H Q I hw=>BoolOp_one (h pins s σ H Q I hw)
theorem Znm (ha:PE X a ta) (hb:PE X (.BoolOp .And (b :: rest) pos) tb):PE X (.BoolOp .And (a :: b :: rest) pos) (tAndV ta tb):=by
 intro pins s σ H Q I h
 refine BoolOp_and (thn (ha pins s σ H _ I h) λv s1 hp0=>?_)
 obtain⟨x,H1,I1,r1,q1⟩:=hp0
 obtain⟨c,rfl,q1⟩:=q1
 cases r1
 refine wpAny_truthy_bool ?_
 cases c with
 | true=>exact hb pins s1 σ H1 Q I1 q1
 | false=>exact⟨.bl false,H1,I1,rfl,q1⟩
theorem pe_not (ha:PE X a ta):PE X (.UnaryOp .Not a pos) (tNotV ta):=by
 intro pins s σ H Q I h
 refine UnaryOp_ (thn (ha pins s σ H _ I h) λv s1 hp0=>?_)
 obtain⟨x,H1,I1,r1,q1⟩:=hp0
 obtain⟨c,rfl,q1⟩:=q1
 cases r1
 exact not_of (wpAny_truthy_bool ⟨.bl (!c),H1,I1,rfl,q1⟩)
noncomputable def tIf (t:TT) (ta tb:TE):TE:=λσ H Q=>t σ H λc H1=>if c=true then ta σ H1 Q else tb σ H1 Q
theorem Zgj {c:Expr}(hc:PT X c tA) (ha:PE X a ta) (hb:PE X b tb):PE X (.IfExp c a b pos) (tIf tA ta tb):=by
 intro pins s σ H Q I h
 refine wpAny_IfExp (thn (hc pins s σ H _ I h) λd s1 hp0=>?_)
 obtain⟨H1,I1,q1⟩:=hp0
 cases d with
 | true=>exact ha pins s1 σ H1 Q I1 q1
 | false=>exact hb pins s1 σ H1 Q I1 q1
end
end L2
namespace L2
open PySem PySem.Spec PyProof.Rows
noncomputable def SqL (K:W.Frag) (H:Hp) (a:Addr) (xs:List V):Prop:=
 Rd H a (.lst xs) ∨
  ∃(o:Obj) (its:Array Value) (n:Nat),K.lookup a=some o∧o.cls=.type "list" ∧ o.dict=none∧o.data=.seq its n∧its.size≤sizeLine∧Vals xs its.toList
noncomputable def SqT (K:W.Frag) (H:Hp) (a:Addr) (xs:List V):Prop:=
 Rd H a (.tup xs) ∨
  ∃(o:Obj) (its:Array Value) (n:Nat),K.lookup a=some o∧o.cls=.type "tuple" ∧ o.data=.seq its n∧its.size≤sizeLine∧Vals xs its.toList
def absV:Value→Option V
 | .none=>some .non
 | .bool b=>some (.bl b)
 | .int i _=>some (.int i)
 | .str x _=>some (.str x)
 | .bytes b _=>some (.byt b)
 | .float b _=>some (.flt b)
 | .ref a=>some (.ref a)
 | .type n=>some (.ty n)
 | _=>none
theorem RelV.abs {x:V}{u:Value}(r:RelV x u):absV u=some x:=by
 cases x with
 | non=>cases r; rfl
 | bl _=>cases r; rfl
 | int _=>obtain⟨t,rfl⟩:=r; rfl
 | str _=>obtain⟨t,rfl⟩:=r; rfl
 | byt _=>obtain⟨t,rfl⟩:=r; rfl
 | flt _=>obtain⟨t,rfl⟩:=r; rfl
 | ref _=>cases r; rfl
 | ty _=>cases r; rfl
theorem RelV.inj {x y:V}{u:Value}(r:RelV x u) (q:RelV y u):x=y:=Option.some.inj (r.abs.symm.trans q.abs)
theorem Vals.inj:∀{xs ys:List V}{us:List Value},Vals xs us→Vals ys us→xs=ys
 | _,_,_,.nil,.nil=>rfl
 | _,_,_,.cons r t,.cons r' t'=>by rw[r.inj r',Vals.inj t t']
section
variable {X:Cx}{pins:List (Addr×Obj)}{σ:St}{H:Hp}{s:Shared}{a:Addr}{xs ys:List V}
theorem SqL.of {K:W.Frag}(h:H a=some (.lst xs)):SqL K H a xs:=.inl (.inl h)
theorem SqT.of {K:W.Frag}(h:H a=some (.tup xs)):SqT K H a xs:=.inl (.inl h)
theorem Inv.list (I:Inv X pins σ H s) (h:SqL X.K H a xs):∃its:List Value,Vals xs its∧PlainL s.heap a its.toArray∧xs.length≤sizeLine:=by
 rcases h with h | ⟨o,its,n,hk,hc,hd,hs,hz,r⟩
 ·obtain⟨z,its,n,r,e⟩:=h.ok I.hok
  exact⟨its,r,⟨_,n,e,rfl,rfl,rfl⟩,z⟩
 refine⟨its.toList,r,⟨o,n,I.kIn a o hk,hc,hd,by simpa using hs⟩,?_⟩
 have e:=r.length
 simp only[Array.length_toList]at e
 lia
theorem Inv.tuple (I:Inv X pins σ H s) (h:SqT X.K H a xs):∃its:List Value,Vals xs its∧IsTup s.heap a its.toArray∧xs.length≤sizeLine:=by
 rcases h with h | ⟨o,its,n,hk,hc,hs,hz,r⟩
 ·obtain⟨z,its,r,p⟩:=h.ok I.hok
  exact⟨its,r,p,z⟩
 refine⟨its.toList,r,⟨o,I.kIn a o hk,hc,n,by simpa using hs⟩,?_⟩
 have e:=r.length
 simp only[Array.length_toList]at e
 lia
theorem Inv.list_inj (I:Inv X pins σ H s) (h:SqL X.K H a xs) (h':SqL X.K H a ys):xs=ys:=by
 obtain⟨its,r,⟨o,n,e,_,_,d⟩,_⟩:=I.list h
 obtain⟨its',r',⟨o',n',e',_,_,d'⟩,_⟩:=I.list h'
 rw[e]at e'; cases e'
 rw[d]at d'
 injection d' with d1 _
 have:its=its':=by simpa using congrArg Array.toList d1
 subst this
 exact r.inj r'
theorem Inv.tuple_inj (I:Inv X pins σ H s) (h:SqT X.K H a xs) (h':SqT X.K H a ys):xs=ys:=by
 obtain⟨its,r,⟨o,e,_,n,d⟩,_⟩:=I.tuple h
 obtain⟨its',r',⟨o',e',_,n',d'⟩,_⟩:=I.tuple h'
 rw[e]at e'; cases e'
 rw[d]at d'
 injection d' with d1 _
 have:its=its':=by simpa using congrArg Array.toList d1
 subst this
 exact r.inj r'
end
noncomputable abbrev Cx.wish (X:Cx) (E:Value→Shared→Prop):Cx:={ X with xe:=E }
noncomputable abbrev Cx.nox (X:Cx):Cx:=X.wish λ_ _=>False
theorem Cx.Ok.wish {X:Cx}(ok:X.Ok) (E:Value→Shared→Prop):(X.wish E).Ok:=
 ⟨ok.mod,ok.kind,ok.glob,ok.blt,ok.above,ok.inj,ok.has,ok.cab,ok.hd,ok.frames,ok.stk,ok.exf,ok.bs,ok.bsz,ok.noex,ok.exfs,ok.funs,ok.frf⟩
theorem Cx.Ok.unwish {X:Cx}{E:Value→Shared→Prop}(ok:(X.wish E).Ok):X.Ok:=
 ⟨ok.mod,ok.kind,ok.glob,ok.blt,ok.above,ok.inj,ok.has,ok.cab,ok.hd,ok.frames,ok.stk,ok.exf,ok.bs,ok.bsz,ok.noex,ok.exfs,ok.funs,ok.frf⟩
section
variable {X:Cx}{pins:List (Addr×Obj)}{σ:St}{H:Hp}{s:Shared}{E:Value→Shared→Prop}
theorem Inv.wish (I:Inv X pins σ H s) (E:Value→Shared→Prop):Inv (X.wish E) pins σ H s:=⟨I.ok.wish E,I.os,I.bare,I.base,I.loc,I.cell,I.free,I.freeC,I.pin,I.hok,I.len⟩
theorem Inv.unwish (I:Inv (X.wish E) pins σ H s):Inv X pins σ H s:=⟨I.ok.unwish,I.os,I.bare,I.base,I.loc,I.cell,I.free,I.freeC,I.pin,I.hok,I.len⟩
theorem SP.unwish {D:Ends}{f:Flow}{s':Shared}(h:SP (X.wish E) pins D f s'):SP X pins D f s':=by
 cases f with
 | next=>obtain⟨σ',H',I,q⟩:=h; exact⟨σ',H',I.unwish,q⟩
 | brk=>obtain⟨σ',H',I,q⟩:=h; exact⟨σ',H',I.unwish,q⟩
 | cont=>obtain⟨σ',H',I,q⟩:=h; exact⟨σ',H',I.unwish,q⟩
 | ret u=>obtain⟨v,σ',H',I,r,q⟩:=h; exact⟨v,σ',H',I.unwish,r,q⟩
theorem PSs.nox {st:List Stmt}{t:TS}(h:PSs X.nox st t):PSs X st t:=λpins s σ H D I hw=>
 wpAny_mono (h pins s σ H D (I.wish _) hw) (λ_ _ q=>q.unwish) λ_ _ z=>False.elim z
end
section
variable {X:Cx}{st:Stmt}{rest:List Stmt}{t u:TS}{e:Expr}{te:TE}{pos:Pos}
noncomputable def tNext:TS:=λD σ H=>D.nx σ H
noncomputable def tSeq (t u:TS):TS:=λD σ H=>t { D with nx:=u D } σ H
theorem Zar:PSs X [] tNext:=λ_ _ σ H _ I h=>wpAny_execs_nil ⟨σ,H,I,h⟩
theorem Zad (h1:PS X st t) (h2:PSs X rest u):PSs X (st :: rest) (tSeq t u):=by
 intro pins s σ H D I h
 refine wpAny_execs_cons (thn (h1 pins s σ H { D with nx:=u D } I h) λf s1 q=>?_)
 cases f with
 | next=>
  obtain⟨σ',H',I',q⟩:=q
  exact h2 pins s1 σ' H' D I' q
 | ret v=>exact q
 | brk=>exact q
 | cont=>exact q
theorem Zaf (h1:PS X st t):PSs X [st] t:=by
 intro pins s σ H D I h
 refine wpAny_execs_cons (thn (h1 pins s σ H D I h) λf s1 q=>?_)
 cases f with
 | next=>exact wpAny_execs_nil q
 | ret v=>exact q
 | brk=>exact q
 | cont=>exact q
theorem Inv.quiet {pins:List (Addr×Obj)}{σ:St}{H:Hp}{s:Shared}(I:Inv X pins σ H s):interactive X.env=false:=by simp[interactive,I.ok.kind]
noncomputable def tDrop (te:TE):TS:=λD σ H=>te σ H λ_ H1=>D.nx σ H1
theorem Za1 (he:PE X e te) (hs:swapsWith e none pos.line X.env=pure false:=by rfl):PS X (.Expr e pos) (tDrop te):=by
 intro pins s σ H D I h
 exact wpAny_Expr_any (thn (he pins s σ H _ I h) λv s1 hp0=>by obtain⟨x,H1,I1,r1,q1⟩:=hp0; exact⟨σ,H1,I1,q1⟩) I.quiet hs
noncomputable def tRet (te:TE):TS:=λD σ H=>te σ H D.rt
theorem Zan (he:PE X e te):PS X (.Return (some e) pos) (tRet te):=by
 intro pins s σ H D I h
 exact wpAny_Return_some (thn (he pins s σ H _ I h) λv s1 hp0=>by obtain⟨x,H1,I1,r1,q1⟩:=hp0; exact⟨x,σ,H1,I1,r1,q1⟩)
noncomputable def tIfS (c:TT) (t u:TS):TS:=λD σ H=>c σ H λb H1=>if b=true then t D σ H1 else u D σ H1
theorem Za4 {c:Expr}{a b:List Stmt}{tc:TT}(hc:PT X c tc) (ha:PSs X a t) (hb:PSs X b u):PS X (.If c a b pos) (tIfS tc t u):=by
 intro pins s σ H D I h
 refine wpAny_If (thn (hc pins s σ H _ I h) λd s1 hp0=>?_)
 obtain⟨H1,I1,q1⟩:=hp0
 cases d with
 | true=>exact ha pins s1 σ H1 D I1 q1
 | false=>exact hb pins s1 σ H1 D I1 q1
noncomputable def tNever:TS:=λ_ _ _=>False
theorem Zb1 {sts:List Stmt}:PSs X sts tNever:=λ_ _ _ _ _ _ h=>h.elim
end
noncomputable abbrev TG:=V→St→Hp→(St→Hp→Prop)→Prop
noncomputable abbrev TGs:=List V→St→Hp→(St→Hp→Prop)→Prop
noncomputable def PG (X:Cx) (target:Expr) (t:TG):Prop:=
 ∀(pins:List (Addr×Obj)) (s:Shared) (σ:St) (H:Hp) (v:V) (u:Value) (Q:St→Hp→Prop),Inv X pins σ H s→RelV v u→t v σ H Q →
  wpAny (model X.prog X.w) X.A (assign target X.env u) (λ_ s'=>∃σ' H',Inv X pins σ' H' s'∧Q σ' H') X.xe s
noncomputable def PGs (X:Cx) (ts:List Expr) (t:TGs):Prop:=
 ∀(pins:List (Addr×Obj)) (s:Shared) (σ:St) (H:Hp) (vs:List V) (us:List Value) (Q:St→Hp→Prop),Inv X pins σ H s→Vals vs us→t vs σ H Q →
  wpAny (model X.prog X.w) X.A (assignInOrder ((assignEach ts X.env).map (·.2)) us) (λ_ s'=>∃σ' H',Inv X pins σ' H' s'∧Q σ' H') X.xe s
section
variable {X:Cx}{pos:Pos}
noncomputable def Zhf (i:Nat):TG:=λv σ H Q=>Q (σ.set i (some v)) H
theorem Zao {i:Nat}{x:Str}(hN:X.N.Nodup) (hi:X.N[i]? = some x) (hx:Loc X.env.scope x) (hf:X.fn x=true∨X.env.scope.names.lookup x=some .local:=by first | exact .inl rfl | exact .inr rfl | assumption):PG X (.Name x pos) (Zhf i):=by
 intro pins s σ H v u Q I r h
 exact wpAny_assign_Name (Zkf I hN hi hx r (λs' I'=>⟨_,H,I',h⟩) hf)
noncomputable def gNil:TGs:=λvs σ H Q=>vs=[]∧Q σ H
inductive gCons (t:TG) (u:TGs) (vs:List V) (σ:St) (H:Hp) (Q:St→Hp→Prop):Prop
 | mk (v:_) (r:_) (c0:vs=v :: r) (c1:t v σ H λσ' H'=>u r σ' H' Q):gCons t u vs σ H Q
theorem Zd6:PGs X [] gNil:=by
 intro pins s σ H vs us Q I r h
 obtain⟨e,h⟩:=h
 subst e
 cases r
 exact assignInOrder_nil ⟨σ,H,I,h⟩
theorem Za9 {e:Expr}{es:List Expr}{t:TG}{u:TGs}(h1:PG X e t) (h2:PGs X es u)
  (hs:(assignEach (e :: es) X.env).map (·.2)=assign e X.env :: (assignEach es X.env).map (·.2):=by rfl):PGs X (e :: es) (gCons t u):=by
 intro pins s σ H vs us Q I r h
 obtain⟨v,vr,e1,h⟩:=h
 subst e1
 cases r with
 | cons r rr=>
  rw[hs]
  refine assignInOrder_cons (thn (h1 pins s σ H _ _ _ I r h) λ_ s1 hp0=>?_)
  obtain⟨σ1,H1,I1,q1⟩:=hp0
  exact h2 pins s1 σ1 H1 _ _ Q I1 rr q1
inductive gTup (K:W.Frag) (n:Nat) (t:TGs) (v:V) (σ:St) (H:Hp) (Q:St→Hp→Prop):Prop
 | mk (a:_) (xs:_) (c0:v=.ref a) (c1:SqT K H a xs) (c2:xs.length=n) (c3:t xs σ H Q):gTup K n t v σ H Q
theorem Zf4 {es:List Expr}{k:Nat}{t:TGs}{n:Nat}(hc:X.calm=true) (h:PGs X es t)
  (hn:(assignEach es X.env).length=n:=by rfl) (hst:(assignEach es X.env).findIdx? (·.1)=none:=by rfl):PG X (.Tuple es k pos) (gTup X.K n t):=by
 intro pins s σ H v u Q I r hw
 obtain⟨a,xs,e1,hq,hl,hw⟩:=hw
 subst e1
 cases r
 obtain⟨its,rv,ht,hz⟩:=I.tuple hq
 refine assign_Tuple_tuple (I.ok.hd hc) ht (by simp[hn,← hl,rv.length]) hst λh' hx=>?_
 have I1:Inv X pins σ H { s with heap:=h' }:=I.kept (t':=s.toks) λb o e=>hx b o (ne_of_lt (Heap.lt_size e)) e
 exact h pins _ σ H xs _ Q I1 (by simpa using rv) hw
noncomputable def tAsg (te:TE) (g:TG):TS:=λD σ H=>te σ H λx H1=>g x σ H1 D.nx
theorem Zas {i:Nat}{x:Str}{e:Expr}{te:TE}{pos':Pos}(hN:X.N.Nodup) (hi:X.N[i]? = some x) (hx:Loc X.env.scope x) (he:PE X e te) (hs:swapsWith e (some (.Name x pos')) pos.line X.env=pure false:=by rfl) (hf:X.fn x=true∨X.env.scope.names.lookup x=some .local:=by first | exact .inl rfl | exact .inr rfl | assumption) :
  PS X (.Assign [.Name x pos'] e pos) (tAsg te (Zhf i)):=by
 intro pins s σ H D I h
 refine wpAny_Assign_Name (thn (he pins s σ H _ I h) λv s1 hp0=>?_) hs
 obtain⟨y,H1,I1,r1,q1⟩:=hp0
 exact Zkf I1 hN hi hx r1 (λs2 I2=>⟨_,H1,I2,q1⟩) hf
end
structure It where
 go:Nat→Hp→Prop
 yld:Nat→Hp→V→Hp→Prop
 stop:Nat→Hp→Prop
noncomputable def FpOk (X:Cx) (pins:List (Addr×Obj)) (H:Hp) (b:Addr):Prop:=
 H b=none∧b≠X.env.locals∧b∉X.fs∧(b∈X.ex∨X.s₀.heap.objs.size≤b)∧(∀x c,X.env.cells.lookup x=some c→c≠b)∧∀p∈X.pn ++ pins,p.1≠b
theorem Inv.fpOk {X:Cx}{pins:List (Addr×Obj)}{σ:St}{H H':Hp}{s:Shared}{b:Addr}(I:Inv X pins σ H s) (hb:s.heap.objs.size≤b) (hn:H' b=none):FpOk X pins H' b:=by
 refine⟨hn,ne_of_gt (lt_of_lt_of_le I.lt hb),I.nofs hb,.inr (le_trans I.sz hb),λx c e z=>?_,λp hp z=>?_⟩
 ·obtain⟨v,q⟩:=I.cell x c e
  exact absurd (lt_of_lt_of_le q.lt (by rw[z]; exact hb)) (lt_irrefl _)
 exact absurd (lt_of_lt_of_le (Heap.lt_size (I.pin p hp).1) (by rw[z]; exact hb)) (lt_irrefl _)
structure Turn (P:Program) (w:World) (K:W.Frag) (tg:Expr) (J:It) (fp:List Addr) (it:Addr) (tn:Nat→Heap→Prop):Prop where
 mem:it∈fp
 obj:∀i h,tn i h→∀b∈fp,∃o,h.get? b=some o∧∀v,o.data≠.cell v
 keep:∀i h h',tn i h→(∀b∈fp,∀o,h.get? b=some o→h'.get? b=some o)→tn i h'
 item:∀(X:Cx),X.prog=P→X.w=w→X.K=K→X.calm=true→∀(i:Nat) (pins:List (Addr×Obj)) (s:Shared) (σ:St) (H:Hp) (E:Value→Shared→Prop),Inv X pins σ H s→(∀b∈fp,FpOk X pins H b)→tn i s.heap→J.go i H →
  wpAny (model P w) X.A (pyNext (.ref it)) (λr s1=>∃u,r=some u ∧
   wpAny (model P w) X.A (letOwnedTupleGo tg (.ref it) u) (λ_ s2=>∃x H',Inv X pins σ H' s2∧RelV x u∧J.yld i H x H'∧tn (i + 1) s2.heap∧∀b∈fp,H' b=none) E s1) E s
 done:∀(X:Cx),X.prog=P→X.w=w→X.K=K→X.calm=true→∀(i:Nat) (pins:List (Addr×Obj)) (s:Shared) (σ:St) (H:Hp) (E:Value→Shared→Prop),Inv X pins σ H s→(∀b∈fp,FpOk X pins H b)→tn i s.heap→J.stop i H →
  wpAny (model P w) X.A (pyNext (.ref it)) (λr s1=>r=none∧Inv X pins σ H s1) E s
 self:∀(A:Around) (i:Nat) (s:Shared) (Q:Value→Shared→Prop) (E:Value→Shared→Prop),tn i s.heap→Q (.ref it) s→wpAny (model P w) A (pyIter (.ref it)) Q E s
noncomputable abbrev TI:=St→Hp→(It→Hp→Prop)→Prop
noncomputable def PIE (X:Cx) (pins:List (Addr×Obj)) (σ:St) (tg:Expr) (R:It→Hp→Prop) (itv:Value) (s2:Shared):Prop:=
 ∃(it:Addr) (fp:List Addr) (tn:Nat→Heap→Prop) (J:It) (H':Hp),itv=.ref it∧Inv X pins σ H' s2∧Turn X.prog X.w X.K tg J fp it tn∧tn 0 s2.heap∧(∀b∈fp,FpOk X pins H' b)∧R J H'
noncomputable def PI (X:Cx) (tg iter:Expr) (wi:TI):Prop:=
 ∀(pins:List (Addr×Obj)) (s:Shared) (σ:St) (H:Hp) (R:It→Hp→Prop),Inv X pins σ H s→wi σ H R →
  wpAny (model X.prog X.w) X.A (eval iter X.env) (λv s1=>wpAny (model X.prog X.w) X.A (pyIter v) (PIE X pins σ tg R) X.xe s1) X.xe s
theorem Zmo {M:Model}{A:Around}{E:Value→Shared→Prop}{s:Shared}{tg:Expr}{it:Addr}{u:Value}{o:Obj}{n:String}{vs:Array Value}{Q:Unit→Shared→Prop}(ho:s.heap.get? it=some o) (hc:o.cls=.type n) (hd:o.data=.fields vs)
  (hn:["enumerate", "zip", "dict_itemiterator", "dict_reverseitemiterator", "odict_iterator", "itertools.zip_longest", "itertools.pairwise"].contains n=false) (hQ:Q () s):wpAny M A (letOwnedTupleGo tg (.ref it) u) Q E s:=by
 unfold letOwnedTupleGo
 cases tg <;> first
  | exact wpAny_pure hQ
  | (cases u <;> first
    | exact wpAny_pure hQ
    | (refine wpAny_bind (wpAny_load ho ?_)
       rw[hc,hd]
       show wpAny M A (if (["enumerate", "zip", "dict_itemiterator", "dict_reverseitemiterator", "odict_iterator", "itertools.zip_longest", "itertools.pairwise"].contains n && vs[0]? == some (rawInt _))=true then _ else _) Q E s
       rw[if_neg (by intro h; rw[hn,Bool.false_and]at h; cases h)]
       exact wpAny_pure hQ))
noncomputable def Itl (K:W.Frag) (a:Addr):It:=
 ⟨λi H=>∃xs x,SqL K H a xs∧xs[i]? = some x,λi H x H'=>H'=H∧∀xs,SqL K H a xs→xs[i]? = some x,λi H=>∃xs,SqL K H a xs∧xs.length≤i⟩
noncomputable def Itt (K:W.Frag) (a:Addr):It:=
 ⟨λi H=>∃xs x,SqT K H a xs∧xs[i]? = some x,λi H x H'=>H'=H∧∀xs,SqT K H a xs→xs[i]? = some x,λi H=>∃xs,SqT K H a xs∧xs.length≤i⟩
noncomputable def Itr (lo:Int) (n:Nat):It:=⟨λi _=>i < n,λi H x H'=>H'=H∧x=.int (lo + i),λi _=>n≤i⟩
theorem turn_list {P:Program}{w:World}{K:W.Frag}{tg:Expr}(a it:Addr):Turn P w K tg (Itl K a) [it] it (λi h=>h.IsListIter it a i) where
 mem:=by simp
 obj:=λi h st b hb=>by
  have e:b=it:=by simpa using hb
  subst e
  obtain⟨o,e,c,d⟩:=st
  exact⟨o,e,λv z=>by rw[d]at z; cases z⟩
 keep:=λi h h' st k=>st.at λo e=>k it (by simp) o e
 item:=by
  intro X hP hw hK hc i pins s σ H E I hf st hg
  subst hP hw hK
  obtain⟨xs,x,hq,hx⟩:=hg
  obtain⟨its,rv,p,hz⟩:=I.list hq
  obtain⟨u,hu,ru⟩:=rv.get hx
  obtain⟨f0,f1,f2,f3,f4,f5⟩:=hf it (by simp)
  refine wpAny_pyNext_list_item st p.isList (x:=u) (by simpa using hu) λh' st' sb=>?_
  have I1:Inv X pins σ H { s with heap:=h' }:=I.turned (t':=s.toks) (λb o hb e=>(sb.2 b hb).trans e) f0 f1 f3 f4 f5
  obtain⟨o,e,c,d⟩:=id st'
  exact⟨u,rfl,Zmo (s:={ s with heap:=h' }) e c d (by decide) ⟨x,H,I1,ru,⟨rfl,λys hy=>by rw[I.list_inj hy hq]; exact hx⟩,st',λb hb=>(hf b hb).1⟩⟩
 done:=by
  intro X hP hw hK hc i pins s σ H E I hf st hg
  subst hP hw hK
  obtain⟨xs,hq,hx⟩:=hg
  obtain⟨its,rv,p,hz⟩:=I.list hq
  obtain⟨f0,f1,f2,f3,f4,f5⟩:=hf it (by simp)
  have hl:=rv.length
  exact wpAny_pyNext_list_end (I.ok.hd hc) st p.isList (by simp; lia) λh' eb=>⟨rfl,I.turned (t':=s.toks) (λb o hb e=>eb b o hb e) f0 f1 f3 f4 f5⟩
 self:=λ_ _ _ _ _ st h=>wpAny_pyIter_listiter st h
theorem turn_tuple {P:Program}{w:World}{K:W.Frag}{tg:Expr}(a it:Addr):Turn P w K tg (Itt K a) [it] it (λi h=>h.IsTupleIter it a i) where
 mem:=by simp
 obj:=λi h st b hb=>by
  have e:b=it:=by simpa using hb
  subst e
  obtain⟨o,e,c,d⟩:=st
  exact⟨o,e,λv z=>by rw[d]at z; cases z⟩
 keep:=λi h h' st k=>st.at λo e=>k it (by simp) o e
 item:=by
  intro X hP hw hK hc i pins s σ H E I hf st hg
  subst hP hw hK
  obtain⟨xs,x,hq,hx⟩:=hg
  obtain⟨its,rv,p,hz⟩:=I.tuple hq
  obtain⟨u,hu,ru⟩:=rv.get hx
  obtain⟨f0,f1,f2,f3,f4,f5⟩:=hf it (by simp)
  refine wpAny_pyNext_tuple_item st (show s.heap.IsTuple a its.toArray from p) (x:=u) (by simpa using hu) λh' st' sb=>?_
  have I1:Inv X pins σ H { s with heap:=h' }:=I.turned (t':=s.toks) (λb o hb e=>(sb.2 b hb).trans e) f0 f1 f3 f4 f5
  obtain⟨o,e,c,d⟩:=id st'
  exact⟨u,rfl,Zmo (s:={ s with heap:=h' }) e c d (by decide) ⟨x,H,I1,ru,⟨rfl,λys hy=>by rw[I.tuple_inj hy hq]; exact hx⟩,st',λb hb=>(hf b hb).1⟩⟩
 done:=by
  intro X hP hw hK hc i pins s σ H E I hf st hg
  subst hP hw hK
  obtain⟨xs,hq,hx⟩:=hg
  obtain⟨its,rv,p,hz⟩:=I.tuple hq
  obtain⟨f0,f1,f2,f3,f4,f5⟩:=hf it (by simp)
  have hl:=rv.length
  exact wpAny_pyNext_tuple_end (I.ok.hd hc) st (show s.heap.IsTuple a its.toArray from p) (by simp; lia) λh' eb=>⟨rfl,I.turned (t':=s.toks) (λb o hb e=>eb b o hb e) f0 f1 f3 f4 f5⟩
 self:=λ_ _ _ _ _ st h=>wpAny_pyIter_tupleiter st h
theorem turn_range {P:Program}{w:World}{K:W.Frag}{tg:Expr}(it:Addr) (lo:Int) (n:Nat):Turn P w K tg (Itr lo n) [it] it (λi h=>IsRangeIter h it (lo + (i:Nat) * 1) ((n:Int) - (i:Nat)) 1) where
 mem:=by simp
 obj:=λi h st b hb=>by
  have e:b=it:=by simpa using hb
  subst e
  exact⟨_,st,λv z=>by
   have z':Data.fields _=Data.cell v:=z
   cases z'⟩
 keep:=λi h h' st k=>k it (by simp) _ st
 item:=by
  intro X hP hw hK hc i pins s σ H E I hf st hg
  subst hP hw hK
  obtain⟨f0,f1,f2,f3,f4,f5⟩:=hf it (by simp)
  have W:=Walks.range (prog:=X.prog) (w:=X.w) (I.ok.hd hc) it lo 1 n
  refine W.item i s _ _ hg st λv h' tk hv st' kk=>?_
  obtain⟨t,rfl⟩:=hv
  have I1:Inv X pins σ H { s with heap:=h',toks:=tk }:=I.turned (λb o hb e=>kk b o (by simpa using hb) e) f0 f1 f3 f4 f5
  refine⟨_,rfl,Zmo (s:={ s with heap:=h',toks:=tk }) (n := "range_iterator") st' rfl rfl (by decide) ⟨.int (lo + i),H,I1,⟨t,?_⟩,⟨rfl,rfl⟩,st',λb hb=>(hf b hb).1⟩⟩
  rw[Int.mul_one]
 done:=by
  intro X hP hw hK hc i pins s σ H E I hf st hg
  subst hP hw hK
  obtain⟨f0,f1,f2,f3,f4,f5⟩:=hf it (by simp)
  exact wpAny_pyNext_range_end (I.ok.hd hc) st (by have:n≤i:=hg; lia) λh' eb=>⟨rfl,I.turned (t':=s.toks) (λb o hb e=>eb b o hb e) f0 f1 f3 f4 f5⟩
 self:=λ_ _ _ _ _ st h=>wpAny_pyIter_rangeiter st h
end L2
namespace L2
open PySem PySem.Spec PyProof.Rows
section
variable {X:Cx}{tg:Expr}
noncomputable def iList (K:W.Frag) (tl:TE):TI:=λσ H R=>tl σ H λx H1=>∃a,x=.ref a∧(∃xs,SqL K H1 a xs)∧R (Itl K a) H1
noncomputable def iTup (K:W.Frag) (tl:TE):TI:=λσ H R=>tl σ H λx H1=>∃a,x=.ref a∧(∃xs,SqT K H1 a xs)∧R (Itt K a) H1
theorem Zaz {l:Expr}{tl:TE}(hl:PE X l tl):PI X tg l (iList X.K tl):=by
 intro pins s σ H R I h
 refine thn (hl pins s σ H _ I h) λv s1 hp0=>?_
 obtain⟨x,H1,I1,r1,q1⟩:=hp0
 obtain⟨a,e,⟨xs,hq⟩,q⟩:=q1
 subst e
 cases r1
 obtain⟨its,rv,p,hz⟩:=I1.list hq
 refine wpAny_pyIter_list p.isList ?_
 refine⟨s1.heap.objs.size,[s1.heap.objs.size],_,_,H1,rfl,I1.kept (t':=s1.toks) λb o e=>Heap.get?_push_of_some _ e,turn_list a _,⟨_,Heap.get?_push_size _ rfl,rfl,rfl⟩,λb hb=>?_,q⟩
 have e:b=s1.heap.objs.size:=by simpa using hb
 subst e
 exact I1.fpOk (Nat.le_refl _) (I1.hok.fresh (Nat.le_refl _))
theorem pi_tup {l:Expr}{tl:TE}(hl:PE X l tl):PI X tg l (iTup X.K tl):=by
 intro pins s σ H R I h
 refine thn (hl pins s σ H _ I h) λv s1 hp0=>?_
 obtain⟨x,H1,I1,r1,q1⟩:=hp0
 obtain⟨a,e,⟨xs,hq⟩,q⟩:=q1
 subst e
 cases r1
 obtain⟨its,rv,p,hz⟩:=I1.tuple hq
 refine wpAny_pyIter_tuple (show s1.heap.IsTuple a its.toArray from p) ?_
 refine⟨s1.heap.objs.size,[s1.heap.objs.size],_,_,H1,rfl,I1.kept (t':=s1.toks) λb o e=>Heap.get?_push_of_some _ e,turn_tuple a _,⟨_,Heap.get?_push_size _ rfl,rfl,rfl⟩,λb hb=>?_,q⟩
 have e:b=s1.heap.objs.size:=by simpa using hb
 subst e
 exact I1.fpOk (Nat.le_refl _) (I1.hok.fresh (Nat.le_refl _))
theorem range_it {pins:List (Addr×Obj)}{σ:St}{H:Hp}{s:Shared}{R:It→Hp→Prop}{E:Value→Shared→Prop}{lo hi:Int}{t u v:Tok}{tk:Nat}(I:Inv X pins σ H s) (h1:-(2 ^ 62)≤lo) (h2:lo < 2 ^ 62) (h3:-(2 ^ 62)≤hi) (h4:hi < 2 ^ 62)
  (q:R (Itr lo (hi - lo).toNat) H):wpAny (model X.prog X.w) X.A (pyIter (.ref s.heap.objs.size)) (PIE X pins σ tg R) E { s with heap:=s.heap.push { cls:=.type "range",data:=.fields #[.int lo t,.int hi u,.int 1 v] },toks:=tk }:=by
 refine wpAny_pyIter_range (IsRange.new ..) (small_one h1 h2 h3 h4) ?_
 have I1:Inv X pins σ H { s with heap:=s.heap.push { cls:=.type "range",data:=.fields #[.int lo t,.int hi u,.int 1 v] },toks:=tk }:=I.kept λb o e=>Heap.get?_push_of_some _ e
 refine⟨(s.heap.push { cls:=.type "range",data:=.fields #[.int lo t,.int hi u,.int 1 v] }).objs.size,[(s.heap.push { cls:=.type "range",data:=.fields #[.int lo t,.int hi u,.int 1 v] }).objs.size],_,_,H,rfl,
  I1.kept (t':=tk) λb o e=>Heap.get?_push_of_some _ e,turn_range _ lo (hi - lo).toNat,?_,λb hb=>?_,q⟩
 ·have e1:lo + ((0:Nat):Int) * 1=lo:=by simp
  have e2:(((hi - lo).toNat:Nat):Int) - ((0:Nat):Int)=Builtin.Range.rangeSize lo hi 1:=by rw[rangeSize_one]; split <;> lia
  show IsRangeIter _ _ (lo + ((0:Nat):Int) * 1) ((((hi - lo).toNat:Nat):Int) - ((0:Nat):Int)) 1
  rw[e1,e2]
  exact Heap.get?_push_size _ rfl
 have e:b=(s.heap.push { cls:=.type "range",data:=.fields #[.int lo t,.int hi u,.int 1 v] }).objs.size:=by simpa using hb
 subst e
 exact I1.fpOk (Nat.le_refl _) (I1.hok.fresh (Nat.le_refl _))
noncomputable def iRng1 (ta:TA):TI:=λσ H R=>ta σ H λvs H1=>∃j:Int,vs=[.int j]∧-(2 ^ 62)≤j∧j < 2 ^ 62∧R (Itr 0 j.toNat) H1
theorem Zbo {a:Expr}{ta:TA}{p pos:Pos}(hg:Gl X "range") (hm:X.mg "range" = none) (ha:PA X [a] ta) (hs:starEach [a] X.env=[(false,eval a X.env)]:=by rfl):PI X tg (.Call (.Name "range" p) [a] [] pos) (iRng1 ta):=by
 intro pins s σ H R I h
 refine Call_ (Zho I hg hm boot_range (PyProof.Rows.callWith_type1 (thn (ha pos pins s σ H _ I h) λus s1 hp0=>?_) hs rfl))
 obtain⟨vs,H1,I1,r1,q1⟩:=hp0
 obtain⟨j,e,q1,q2,q⟩:=q1
 subst e
 cases r1 with
 | cons r rr=>
  cases rr
  obtain⟨t,rfl⟩:=r
  exact call_range_1 (range_it I1 (by lia) (by lia) q1 q2 (by simpa using q))
noncomputable def tFor (wi:TI) (g:TG) (tb:TS):TS:=λD σ H=>wi σ H λJ H1=>∃W:Nat→Nat→St→Hp→Prop,(∃m,W 0 m σ H1)∧∀i m σ H,W i m σ H →
 (J.stop i H∧D.nx σ H)∨(J.go i H∧∃N:St→Hp→Prop,(∀σ' H',N σ' H'→∃m',m' < m∧W (i + 1) m' σ' H')∧∀x H',J.yld i H x H'→g x σ H' λσ2 H2=>tb { D with nx:=N,ct:=N,bk:=D.nx } σ2 H2)
noncomputable def Zjd (fp:List Addr) (h:Heap):List (Addr×Obj):=fp.filterMap λb=>(h.get? b).map λo=>(b,o)
theorem Zen {fp:List Addr}{h:Heap}{b:Addr}{o:Obj}(hb:b∈fp) (e:h.get? b=some o):(b,o)∈Zjd fp h:=mem_filterMap.mpr ⟨b,hb,by rw[e]; rfl⟩
theorem of_pinsAt {fp:List Addr}{h:Heap}{p:Addr×Obj}(hp:p∈Zjd fp h):p.1∈fp∧h.get? p.1=some p.2:=by
 obtain⟨b,hb,e⟩:=mem_filterMap.mp hp
 cases q:h.get? b with
 | none=>rw[q]at e; cases e
 | some o=>
  rw[q]at e
  have e':(b,o)=p:=Option.some.inj e
  subst e'
  exact⟨hb,q⟩
theorem Inv.pinned {pins:List (Addr×Obj)}{σ:St}{H:Hp}{s:Shared}{fp:List Addr}(I:Inv X pins σ H s) (hf:∀b∈fp,FpOk X pins H b) (ho:∀b∈fp,∃o,s.heap.get? b=some o∧∀v,o.data≠.cell v):Inv X (pins ++ Zjd fp s.heap) σ H s:=
 I.pins_of λp hp=>(mem_append.mp hp).elim (λz=>I.pin p (mem_append_right _ z)) λz=>by
  obtain⟨hb,e⟩:=of_pinsAt z
  obtain⟨f0,f1,f2,_⟩:=hf p.1 hb
  obtain⟨o,e',d⟩:=ho p.1 hb
  rw[e]at e'; cases e'
  exact⟨e,f0,f1,f2,d⟩
theorem Inv.unpinned {pins pl:List (Addr×Obj)}{σ:St}{H:Hp}{s:Shared}(I:Inv X (pins ++ pl) σ H s):Inv X pins σ H s:=I.pins_of λp hp=>I.pin p (mem_append_right _ (mem_append_left _ hp))
theorem Zba {iter:Expr}{body:List Stmt}{wi:TI}{g:TG}{tb:TS}{pos:Pos}(hp:PassesOwn (model X.prog X.w) X.A X.env X.xe) (hc:X.calm=true) (hi:PI X tg iter wi) (hg:PG X tg g) (hb:PSs X body tb)
  (hs:∀x,foldedSetIterable iter X.env x=pure x:=by intro _; rfl):PS X (.For tg iter body [] pos) (tFor wi g tb):=by
 intro pins s σ H D I h
 refine wpAny_For (thn (hi pins s σ H _ I h) λv s1 h1=>thn h1 λitv s2 h2=>?_) hs
 obtain⟨it,fp,tn,J,H2,e,I2,T,st2,f2,W,⟨m0,w0⟩,turn⟩:=h2
 subst e
 -- what stays true of the iterator's objects through the loop
 have stat:∀{H':Hp},(∀b∈fp,H' b=none)→∀b∈fp,FpOk X pins H' b:=λhn b hb=>⟨hn b hb,(f2 b hb).2⟩
 refine codeAny_forLoop_any (λn s'=>∃i σ' H',Inv X pins σ' H' s'∧tn i s'.heap∧(∀b∈fp,H' b=none)∧W i n σ' H') ?_ m0 ⟨0,σ,H2,I2,st2,λb hb=>(f2 b hb).1,w0⟩
 rintro n s3 ⟨i,σ3,H3,I3,st3,fr3,w3⟩
 rcases turn i n σ3 H3 w3 with⟨stop,qn⟩ | ⟨go,N,hN,step⟩
 ·refine wpAny_passesOwn hp (thn (T.done X rfl rfl rfl hc i pins s3 σ3 H3 X.xe I3 (stat fr3) st3 stop) λr s4 hp0=>?_)
  obtain⟨hr,I4⟩:=hp0
  subst hr
  exact wpAny_execs_nil ⟨σ3,H3,I4,qn⟩
 refine wpAny_passesOwn hp (thn (T.item X rfl rfl rfl hc i pins s3 σ3 H3 X.xe I3 (stat fr3) st3 go) λr s4 hp0=>?_)
 obtain⟨u,hr,h4⟩:=hp0
 subst hr
 refine wpAny_passesOwn hp (thn h4 λ_ s5 hp0=>?_)
 obtain⟨x,H5,I5,r5,y5,st5,fr5⟩:=hp0
 have I5':=I5.pinned (stat fr5) (T.obj _ _ st5)
 refine wpAny_passesOwn hp (thn (hg _ s5 σ3 H5 x u _ I5' r5 (step x H5 y5)) λ_ s6 hp0=>?_)
 obtain⟨σ6,H6,I6,q6⟩:=hp0
 refine wpAny_passesOwn hp (thn (hb _ s6 σ6 H6 _ I6 q6) λf s7 q7=>?_)
 have again:∀{σ7:St}{H7:Hp},Inv X (pins ++ Zjd fp s5.heap) σ7 H7 s7→N σ7 H7→∃m,m < n∧∃i σ' H',Inv X pins σ' H' s7∧tn i s7.heap∧(∀b∈fp,H' b=none)∧W i m σ' H':=λ{σ7 H7} I7 n7=>by
  obtain⟨m',hm,w7⟩:=hN σ7 H7 n7
  refine⟨m',hm,i + 1,σ7,H7,I7.unpinned,T.keep _ _ _ st5 λb hb o e=>(I7.pin (b,o) (mem_append_right _ (mem_append_right _ (Zen hb e)))).1,λb hb=>?_,w7⟩
  obtain⟨o,e,d⟩:=T.obj _ _ st5 b hb
  exact(I7.pin (b,o) (mem_append_right _ (mem_append_right _ (Zen hb e)))).2.1
 cases f with
 | next=>obtain⟨σ7,H7,I7,n7⟩:=q7; exact again I7 n7
 | cont=>obtain⟨σ7,H7,I7,n7⟩:=q7; exact again I7 n7
 | brk=>obtain⟨σ7,H7,I7,q7⟩:=q7; exact⟨σ7,H7,I7.unpinned,q7⟩
 | ret v=>obtain⟨x7,σ7,H7,I7,r7,q7⟩:=q7; exact⟨x7,σ7,H7,I7.unpinned,r7,q7⟩
end
theorem Za5 {K:W.Frag}{a:Addr}{xs:List V}{g:TG}{tb:TS}{D:Ends}{σ:St}{H:Hp}(Pv:Nat→St→Hp→Prop) (h0:Pv 0 σ H) (hl:∀i σ H,i≤xs.length→Pv i σ H→SqL K H a xs)
  (hs:∀i x σ H,xs[i]? = some x→Pv i σ H→g x σ H λσ2 H2=>tb { D with nx:=Pv (i + 1),ct:=Pv (i + 1),bk:=D.nx } σ2 H2) (hd:∀σ H,Pv xs.length σ H→D.nx σ H) :
  ∃W:Nat→Nat→St→Hp→Prop,(∃m,W 0 m σ H)∧∀i m σ H,W i m σ H →
   ((Itl K a).stop i H∧D.nx σ H)∨((Itl K a).go i H∧∃N:St→Hp→Prop,(∀σ' H',N σ' H'→∃m',m' < m∧W (i + 1) m' σ' H')∧∀x H',(Itl K a).yld i H x H'→g x σ H' λσ2 H2=>tb { D with nx:=N,ct:=N,bk:=D.nx } σ2 H2):=by
 refine⟨λi m σ H=>m=xs.length - i∧i≤xs.length∧Pv i σ H,⟨xs.length,by simp,zero_le _,h0⟩,?_⟩
 rintro i m σ H ⟨rfl,hi,p⟩
 have q:=hl i σ H hi p
 by_cases hlt:i < xs.length
 ·refine .inr ⟨⟨xs,xs[i],q,by simp[hlt]⟩,Pv (i + 1),λσ' H' p'=>⟨xs.length - (i + 1),by lia,rfl,hlt,p'⟩,λx H' y=>?_⟩
  obtain⟨e,y⟩:=y
  subst e
  exact hs i x σ _ (y xs q) p
 have e:i=xs.length:=by lia
 subst e
 exact .inl ⟨⟨xs,q,Nat.le_refl _⟩,hd σ H p⟩
theorem Ze9 {lo:Int}{n:Nat}{g:TG}{tb:TS}{D:Ends}{σ:St}{H:Hp}(Pv:Nat→St→Hp→Prop) (h0:Pv 0 σ H)
  (hs:∀i σ H,i < n→Pv i σ H→g (.int (lo + i)) σ H λσ2 H2=>tb { D with nx:=Pv (i + 1),ct:=Pv (i + 1),bk:=D.nx } σ2 H2) (hd:∀σ H,Pv n σ H→D.nx σ H) :
  ∃W:Nat→Nat→St→Hp→Prop,(∃m,W 0 m σ H)∧∀i m σ H,W i m σ H →
   ((Itr lo n).stop i H∧D.nx σ H)∨((Itr lo n).go i H∧∃N:St→Hp→Prop,(∀σ' H',N σ' H'→∃m',m' < m∧W (i + 1) m' σ' H')∧∀x H',(Itr lo n).yld i H x H'→g x σ H' λσ2 H2=>tb { D with nx:=N,ct:=N,bk:=D.nx } σ2 H2):=by
 refine⟨λi m σ H=>m=n - i∧i≤n∧Pv i σ H,⟨n,by simp,zero_le _,h0⟩,?_⟩
 rintro i m σ H ⟨rfl,hi,p⟩
 by_cases hlt:i < n
 ·refine .inr ⟨hlt,Pv (i + 1),λσ' H' p'=>⟨n - (i + 1),by lia,rfl,hlt,p'⟩,λx H' y=>?_⟩
  obtain⟨e,y⟩:=y
  subst e y
  exact hs i σ _ hlt p
 have e:i=n:=by lia
 subst e
 exact .inl ⟨Nat.le_refl _,hd σ H p⟩
end L2
namespace L2
open PySem PySem.Spec PyProof.Rows
noncomputable abbrev R2:=V→V→Hp→VK→Prop
noncomputable def OpR (X:Cx) (f:Value→Value→Sem Value) (r:R2):Prop:=
 ∀(pins:List (Addr×Obj)) (s:Shared) (σ:St) (H:Hp) (x y:V) (v u:Value) (Q:VK),Inv X pins σ H s→RelV x v→RelV y u→r x y H Q →
  wpAny (model X.prog X.w) X.A (f v u) (EP X pins σ Q) X.xe s
noncomputable def UnR (X:Cx) (f:Value→Sem Value) (r:V→Hp→VK→Prop):Prop:=
 ∀(pins:List (Addr×Obj)) (s:Shared) (σ:St) (H:Hp) (x:V) (v:Value) (Q:VK),Inv X pins σ H s→RelV x v→r x H Q →
  wpAny (model X.prog X.w) X.A (f v) (EP X pins σ Q) X.xe s
noncomputable def Zcy (X:Cx) (f:Value) (r:List V→Hp→VK→Prop):Prop:=
 ∀(pins:List (Addr×Obj)) (s:Shared) (σ:St) (H:Hp) (xs:List V) (us:List Value) (Q:VK),Inv X pins σ H s→Vals xs us→r xs H Q →
  wpAny (model X.prog X.w) X.A (call f us) (EP X pins σ Q) X.xe s
noncomputable def TruR (X:Cx) (r:V→Hp→(Bool→Hp→Prop)→Prop):Prop:=
 ∀(pins:List (Addr×Obj)) (s:Shared) (σ:St) (H:Hp) (x:V) (v:Value) (Q:Bool→Hp→Prop),Inv X pins σ H s→RelV x v→r x H Q →
  wpAny (model X.prog X.w) X.A (truthy v) (TP X pins σ Q) X.xe s
noncomputable def tOp (r:R2) (ta tb:TE):TE:=λσ H Q=>ta σ H λx H1=>tb σ H1 λy H2=>r x y H2 Q
noncomputable def tUn (r:V→Hp→VK→Prop) (ta:TE):TE:=λσ H Q=>ta σ H λx H1=>r x H1 Q
inductive rI (C:Int→Int→Prop) (g:Int→Int→V) (x:V) (y:V) (H:Hp) (Q:VK):Prop
 | mk (i:_) (j:_) (c0:x=.int i) (c1:y=.int j) (c2:C i j) (c3:Q (g i j) H):rI C g x y H Q
inductive rI0 (g:Int→Int→V) (x:V) (y:V) (H:Hp) (Q:VK):Prop
 | mk (i:_) (j:_) (c0:x=.int i) (c1:y=.int j) (c2:Q (g i j) H):rI0 g x y H Q
noncomputable def rU (g:Int→V):V→Hp→VK→Prop:=λx H Q=>∃i,x=.int i∧Q (g i) H
section
variable {X:Cx}{a b c:Expr}{ta tb tc:TE}{pos:Pos}
theorem binT (ha:PE X a ta) (hb:PE X b tb) {pins:List (Addr×Obj)}{s:Shared}{σ:St}{H:Hp}{R:V→V→Hp→Prop}(I:Inv X pins σ H s)
  (h:ta σ H λx H1=>tb σ H1 λy H2=>R x y H2) {Q:Value→Shared→Prop}{f:Value→Value→Sem Value}
  (hf:∀v u s2 x y H2,Inv X pins σ H2 s2→RelV x v→RelV y u→R x y H2→wpAny (model X.prog X.w) X.A (f v u) Q X.xe s2) :
  wpAny (model X.prog X.w) X.A (eval a X.env) (λv s₁=>wpAny (model X.prog X.w) X.A (eval b X.env) (λu s₂=>wpAny (model X.prog X.w) X.A (f v u) Q X.xe s₂) X.xe s₁) X.xe s:=by
 refine thn (ha pins s σ H _ I h) λv s1 hp0=>?_
 obtain⟨x,H1,I1,r1,q1⟩:=hp0
 refine thn (hb pins s1 σ H1 _ I1 q1) λu s2 hp0=>?_
 obtain⟨y,H2,I2,r2,q2⟩:=hp0
 exact hf v u s2 x y H2 I2 r1 r2 q2
theorem Zaw {op:Operator}{r:R2}(ho:OpR X (binaryOp op) r) (ha:PE X a ta) (hb:PE X b tb):PE X (.BinOp a op b pos) (tOp r ta tb):=by
 intro pins s σ H Q I h
 exact wpAny_BinOp (binT ha hb I h λv u s2 x y H2 I2 rx ry q=>ho pins s2 σ H2 x y v u Q I2 rx ry q)
theorem Zl9 {op:UnaryOp}{r:V→Hp→VK→Prop}(ho:UnR X (unaryOp op) r) (ha:PE X a ta):PE X (.UnaryOp op a pos) (tUn r ta):=by
 intro pins s σ H Q I h
 exact UnaryOp_ (thn (ha pins s σ H _ I h) λv s1 hp0=>by obtain⟨x,H1,I1,r1,q1⟩:=hp0; exact ho pins s1 σ H1 x v Q I1 r1 q1)
theorem opI {f:Value→Value→Sem Value}{C:Int→Int→Prop}{g:Int→Int→Int}
  (rule:∀(i j:Int) (t u:Tok) (s:Shared) (Q:Value→Shared→Prop) (E:Value→Shared→Prop),C i j→Q (.int (g i j) s.toks) { s with toks:=s.toks + 1 }→wpAny (model X.prog X.w) X.A (f (.int i t) (.int j u)) Q E s) :
  OpR X f (rI C λi j=>.int (g i j)):=by
 intro pins s σ H x y v u Q I rx ry h
 obtain⟨i,j,rfl,rfl,hc,q⟩:=h
 obtain⟨t,rfl⟩:=rx
 obtain⟨t',rfl⟩:=ry
 exact rule i j t t' s _ _ hc ⟨.int (g i j),H,I.tok _,⟨_,rfl⟩,q⟩
theorem opI0 {f:Value→Value→Sem Value}{g:Int→Int→Int}
  (rule:∀(i j:Int) (t u:Tok) (s:Shared) (Q:Value→Shared→Prop) (E:Value→Shared→Prop),Q (.int (g i j) s.toks) { s with toks:=s.toks + 1 }→wpAny (model X.prog X.w) X.A (f (.int i t) (.int j u)) Q E s) :
  OpR X f (rI0 λi j=>.int (g i j)):=by
 intro pins s σ H x y v u Q I rx ry h
 obtain⟨i,j,rfl,rfl,q⟩:=h
 obtain⟨t,rfl⟩:=rx
 obtain⟨t',rfl⟩:=ry
 exact rule i j t t' s _ _ ⟨.int (g i j),H,I.tok _,⟨_,rfl⟩,q⟩
theorem opB0 {f:Value→Value→Sem Value}{g:Int→Int→Bool}
  (rule:∀(i j:Int) (t u:Tok) (s:Shared) (Q:Value→Shared→Prop) (E:Value→Shared→Prop),Q (.bool (g i j)) s→wpAny (model X.prog X.w) X.A (f (.int i t) (.int j u)) Q E s) :
  OpR X f (rI0 λi j=>.bl (g i j)):=by
 intro pins s σ H x y v u Q I rx ry h
 obtain⟨i,j,rfl,rfl,q⟩:=h
 obtain⟨t,rfl⟩:=rx
 obtain⟨t',rfl⟩:=ry
 exact rule i j t t' s _ _ ⟨.bl (g i j),H,I,rfl,q⟩
noncomputable def CPow (i j:Int):Prop:=0≤j∧j≤1000000∧i.natAbs < 2 ^ 64
noncomputable def CMul (i j:Int):Prop:=(-(2 ^ 64) < i∧i < 2 ^ 64)∨(-(2 ^ 64) < j∧j < 2 ^ 64)
theorem CMul.ok {i j:Int}(h:CMul i j):IntMulOk i j:=by
 rcases h with⟨h1,h2⟩ | ⟨h1,h2⟩
 ·exact .of_left (intBits_le_64 h1 h2)
 exact .of_right (intBits_le_64 h1 h2)
theorem two_pow_nn (k:Nat):(0:Int)≤2 ^ k:=by
 rw[two_pow_cast]
 exact Int.natCast_nonneg _
theorem Zb2:OpR X (binaryOp .Add) (rI0 λi j=>.int (i + j)):=opI0 λ_ _ _ _ _ _ _ q=>add_int q
theorem Zjf:OpR X (binaryOp .Sub) (rI0 λi j=>.int (i - j)):=opI0 λ_ _ _ _ _ _ _ q=>sub_int q
theorem Zg3:OpR X (binaryOp .Mult) (rI CMul λi j=>.int (i * j)):=opI λ_ _ _ _ _ _ _ hc q=>mul_int q hc.ok
theorem Zjh:OpR X (binaryOp .Mod) (rI (λ_ j=>0 < j) λi j=>.int (i % j)):=opI λi j _ _ _ _ _ hc q=>by
 have h1:(0:Int) < j:=hc
 exact mod_int' (by lia) (by rw[Int.fmod_eq_emod_of_nonneg i (by lia)]; exact q)
theorem op_pow:OpR X (binaryOp .Pow) (rI CPow λi j=>.int (i ^ j.toNat)):=opI λ_ _ _ _ _ _ _ hc q=>pow_int_small hc.1 hc.2.1 hc.2.2 q
theorem Zd8:OpR X (binaryOp .LShift) (rI CPow λi j=>.int (i * 2 ^ j.toNat)):=opI λ_ _ _ _ _ _ _ hc q=>lshift_int_small hc.1 hc.2.1 hc.2.2 q
theorem Znp:OpR X (binaryOp .RShift) (rI (λ_ j=>0≤j) λi j=>.int (i / 2 ^ j.toNat)):=opI λi j _ _ _ _ _ hc q=>
 rshift_int hc (by rw[Int.fdiv_eq_ediv_of_nonneg i (two_pow_nn _)]; exact q)
theorem Zhn:OpR X (binaryOp .BitAnd) (rI0 λi j=>.int (Builtin.bitAnd i j)):=opI0 λ_ _ _ _ _ _ _ q=>and_int q
theorem Zjg:OpR X (binaryOp .BitOr) (rI0 λi j=>.int (Builtin.bitOr i j)):=opI0 λ_ _ _ _ _ _ _ q=>or_int q
theorem op_xor:OpR X (binaryOp .BitXor) (rI0 λi j=>.int (Builtin.bitXor i j)):=opI0 λ_ _ _ _ _ _ _ q=>xor_int q
theorem unI {f:Value→Sem Value}{g:Int→Int}
  (rule:∀(i:Int) (t:Tok) (s:Shared) (Q:Value→Shared→Prop) (E:Value→Shared→Prop),Q (.int (g i) s.toks) { s with toks:=s.toks + 1 }→wpAny (model X.prog X.w) X.A (f (.int i t)) Q E s) :
  UnR X f (rU λi=>.int (g i)):=by
 intro pins s σ H x v Q I rx h
 obtain⟨i,rfl,q⟩:=h
 obtain⟨t,rfl⟩:=rx
 exact rule i t s _ _ ⟨.int (g i),H,I.tok _,⟨_,rfl⟩,q⟩
theorem Zi5:UnR X (unaryOp .USub) (rU λi=>.int (-i)):=unI λ_ _ _ _ _ q=>neg_int q
end
noncomputable def scal:V→V→Bool
 | .non,.non=>true | .non,.int _=>true | .int _,.non=>true | .non,.bl _=>true | .bl _,.non=>true | .non,.str _=>true | .str _,.non=>true
 | .int _,.int _=>true | .bl _,.bl _=>true | .str _,.str _=>true | .byt _,.byt _=>true
 | .int _,.str _=>true | .str _,.int _=>true | .bl _,.str _=>true | .str _,.bl _=>true
 | _,_=>false
noncomputable def rEq:R2:=λx y H Q=>scal x y=true∧Q (.bl (decide (x=y))) H
noncomputable def rNe:R2:=λx y H Q=>scal x y=true∧Q (.bl (!decide (x=y))) H
theorem Zmt {i j:Int}:decide (V.int i=V.int j)=(i == j):=by
 rw[Bool.eq_iff_iff]
 simp
theorem Znt {i j:Bool}:decide (V.bl i=V.bl j)=(i == j):=by
 rw[Bool.eq_iff_iff]
 simp
theorem Zms {i j:Str}:decide (V.str i=V.str j)=(i == j):=by
 rw[Bool.eq_iff_iff]
 simp
theorem Zmu {i j:Array UInt8}:decide (V.byt i=V.byt j)=(i.toList == j.toList):=by
 rw[Bool.eq_iff_iff]
 cases i
 cases j
 simp
section
variable {X:Cx}{a b c:Expr}{ta tb tc:TE}{pos:Pos}
theorem Za7 {pins:List (Addr×Obj)}{σ:St}{H:Hp}{s:Shared}{Q:VK}{k k':Bool}(I:Inv X pins σ H s) (q:Q (.bl k) H) (e:k=k'):EP X pins σ Q (.bool k') s:=by
 subst e
 exact⟨.bl k,H,I,rfl,q⟩
theorem Zdw:OpR X (compareOp .Eq) rEq:=by
 intro pins s σ H x y v u Q I rx ry h
 obtain⟨hs,q⟩:=h
 cases x with
 | non=>
  cases rx
  cases y with
  | non=>cases ry; exact PySem.EqNone.eq_none_none (Za7 I q (by simp))
  | bl j=>cases ry; exact PySem.EqNone.eq_none_bool (Za7 I q (by simp))
  | int j=>obtain⟨t',rfl⟩:=ry; exact PySem.EqNone.eq_none_int (Za7 I q (by simp))
  | str j=>obtain⟨t',rfl⟩:=ry; exact PySem.EqNone.eq_none_str (Za7 I q (by simp))
  | _=>exact absurd (show false=true from hs) Bool.false_ne_true
 | bl i=>
  cases rx
  cases y with
  | non=>cases ry; exact PySem.EqNone.eq_bool_none (Za7 I q (by simp))
  | bl j=>cases ry; exact eq_bool (Za7 I q Znt)
  | str j=>obtain⟨t',rfl⟩:=ry; exact PySem.EqMixed.eq_bool_str (Za7 I q (by simp))
  | _=>exact absurd (show false=true from hs) Bool.false_ne_true
 | int i=>
  obtain⟨t,rfl⟩:=rx
  cases y with
  | non=>cases ry; exact PySem.EqNone.eq_int_none (Za7 I q (by simp))
  | int j=>obtain⟨t',rfl⟩:=ry; exact eq_int (Za7 I q Zmt)
  | str j=>obtain⟨t',rfl⟩:=ry; exact PySem.EqMixed.eq_int_str (Za7 I q (by simp))
  | _=>exact absurd (show false=true from hs) Bool.false_ne_true
 | str i=>
  obtain⟨t,rfl⟩:=rx
  cases y with
  | non=>cases ry; exact PySem.EqNone.eq_str_none (Za7 I q (by simp))
  | bl j=>cases ry; exact PySem.EqMixed.eq_str_bool (Za7 I q (by simp))
  | int j=>obtain⟨t',rfl⟩:=ry; exact PySem.EqMixed.eq_str_int (Za7 I q (by simp))
  | str j=>obtain⟨t',rfl⟩:=ry; exact eq_str (Za7 I q Zms)
  | _=>exact absurd (show false=true from hs) Bool.false_ne_true
 | byt i=>
  obtain⟨t,rfl⟩:=rx
  cases y with
  | byt j=>obtain⟨t',rfl⟩:=ry; exact PySem.W.eq_bytes (Za7 I q Zmu)
  | _=>exact absurd (show false=true from hs) Bool.false_ne_true
 | _=>cases y <;> exact absurd (show false=true from hs) Bool.false_ne_true
theorem Zm8:OpR X (compareOp .NotEq) rNe:=by
 intro pins s σ H x y v u Q I rx ry h
 obtain⟨hs,q⟩:=h
 cases x with
 | non=>
  cases rx
  cases y with
  | non=>cases ry; exact PySem.EqNone.ne_none_none (Za7 I q (by simp))
  | bl j=>cases ry; exact PySem.EqNone.ne_none_bool (Za7 I q (by simp))
  | int j=>obtain⟨t',rfl⟩:=ry; exact PySem.EqNone.ne_none_int (Za7 I q (by simp))
  | str j=>obtain⟨t',rfl⟩:=ry; exact PySem.EqNone.ne_none_str (Za7 I q (by simp))
  | _=>exact absurd (show false=true from hs) Bool.false_ne_true
 | bl i=>
  cases rx
  cases y with
  | non=>cases ry; exact PySem.EqNone.ne_bool_none (Za7 I q (by simp))
  | bl j=>cases ry; exact ne_bool (Za7 I q (congrArg not Znt))
  | str j=>obtain⟨t',rfl⟩:=ry; exact PySem.EqMixed.ne_bool_str (Za7 I q (by simp))
  | _=>exact absurd (show false=true from hs) Bool.false_ne_true
 | int i=>
  obtain⟨t,rfl⟩:=rx
  cases y with
  | non=>cases ry; exact PySem.EqNone.ne_int_none (Za7 I q (by simp))
  | int j=>obtain⟨t',rfl⟩:=ry; exact ne_int (Za7 I q (congrArg not Zmt))
  | str j=>obtain⟨t',rfl⟩:=ry; exact PySem.EqMixed.ne_int_str (Za7 I q (by simp))
  | _=>exact absurd (show false=true from hs) Bool.false_ne_true
 | str i=>
  obtain⟨t,rfl⟩:=rx
  cases y with
  | non=>cases ry; exact PySem.EqNone.ne_str_none (Za7 I q (by simp))
  | bl j=>cases ry; exact PySem.EqMixed.ne_str_bool (Za7 I q (by simp))
  | int j=>obtain⟨t',rfl⟩:=ry; exact PySem.EqMixed.ne_str_int (Za7 I q (by simp))
  | str j=>obtain⟨t',rfl⟩:=ry; exact ne_str (Za7 I q (congrArg not Zms))
  | _=>exact absurd (show false=true from hs) Bool.false_ne_true
 | byt i=>
  obtain⟨t,rfl⟩:=rx
  cases y with
  | byt j=>obtain⟨t',rfl⟩:=ry; exact PySem.W.ne_bytes (Za7 I q (congrArg not Zmu))
  | _=>exact absurd (show false=true from hs) Bool.false_ne_true
 | _=>cases y <;> exact absurd (show false=true from hs) Bool.false_ne_true
theorem Zik:OpR X (compareOp .Lt) (rI0 λi j=>.bl (decide (i < j))):=opB0 λ_ _ _ _ _ _ _ q=>lt_int q
theorem Zj7:OpR X (compareOp .LtE) (rI0 λi j=>.bl (decide (i≤j))):=opB0 λ_ _ _ _ _ _ _ q=>le_int q
theorem Zm9:OpR X (compareOp .Gt) (rI0 λi j=>.bl (decide (j < i))):=opB0 λ_ _ _ _ _ _ _ q=>gt_int q
theorem op_ge:OpR X (compareOp .GtE) (rI0 λi j=>.bl (decide (j≤i))):=opB0 λ_ _ _ _ _ _ _ q=>ge_int q
theorem Zmd:OpR X (compareOp .Is) (λx y H Q=>y=.non∧Q (.bl (decide (x=.non))) H):=by
 intro pins s σ H x y v u Q I rx ry h
 obtain⟨rfl,q⟩:=h
 cases ry
 refine is_none_gen (Za7 I q ?_)
 cases x <;> first
  | (cases rx; rfl)
  | (obtain⟨t,rfl⟩:=rx; rfl)
theorem Zj6:OpR X (compareOp .IsNot) (λx y H Q=>y=.non∧Q (.bl (!decide (x=.non))) H):=by
 intro pins s σ H x y v u Q I rx ry h
 obtain⟨rfl,q⟩:=h
 cases ry
 refine isnot_none_gen (Za7 I q ?_)
 cases x <;> first
  | (cases rx; rfl)
  | (obtain⟨t,rfl⟩:=rx; rfl)
theorem Zay (b:Expr) {op:CmpOp}(h:op≠.In:=by decide) (h2:op≠.NotIn:=by decide):behindInMarks op b=false:=by
 have e1:(op == CmpOp.In)=false:=by cases op <;> first | rfl | exact absurd rfl h
 have e2:(op == CmpOp.NotIn)=false:=by cases op <;> first | rfl | exact absurd rfl h2
 cases b <;> simp[behindInMarks,e1,e2]
theorem Zj5 {op:CmpOp}{r:R2}(ho:OpR X (compareOp op) r) (ha:PE X a ta) (hb:PE X b tb) (hm:behindInMarks op b=false):PE X (.Compare a [op] [b] pos) (tOp r ta tb):=by
 intro pins s σ H Q I h
 exact wpAny_Compare1 (binT ha hb I h λv u s2 x y H2 I2 rx ry q=>ho pins s2 σ H2 x y v u Q I2 rx ry q) hm
inductive isB (Q:Bool→Hp→Prop) (x:V) (H':Hp):Prop
 | mk (k:_) (c0:x=.bl k) (c1:Q k H'):isB Q x H'
noncomputable def tTest (t:TE):TT:=λσ H Q=>t σ H λx H'=>isB Q x H'
theorem Zau {op:CmpOp}{r:R2}(ho:OpR X (compareOp op) r) (ha:PE X a ta) (hb:PE X b tb) (hm:behindInMarks op b=false):PT X (.Compare a [op] [b] pos) (tTest (tOp r ta tb)):=by
 intro pins s σ H Q I h
 refine wpAny_isTrue_Compare1 (thn (ha pins s σ H _ I h) λv s1 ⟨x,H1,I1,r1,q1⟩=>thn (hb pins s1 σ H1 _ I1 q1) λu s2 ⟨y,H2,I2,r2,q2⟩=>
  thn (ho pins s2 σ H2 x y v u _ I2 r1 r2 q2) λc s3 ⟨z,H3,I3,r3,k,e,q3⟩=>?_) hm
 subst e
 cases r3
 exact wpAny_truthy_bool ⟨H3,I3,q3⟩
noncomputable def Zng (r r':R2) (ta tb tc:TE):TE:=λσ H Q=>ta σ H λx H1=>tb σ H1 λy H2=>r x y H2 λz H3=>∃k,z=.bl k ∧
 (if k=true then tc σ H3 λw' H4=>r' y w' H4 Q else Q (.bl false) H3)
theorem pe_chain {op op':CmpOp}{r r':R2}(ho:OpR X (compareOp op) r) (ho':OpR X (compareOp op') r') (ha:PE X a ta) (hb:PE X b tb) (hc:PE X c tc)
  (hm:lastMarks [op,op'] [b,c]=false:=by with_unfolding_all rfl):PE X (.Compare a [op,op'] [b,c] pos) (Zng r r' ta tb tc):=by
 intro pins s σ H Q I h
 refine Compare_chain (thn (ha pins s σ H _ I h) λv s1 ⟨x,H1,I1,r1,q1⟩=>chain_link (thn (hb pins s1 σ H1 _ I1 q1) λu s2 ⟨y,H2,I2,r2,q2⟩=>
  thn (ho pins s2 σ H2 x y v u _ I2 r1 r2 q2) λd s3 ⟨z,H3,I3,r3,k,e,q3⟩=>?_)) hm
 subst e
 cases r3
 refine wpAny_truthy_bool ?_
 cases k with
 | false=>exact ite_ff ⟨.bl false,H3,I3,rfl,q3⟩
 | true=>exact ite_tt (chain_last (thn (hc pins s3 σ H3 _ I3 q3) λw' s4 hp0=>by obtain⟨z',H4,I4,r4,q4⟩:=hp0; exact ho' pins s4 σ H4 y z' u w' Q I4 r2 r4 q4))
theorem Zh0 {op op':CmpOp}{r r':R2}(ho:OpR X (compareOp op) r) (ho':OpR X (compareOp op') r') (ha:PE X a ta) (hb:PE X b tb) (hc:PE X c tc)
  (hm:lastMarks [op,op'] [b,c]=false:=by with_unfolding_all rfl):PT X (.Compare a [op,op'] [b,c] pos) (tTest (Zng r r' ta tb tc)):=by
 intro pins s σ H Q I h
 refine isTrue_chain (thn (ha pins s σ H _ I h) λv s1 ⟨x,H1,I1,r1,q1⟩=>test_link (thn (hb pins s1 σ H1 _ I1 q1) λu s2 ⟨y,H2,I2,r2,q2⟩=>
  thn (ho pins s2 σ H2 x y v u _ I2 r1 r2 q2) λd s3 ⟨z,H3,I3,r3,k,e,q3⟩=>?_)) hm
 subst e
 cases r3
 refine wpAny_truthy_bool ?_
 cases k with
 | false=>
  obtain⟨k',e',q'⟩:=q3
  cases e'
  exact ite_ff ⟨H3,I3,q'⟩
 | true=>
  refine ite_tt (test_last (thn (hc pins s3 σ H3 _ I3 q3) λw' s4 hp0=>?_))
  obtain⟨z',H4,I4,r4,q4⟩:=hp0
  refine thn (ho' pins s4 σ H4 y z' u w' _ I4 r2 r4 q4) λd' s5 hp1=>?_
  obtain⟨z2,H5,I5,r5,k2,e2,q5⟩:=hp1
  subst e2
  cases r5
  exact wpAny_truthy_bool ⟨H5,I5,q5⟩
noncomputable def TruV (K:W.Frag) (x:V) (H:Hp) (k:Bool):Prop:=
 match x with
 | .non=>k=false
 | .bl b=>k=b
 | .int i=>k=(i != 0)
 | .str y=>y.length≤sizeLine∧k=((y.length:Int) != 0)
 | .byt y=>y.size≤sizeLine∧k=((y.size:Int) != 0)
 | .ref p=>(∃xs,SqL K H p xs∧k=!xs.isEmpty)∨(∃xs,SqT K H p xs∧k=!xs.isEmpty)∨∃kvs,H p=some (.dK kvs)∧k=!kvs.isEmpty
 | _=>False
theorem isEmpty_kv {κ:Type}{kvs:List (κ×V)}{vs:List (κ×Value)}(r:KV kvs vs):(!vs.isEmpty)=!kvs.isEmpty:=by
 cases r <;> rfl
theorem Zhq {xs:List V}{its:List Value}(r:Vals xs its):(!its.toArray.isEmpty)=!xs.isEmpty:=by
 cases r <;> simp
theorem Zjm:(sizeLine:Nat) < 2 ^ 63:=by rw[sizeLine_eq]; decide
theorem tru_ok:TruR X (λx H Q=>∃k,TruV X.K x H k∧Q k H):=by
 intro pins s σ H x v Q I rx h
 obtain⟨k,e,q⟩:=h
 have hl:=Zjm
 have hs:sizeLine=16777216:=sizeLine_eq
 cases x with
 | non=>
  cases rx
  have e':k=false:=e
  subst e'
  exact truthy_none ⟨H,I,q⟩
 | bl b=>
  cases rx
  have e':k=b:=e
  subst e'
  exact wpAny_truthy_bool ⟨H,I,q⟩
 | int i=>
  obtain⟨t,rfl⟩:=rx
  have e':k=(i != 0):=e
  subst e'
  exact PySem.P.truthy_int ⟨H,I,q⟩
 | str y=>
  obtain⟨t,rfl⟩:=rx
  obtain⟨hy,e'⟩:y.length≤sizeLine∧k=((y.length:Int) != 0):=e
  subst e'
  exact PySem.P.truthy_str (by lia) ⟨H,I.tok _,q⟩
 | byt y=>
  obtain⟨t,rfl⟩:=rx
  obtain⟨hy,e'⟩:y.size≤sizeLine∧k=((y.size:Int) != 0):=e
  subst e'
  exact PySem.W.truthy_bytes (by lia) ⟨H,I.tok _,q⟩
 | ref p=>
  cases rx
  have e':(∃xs,SqL X.K H p xs∧k=!xs.isEmpty)∨(∃xs,SqT X.K H p xs∧k=!xs.isEmpty)∨∃kvs,H p=some (.dK kvs)∧k=!kvs.isEmpty:=e
  rcases e' with⟨xs,hx,e'⟩ | ⟨xs,hx,e'⟩ | ⟨kvs,hx,e'⟩
  ·subst e'
   obtain⟨its,r,pl,hz⟩:=I.list hx
   have hlen:=r.length
   exact wpAny_truthy_list pl.isList (by simp only[size_toArray]; lia) ⟨H,I.tok _,by rw[Zhq r]; exact q⟩
  ·subst e'
   obtain⟨its,r,pl,hz⟩:=I.tuple hx
   have hlen:=r.length
   exact truthy_tuple pl (by simp only[size_toArray]; lia) ⟨H,I.tok _,by rw[Zhq r]; exact q⟩
  subst e'
  obtain⟨hz,hS,vs,r,m⟩:kvs.length≤sizeLine∧(p == sysModules)=false∧∃vs,KV kvs vs∧s.heap.DictOf (Zat X.prog X.w) p vs:=I.hok p _ hx
  have hlen:kvs.length=vs.length:=Paired.length r
  exact wpAny_truthy_dict hS m (by lia) ⟨H,I.tok _,by rw[isEmpty_kv r]; exact q⟩
 | _=>exact(show False from e).elim
inductive rAddS (x y:V) (H:Hp) (Q:VK):Prop
 | mk (i:_) (j:_) (c0:x=.str i) (c1:y=.str j) (c2:i.length + j.length≤sizeLine) (c3:Q (.str (i ++ j)) H):rAddS x y H Q
theorem Zfn:OpR X (binaryOp .Add) rAddS:=by
 intro pins s σ H x y v u Q I rx ry h
 obtain⟨i,j,rfl,rfl,hz,q⟩:=h
 obtain⟨t,rfl⟩:=rx
 obtain⟨t',rfl⟩:=ry
 exact add_str (λt' tk=>⟨.str (i ++ j),H,I.tok _,⟨_,rfl⟩,q⟩) hz
theorem Zdd {x:V}{us:List Value}(r:Vals [x] us):∃u,us=[u]∧RelV x u:=by
 cases r with
 | cons r1 r2=>cases r2; exact⟨_,rfl,r1⟩
theorem Zlo {x y:V}{us:List Value}(r:Vals [x,y] us):∃u w',us=[u,w']∧RelV x u∧RelV y w':=by
 cases r with
 | cons r1 r2=>
  cases r2 with
  | cons r3 r4=>cases r4; exact⟨_,_,rfl,r1,r3⟩
theorem call_max2 (hc:X.calm=true):Zcy X (.builtin "max") (λxs H Q=>∃i j,xs=[.int i,.int j]∧Q (.int (if j > i then j else i)) H):=by
 intro pins s σ H xs us Q I r h
 obtain⟨i,j,rfl,q⟩:=h
 obtain⟨u,w',rfl,⟨t,rfl⟩,⟨t',rfl⟩⟩:=Zlo r
 refine max_two_ints (I.ok.hd hc) λh' tk k=>⟨_,H,I.kept k,?_,q⟩
 by_cases hj:j > i
 ·rw[if_pos hj,if_pos hj]; exact⟨_,rfl⟩
 rw[if_neg hj,if_neg hj]; exact⟨_,rfl⟩
noncomputable def LenV (K:W.Frag) (x:V) (H:Hp) (n:Nat):Prop:=
 match x with
 | .str y=>y.length≤sizeLine∧n=y.length
 | .byt y=>y.size≤sizeLine∧n=y.size
 | .ref p=>(∃xs,SqL K H p xs∧n=xs.length)∨∃xs,SqT K H p xs∧n=xs.length
 | _=>False
inductive rLen (K:W.Frag) (xs:List V) (H:Hp) (Q:VK):Prop
 | mk (x:_) (n:_) (c0:xs=[x]) (c1:LenV K x H n) (c2:Q (.int n) H):rLen K xs H Q
theorem Zds:Zcy X (.builtin "len") (rLen X.K):=by
 intro pins s σ H xs us Q I r h
 obtain⟨x,n,rfl,e,q⟩:=h
 obtain⟨u,rfl,rx⟩:=Zdd r
 have hl:=Zjm
 have hs:sizeLine=16777216:=sizeLine_eq
 cases x with
 | str y=>
  obtain⟨t,rfl⟩:=rx
  obtain⟨hy,e'⟩:y.length≤sizeLine∧n=y.length:=e
  subst e'
  exact len_str (by lia) ⟨.int _,H,I.tok _,⟨_,rfl⟩,q⟩
 | byt y=>
  obtain⟨t,rfl⟩:=rx
  obtain⟨hy,e'⟩:y.size≤sizeLine∧n=y.size:=e
  subst e'
  exact PySem.W.len_bytes (by lia) ⟨.int _,H,I.tok _,⟨_,rfl⟩,q⟩
 | ref p=>
  cases rx
  have e':(∃xs,SqL X.K H p xs∧n=xs.length)∨∃xs,SqT X.K H p xs∧n=xs.length:=e
  rcases e' with⟨xs,hx,e'⟩ | ⟨xs,hx,e'⟩
  ·subst e'
   obtain⟨its,r',pl,hz⟩:=I.list hx
   have hlen:=r'.length
   exact Calls.call_len_list pl.isList (by simp only[size_toArray]; lia) ⟨.int xs.length,H,I.tok _,⟨_,by simp only[size_toArray]; rw[hlen]⟩,q⟩
  subst e'
  obtain⟨its,r',pl,hz⟩:=I.tuple hx
  have hlen:=r'.length
  exact len_tuple pl (by simp only[size_toArray]; lia) ⟨.int xs.length,H,I.tok _,⟨_,by simp only[size_toArray]; rw[hlen]⟩,q⟩
 | _=>exact(show False from e).elim
end
end L2
namespace L2
open PySem PySem.Spec PyProof.Rows
structure ObjM (h:Heap) (x dx C:Addr) (mA:Str→Option Value):Prop where
 obj:h.get? x=some (PySem.W.instObj C dx)
 ns:h.Ns1 dx mA
 ne:dx≠x
theorem Zjl {h:Heap}{dx:Addr}{mA:Str→Option Value}(n:h.Ns1 dx mA):∃od,h.get? dx=some od∧∀name,PySem.W.lookIn name od=some (mA name):=by
 obtain⟨o,es,ep,ho,hd,hk,_,hm⟩:=n
 refine⟨o,ho,λname=>?_⟩
 have e:=hm name
 unfold nsFind findBy at e
 rw[← Array.find?_toList]at e
 unfold PySem.W.lookIn
 rw[hd]
 dsimp only
 split
 ·rename_i y q
  rw[q]at e
  exact congrArg some e
 rename_i q
 rw[q]at e
 have a:es.toList.any (·.refKey)=false:=by
  rw[any_eq_false]
  intro y hy
  obtain⟨z,t,hkey⟩:=hk y (Array.mem_toList_iff.mp hy)
  simp[DictEntry.refKey,hkey]
 have a':¬es.toList.any (·.refKey)=true:=by rw[a]; exact Bool.false_ne_true
 rw[if_neg a']
 exact congrArg some e
theorem ObjM.look {h:Heap}{x dx C:Addr}{mA:Str→Option Value}(I:ObjM h x dx C mA):∃od,PySem.W.InstAt h x (PySem.W.instObj C dx) C (some od)∧∀name,PySem.W.lookIn name od=some (mA name):=
 let ⟨od,ho,hl⟩:=Zjl I.ns
 ⟨od,⟨I.obj,rfl,rfl,ho⟩,hl⟩
section
variable {prog:Program}{w:World}{A:Around}{E:Value→Shared→Prop}{s:Shared}{K:W.Frag}{x dx C f:Addr}{mA:Str→Option Value}{name:Str}{v:Value}
theorem get_map {expr:Bool}{Q:Value→Shared→Prop}(X:K.In s.heap) (I:ObjM s.heap x dx C mA) (hg:PySem.W.plainGet K C name=true) (hh:PySem.W.hasDictIn K C=true)
  (ha:PySem.W.findIn K (.ref C) name=some none) (hv:mA name=some v) (hv':PySem.W.handedIn v=true) (h:Q v { s with toks:=s.toks + 1 }) :
  wpAny (model prog w) A (getAttr (.ref x) name expr) Q E s:=by
 obtain⟨od,J,hl⟩:=I.look
 exact PySem.W.get_value X J (PySem.W.plainGet_of hg).1 (PySem.W.findObj_own hh ha rfl (by rw[hl,hv])) hv' h
theorem get_meth {pl:Sem Bool}{Q:Value×List Value→Shared→Prop}(X:K.In s.heap) (I:ObjM s.heap x dx C mA) (hg:PySem.W.plainGet K C name=true)
  (hf:PySem.W.findIn K (.ref C) name=some (some (.ref f))) (ht:PySem.W.isFn K (.ref f)=true) (hv:mA name=none) (h:Q (.ref f,[.ref x]) s) :
  wpAny (model prog w) A (getMethod (.ref x) name pl) Q E s:=by
 obtain⟨od,J,hl⟩:=I.look
 exact PySem.W.method_fn X J (PySem.W.plainGet_of hg).1 (PySem.W.plainGet_of hg).2 hf (beq_iff_eq.mp ht) (by show(PySem.W.lookIn name od).map (·.isSome)=some false; rw[hl,hv]; rfl) h
theorem set_map {ns:List Str}{Q:Unit→Shared→Prop}(X:K.In s.heap) (I:ObjM s.heap x dx C mA)
  (hs:PySem.W.findIn K (.ref C) "__setattr__" = some (some (.builtin "object.__setattr__"))) (hp:PySem.W.plainOver K C=true) (ht:PySem.W.takerIn K C name=some none) (hh:PySem.W.hasDictIn K C=true)
  (hw:PySem.Within mA ns) (hsz:ns.length≤sizeLine)
  (h:∀h',ObjM h' x dx C (λy=>if y=name then some v else mA y)→Heap.SameBut dx s.heap h'→Q () { s with heap:=h',toks:=s.toks + 2 }) :
  wpAny (model prog w) A (setAttr (.ref x) name v) Q E s:=by
 obtain⟨od,J,hl⟩:=I.look
 refine PySem.W.set_plain X J hs (PySem.W.osa_open (s:={ s with toks:=s.toks + 1 }) (r:=none) X J hp ht λb=>?_)
 obtain⟨cd,hc,hd'⟩:=PySem.W.any_some hh
 have hx:s.heap.get? x=some ⟨.ref C,some dx,.plain,#[]⟩:=I.obj
 refine wpAny_bind (wpAny_pure (wpAny_bind (wpAny_bind (wpAny_loadPart hx (wpAny_bind (PySem.W.Looks.here (s:={ s with toks:=s.toks + 1 }) (PySem.W.looks_clsIn X hc) ?_))))))
 rw[hd']
 refine wpAny_pure (a:=some dx) (wpAny_bind (wpAny_pure (wpAny_bind ?_)))
 refine wpAny_nsSet1 (s:={ s with toks:=s.toks + 1 }) I.ns λh' hn2 hs2=>?_
 obtain⟨oD,esD,epD,hoD,hdD,hcD⟩:=hn2.count (PySem.Within.cons name v hw)
 refine wpAny_bind (wpAny_lookBehind hoD (by rw[hdD]; exact pastItsLine_dict (le_trans hcD (by rw[length_cons]; lia))) ?_)
 exact wpAny_pure (h _ ⟨(hs2.2 _ (Ne.symm I.ne)).trans I.obj,hn2,I.ne⟩ hs2)
theorem make_map {R:Result→Shared→Prop}{vs:List Value}{kw:List (Str×Value)}(X:K.In s.heap) (hm:PySem.W.makesIn K C=true)
  (hi:PySem.W.findIn K (.ref C) "__init__" = some (some (.ref f))) (hf:PySem.W.typeIn K (.ref f)=some (.type "function"))
  (h:codeAny (model prog w) (A.under (.builtin "type.__call__" ⟨.ref C :: vs,kw⟩)) (.call (.ref f) ⟨.ref (s.heap.objs.size + 1) :: vs,kw⟩) (PySem.W.InitBack (s.heap.objs.size + 1) R)
   { s with heap:=(s.heap.push PySem.W.emptyDict).push (PySem.W.instObj C s.heap.objs.size) }) :
  codeAny (model prog w) A (.call (.ref C) ⟨vs,kw⟩) R s:=by
 obtain⟨hh,g,d,t,os⟩:=s
 exact PySem.W.make_core (PySem.W.makes_of X hm) (PySem.W.looks_findIn X hi) (λself=>PySem.W.bind_fn X self hf) (.inl rfl) h
end
noncomputable def putF (f:Str) (v:V):List (Str×V)→List (Str×V)
 | []=>[(f,v)]
 | (g,x) :: r=>if g=f then(g,v) :: r else(g,x) :: putF f v r
theorem Zam (f g:Str) (v:V):∀fs:List (Str×V),(putF f v fs).lookup g=if g=f then some v else fs.lookup g
 | []=>by
  show List.lookup g [(f,v)]=_
  by_cases h:g=f
  ·have hb:(g == f)=true:=beq_iff_eq.mpr h
   simp only[List.lookup,hb,if_pos h]
  have hb:(g == f)=false:=beq_eq_false_iff_ne.mpr h
  simp only[List.lookup,hb,if_neg h]
 | (k,x) :: r=>by
  have ih:=Zam f g v r
  rw[show putF f v ((k,x) :: r)=(if k=f then(k,v) :: r else(k,x) :: putF f v r) from rfl]
  by_cases hk:k=f
  ·rw[if_pos hk]
   by_cases h:g=k
   ·have hb:(g == k)=true:=beq_iff_eq.mpr h
    simp only[List.lookup,hb,if_pos (h.trans hk)]
   have hb:(g == k)=false:=beq_eq_false_iff_ne.mpr h
   simp only[List.lookup,hb,if_neg (λe:g=f=>h (e.trans hk.symm))]
  rw[if_neg hk]
  by_cases h:g=k
  ·have hb:(g == k)=true:=beq_iff_eq.mpr h
   simp only[List.lookup,hb,if_neg (λe:g=f=>hk (h.symm.trans e))]
  have hb:(g == k)=false:=beq_eq_false_iff_ne.mpr h
  simp only[List.lookup,hb]
  exact ih
theorem Zd9 (f:Str) (v:V):∀fs:List (Str×V),f∈(putF f v fs).map (·.1)∧∀g,g∈fs.map (·.1)→g∈(putF f v fs).map (·.1)
 | []=>⟨by simp[putF],λg h=>by simp at h⟩
 | (k,x) :: r=>by
  obtain⟨i1,i2⟩:=Zd9 f v r
  rw[show putF f v ((k,x) :: r)=(if k=f then(k,v) :: r else(k,x) :: putF f v r) from rfl]
  by_cases hk:k=f
  ·rw[if_pos hk]
   subst hk
   exact⟨by simp,λg h=>by simpa using h⟩
  rw[if_neg hk]
  refine⟨?_,λg h=>?_⟩
  ·rw[map_cons]
   exact mem_cons_of_mem _ i1
  rw[map_cons]at h ⊢
  rcases(mem_cons.mp h)with e | e
  ·exact mem_cons.mpr (.inl e)
  exact mem_cons_of_mem _ (i2 g e)
theorem Zg5 (f:Str) (v:V):∀fs:List (Str×V),(putF f v fs).length≤fs.length + 1
 | []=>by simp[putF]
 | (k,x) :: r=>by
  have ih:=Zg5 f v r
  rw[show putF f v ((k,x) :: r)=(if k=f then(k,v) :: r else(k,x) :: putF f v r) from rfl]
  by_cases hk:k=f
  ·rw[if_pos hk,length_cons,length_cons]; lia
  rw[if_neg hk,length_cons,length_cons]; lia
theorem RelO.some_of {v:V}{o:Option Value}(r:RelO (some v) o):∃u,o=some u∧RelV v u:=by
 cases o with
 | none=>exact(show False from r).elim
 | some u=>exact⟨u,rfl,r⟩
theorem RelO.none_of {o:Option Value}(r:RelO none o):o=none:=by
 cases o with
 | none=>rfl
 | some u=>exact(show False from r).elim
theorem handed_of {v:V}{u:Value}(r:RelV v u):PySem.W.handedIn u=true:=by
 cases v with
 | non=>cases (show u=Value.none from r); rfl
 | bl b=>cases (show u=Value.bool b from r); rfl
 | int i=>obtain⟨t,e⟩:=(show ∃t,u=Value.int i t from r); cases e; rfl
 | str x=>obtain⟨t,e⟩:=(show ∃t,u=Value.str x t from r); cases e; rfl
 | byt b=>obtain⟨t,e⟩:=(show ∃t,u=Value.bytes b t from r); cases e; rfl
 | flt b=>obtain⟨t,e⟩:=(show ∃t,u=Value.float b t from r); cases e; rfl
 | ref a=>cases (show u=Value.ref a from r); rfl
 | ty n=>cases (show u=Value.type n from r); rfl
section
variable {P:Program}{w:World}{H H':Hp}{h h':Heap}{a C dx:Addr}{fs fs':List (Str×V)}
theorem Zg7 (hok:HOk P w H h) (e:H a=some (.ins C dx fs)):∃mA,ObjM h a dx C mA∧(∀f,RelO (fs.lookup f) (mA f))∧PySem.Within mA (fs.map (·.1))∧fs.length≤1000∧H dx=some (.own a):=by
 obtain⟨d,z,ne,ob,mA,n,r,q⟩:=(show ObjOk P w H h a (.ins C dx fs) from hok a _ e)
 exact⟨mA,⟨ob,n,ne⟩,r,q,z,d⟩
end
structure Cls (K:W.Frag) (C:Addr):Prop where
 pg:PySem.W.plainGet K C Str.empty=true
 hd:PySem.W.hasDictIn K C=true
 po:PySem.W.plainOver K C=true
 sa:PySem.W.findIn K (.ref C) "__setattr__" = some (some (.builtin "object.__setattr__"))
theorem Cls.get {K:W.Frag}{C:Addr}(c:Cls K C) (f:Str):PySem.W.plainGet K C f=true:=c.pg
noncomputable def NoAttr (K:W.Frag) (C:Addr) (f:Str):Prop:=PySem.W.findIn K (.ref C) f=some none
theorem NoAttr.taker {K:W.Frag}{C:Addr}{f:Str}(n:NoAttr K C f):PySem.W.takerIn K C f=some none:=by
 unfold PySem.W.takerIn
 rw[show PySem.W.findIn K (.ref C) f=some none from n]
 rfl
structure Meth (K:W.Frag) (C:Addr) (m:Str) (f:Addr):Prop where
 at_:PySem.W.findIn K (.ref C) m=some (some (.ref f))
 fn:PySem.W.isFn K (.ref f)=true
 kp:PySem.W.keepIn K (.ref f)=true
section
variable {X:Cx}{pins:List (Addr×Obj)}{σ:St}{H:Hp}{s:Shared}{a C dx:Addr}{fs:List (Str×V)}{f:Str}{v:V}{A:Around}{E:Value→Shared→Prop}
theorem getattr_ok {b:Bool}{Q:Value→Shared→Prop}(I:Inv X pins σ H s) (e:H a=some (.ins C dx fs)) (c:Cls X.K C) (n:NoAttr X.K C f) (l:fs.lookup f=some v)
  (h:∀u s',Inv X pins σ H s'→RelV v u→Q u s'):wpAny (model X.prog X.w) A (getAttr (.ref a) f b) Q E s:=by
 obtain⟨mA,O,r,_,_,_⟩:=Zg7 I.hok e
 obtain⟨u,hu,ru⟩:=RelO.some_of (v:=v) (o:=mA f) (by rw[← l]; exact r f)
 exact get_map I.kIn O (c.get f) c.hd n hu (handed_of ru) (h u _ (I.tok _) ru)
theorem Zhr {m:Str}{g:Addr}{pl:Sem Bool}{Q:Value×List Value→Shared→Prop}(I:Inv X pins σ H s) (e:H a=some (.ins C dx fs)) (c:Cls X.K C) (k:Meth X.K C m g) (l:fs.lookup m=none)
  (h:Q (.ref g,[.ref a]) s):wpAny (model X.prog X.w) A (getMethod (.ref a) m pl) Q E s:=by
 obtain⟨mA,O,r,_,_,_⟩:=Zg7 I.hok e
 have hn:mA m=none:=RelO.none_of (by rw[← l]; exact r m)
 exact get_meth I.kIn O (c.get m) k.at_ k.fn hn h
theorem setattr_ok {y:V}{u:Value}{Q:Unit→Shared→Prop}(I:Inv X pins σ H s) (e:H a=some (.ins C dx fs)) (c:Cls X.K C) (n:NoAttr X.K C f) (hl:fs.length < 1000) (ry:RelV y u)
  (h:∀s',Inv X pins σ (upd H a (.ins C dx (putF f y fs))) s'→Q () s'):wpAny (model X.prog X.w) A (setAttr (.ref a) f u) Q E s:=by
 obtain⟨mA,O,r,wi,_,ho⟩:=Zg7 I.hok e
 have hz:(fs.map (·.1)).length≤sizeLine:=by rw[length_map,sizeLine_eq]; lia
 refine set_map I.kIn O c.sa c.po n.taker c.hd wi hz λh' O' sb=>h _ ?_
 have hd:∃o,h'.get? dx=some o:=let ⟨o,_,_,e',_⟩:=O'.ns; ⟨o,e'⟩
 refine I.write (x:=a) (e:=dx) (by rw[e]; exact True.intro) (.inr ho) (λb q hb z=>(sb.2 b hb).trans z) hd ?_
 refine⟨by rw[Zaj O.ne]; exact ho,?_,O.ne,O'.obj,_,O'.ns,λg=>?_,λg hg=>?_⟩
 ·have:=Zg5 f y fs; lia
 ·show RelO ((putF f y fs).lookup g) (if g=f then some u else mA g)
  rw[Zam]
  by_cases q:g=f
  ·rw[if_pos q,if_pos q]; exact ry
  rw[if_neg q,if_neg q]; exact r g
 by_cases q:g=f
 ·rw[q]; exact(Zd9 f y fs).1
 refine(Zd9 f y fs).2 g (wi g λz=>hg ?_)
 show(if g=f then some u else mA g)=none
 rw[if_neg q]; exact z
theorem Inv.made (I:Inv X pins σ H s):Inv X pins σ (upd (upd H s.heap.objs.size (.own (s.heap.objs.size + 1))) (s.heap.objs.size + 1) (.ins C s.heap.objs.size []))
  { s with heap:=(s.heap.push PySem.W.emptyDict).push (PySem.W.instObj C s.heap.objs.size) }:=by
 have e1:(s.heap.push PySem.W.emptyDict).get? s.heap.objs.size=some PySem.W.emptyDict:=Heap.get?_push_size s.heap rfl
 have e2:((s.heap.push PySem.W.emptyDict).push (PySem.W.instObj C s.heap.objs.size)).get? (s.heap.objs.size + 1)=some (PySem.W.instObj C s.heap.objs.size):=by
  have:=Heap.get?_push_size (s.heap.push PySem.W.emptyDict) (o:=PySem.W.instObj C s.heap.objs.size) rfl
  rwa [Heap.size_push]at this
 have e3:(s.heap.push PySem.W.emptyDict).Ns s.heap.objs.size (λ_=>none):=⟨PySem.W.emptyDict,#[],_,e1,rfl,(λe he=>absurd he (by simp)),λ_=>rfl⟩
 have I1:=I.laid (a:=s.heap.objs.size) (o:=.own (s.heap.objs.size + 1)) (h':=s.heap.push PySem.W.emptyDict) (t':=s.toks) (λb u q=>Heap.get?_push_of_some _ q) (Nat.le_refl _) ⟨_,e1⟩
 refine I1.laid (a:=s.heap.objs.size + 1) (o:=.ins C s.heap.objs.size []) (t':=s.toks) (λb u q=>Heap.get?_push_of_some _ q) (le_of_eq (Heap.size_push _ _)) ?_
 have ne:s.heap.objs.size≠s.heap.objs.size + 1:=ne_of_lt (lt_succ_self _)
 refine⟨by rw[Zaj ne,Zac],zero_le _,ne,e2,λ_=>none,(Heap.Ns1.of_empty e3).at λo q=>Heap.get?_push_of_some _ q,λ_=>True.intro,λy hy=>absurd rfl hy⟩
theorem attr_of {prog:Program}{w:World}{env:Env}{e:Expr}{f:Str}{pos:Pos}{s:Shared}{Q:Value→Shared→Prop}(hb:attributeBase e f env (eval e env)=eval e env)
  (h:wpAny (model prog w) A (eval e env) (λo s₁=>wpAny (model prog w) A (getAttr o f true) Q E s₁) E s):wpAny (model prog w) A (eval (.Attribute e f pos) env) Q E s:=
 Attribute_any_ h (by rw[arm_eval_Attribute,hb])
end
inductive hasF (K:W.Frag) (f:Str) (Q:VK) (x:V) (H1:Hp):Prop
 | mk (a:_) (C:_) (dx:_) (fs:_) (v:_) (c0:x=.ref a) (c1:H1 a=some (.ins C dx fs)) (c2:Cls K C) (c3:NoAttr K C f) (c4:fs.lookup f=some v) (c5:Q v H1):hasF K f Q x H1
noncomputable def tFld (K:W.Frag) (ta:TE) (f:Str):TE:=λσ H Q=>ta σ H λx H1=>hasF K f Q x H1
noncomputable def sFld (K:W.Frag) (ta tv:TE) (f:Str):TS:=λD σ H=>tv σ H λy H1=>ta σ H1 λx H2=>∃a C dx fs,x=.ref a∧H2 a=some (.ins C dx fs)∧Cls K C∧NoAttr K C f∧fs.length < 1000 ∧
 D.nx σ (upd H2 a (.ins C dx (putF f y fs)))
section
variable {X:Cx}{o e value:Expr}{f:Str}{pos pos' tpos:Pos}{ta tv:TE}
theorem Zcu (he:PE X e ta) (hb:attributeBase e f X.env (eval e X.env)=eval e X.env):PE X (.Attribute e f pos) (tFld X.K ta f):=by
 intro pins s σ H Q I h
 refine attr_of hb (thn (he pins s σ H _ I h) λu s1 hp0=>?_)
 obtain⟨x,H1,I1,rx,a,C,dx,fs,v,ex,ea,c,n,l,q⟩:=hp0
 subst ex
 obtain rfl:u=Value.ref a:=rx
 exact getattr_ok I1 ea c n l λu' s2 I2 ru=>⟨v,H1,I2,ru,q⟩
theorem Ze3 (ha:PE X o ta) (hv:PE X value tv) (hs:swapsWith value (some (.Attribute o f pos')) pos.line X.env=pure false):PS X (.Assign [.Attribute o f pos'] value pos) (sFld X.K ta tv f):=by
 intro pins s σ H D I h
 refine plainObj_wpAny_Assign_Attribute (thn (hv pins s σ H _ I h) λu s1 hp0=>?_) hs
 obtain⟨y,H1,I1,ry,q⟩:=hp0
 refine thn (ha pins s1 σ H1 _ I1 q) λov s2 hp1=>?_
 obtain⟨x,H2,I2,rx,a,C,dx,fs,ex,ea,c,n,l,q2⟩:=hp1
 subst ex
 obtain rfl:ov=Value.ref a:=rx
 exact setattr_ok I2 ea c n l ry λs3 I3=>⟨σ,_,I3,q2⟩
end
end L2
namespace L2
open PySem PySem.Spec PyProof.Rows
structure Room (k:Nat) (A:Around):Prop where
 hd:A.handled=none
 dp:A.depth + 3 * k + 5 < recursionLimit
 un:A.units + 16 * k + 200 < cLine
theorem Room.mono {j k:Nat}{A:Around}(r:Room k A) (h:j≤k):Room j A:=⟨r.hd,by have:=r.dp; lia,by have:=r.un; lia⟩
theorem Room.deeper {k:Nat}{A:Around}(r:Room (k + 1) A) (env:Env):Room k (A.deeper env):=
 ⟨r.hd,by have:=r.dp; show A.depth + 1 + 3 * k + 5 < _; lia,by have:=r.un; show A.units + 3 + 16 * k + 200 < _; lia⟩
theorem make_depth {A:Around}{C:Addr}{us:List Value}{kw:List (Str×Value)}:(A.under (.builtin "type.__call__" ⟨.ref C :: us,kw⟩)).depth=A.depth + 1:=by
 first | rfl | simp[Around.under,Code.weight,Code.isCreation,Code.isGuard,Code.isCaller,Code.frames,Code.isFrame,guardIds]
theorem make_units {A:Around}{C:Addr}{us:List Value}{kw:List (Str×Value)}:(A.under (.builtin "type.__call__" ⟨.ref C :: us,kw⟩)).units=A.units + 1:=by
 first | rfl | simp[Around.under,Code.cUnits,Code.frames,Code.isFrame]
theorem Room.make {k:Nat}{A:Around}(r:Room (k + 1) A) (C:Addr) (us:List Value) (kw:List (Str×Value)):Room k (A.under (.builtin "type.__call__" ⟨.ref C :: us,kw⟩)):=
 ⟨r.hd,by have:=r.dp; rw[make_depth]; lia,by have:=r.un; rw[make_units]; lia⟩
theorem Room.depth {k:Nat}{A:Around}(r:Room k A):A.depth < recursionLimit:=by have:=r.dp; lia
theorem Room.units {k:Nat}{A:Around}(r:Room k A):A.units + 64 < cLine:=by have:=r.un; lia
noncomputable def tNil:TA:=λ_ H Q=>Q [] H
noncomputable def tCons (ta:TE) (tr:TA):TA:=λσ H Q=>ta σ H λx H1=>tr σ H1 λxs H2=>Q (x :: xs) H2
section
variable {X:Cx}{e:Expr}{es:List Expr}{te:TE}{t:TA}{pos:Pos}
theorem Zae:PA X [] tNil:=λ_ _ _ _ H Q I h=>Calls.spliced_nil ⟨[],H,I,.nil,h⟩
theorem Zaa (ha:PE X e te) (hr:PA X es t) (hs:starEach (e :: es) X.env=(false,eval e X.env) :: starEach es X.env:=by rfl):PA X (e :: es) (tCons te t):=by
 intro pos pins s σ H Q I h
 rw[hs]
 show wpAny _ _ (spliced ((false,eval e X.env) :: backTo pos (starEach es X.env))) _ _ s
 refine Calls.spliced_cons (thn (ha pins s σ H _ I h) λu s1 hp0=>?_)
 obtain⟨x,H1,I1,r1,q1⟩:=hp0
 exact thn (hr pos pins s1 σ H1 _ I1 q1) λus s2 hp0=>by obtain⟨xs,H2,I2,r2,q2⟩:=hp0; exact⟨x :: xs,H2,I2,.cons r1 r2,q2⟩
noncomputable def tTup (t:TA):TE:=λσ H Q=>t σ H λxs H1=>xs.length≤sizeLine∧∀p,H1 p=none→Q (.ref p) (upd H1 p (.tup xs))
noncomputable def tLst (t:TA):TE:=λσ H Q=>t σ H λxs H1=>xs.length≤sizeLine∧∀p,H1 p=none→Q (.ref p) (upd H1 p (.lst xs))
theorem Zct {x1}(h:PA X es t):PE X (.Tuple es x1 pos) (tTup t):=by
 intro pins s σ H Q I hq
 refine wpAny_Tuple_spliced (thn (h pos pins s σ H _ I hq) λus s1 hp0=>?_)
 obtain⟨xs,H1,I1,r,z,q⟩:=hp0
 refine⟨by rw[← r.length]; exact z,?_⟩
 have hf:H1 s1.heap.objs.size=none:=I1.hok.fresh (Nat.le_refl _)
 refine⟨.ref s1.heap.objs.size,upd H1 s1.heap.objs.size (.tup xs),I1.laid (t':=s1.toks) (λb u e=>Heap.get?_push_of_some _ e) (Nat.le_refl _) ?_,rfl,q _ hf⟩
 exact⟨z,us,r,⟨_,Heap.get?_push_size _ rfl,rfl,_,rfl⟩⟩
theorem Zb6 (h:PA X es t):PE X (.List es pos) (tLst t):=by
 intro pins s σ H Q I hq
 refine wpAny_List_spliced (thn (h pos pins s σ H _ I hq) λus s1 hp0=>?_)
 obtain⟨xs,H1,I1,r,z,q⟩:=hp0
 refine⟨by rw[← r.length]; exact z,?_⟩
 have hf:H1 s1.heap.objs.size=none:=I1.hok.fresh (Nat.le_refl _)
 refine⟨.ref s1.heap.objs.size,upd H1 s1.heap.objs.size (.lst xs),I1.laid (t':=s1.toks) (λb u e=>Heap.get?_push_of_some _ e) (Nat.le_refl _) ?_,rfl,q _ hf⟩
 exact⟨z,us,0,r,Heap.get?_push_size _ rfl⟩
end
noncomputable abbrev Sp:=List V→Hp→VK→XK→Prop
noncomputable abbrev CXT:=List Env→Hp→Shared→XK→Value→Shared→Prop
structure Env0 (P:Program) (w:World) (K:W.Frag) (mg:Str→Option Value) (base:Heap) (A:Around) (outer:List Env) (s:Shared) (H:Hp):Prop where
 frames:A.frames=some outer
 mod:Mod K mg base
 bs:∀b o,base.get? b=some o→s.heap.get? b=some o∧H b=none
 bsz:base.objs.size≤s.heap.objs.size
 funs:s.heap.FunFrames base outer
 frf:∀b∈frs outer,H b=none
 hok:HOk P w H s.heap
 bare:AllBare s.gens
noncomputable def CE (outer:List Env) (P:Program) (w:World) (H:Hp) (s:Shared) (Q:VK) (u:Value) (s':Shared):Prop:=
 ∃v H',s'.os=s.os∧AllBare s'.gens∧Un (frs outer) [] H H' s.heap s'.heap∧HOk P w H' s'.heap∧RelV v u∧Q v H'
noncomputable def CR (CX:CXT) (outer:List Env) (P:Program) (w:World) (H:Hp) (s:Shared) (Q:VK) (E:XK) (r:Result) (s':Shared):Prop:=
 match r with
 | .ok (.ret u)=>CE outer P w H s Q u s'
 | .ok _=>False
 | .error e=>CX outer H s E e s'
structure FnOk (P:Program) (w:World) (K:W.Frag) (mg:Str→Option Value) (base:Heap) (CX:CXT) (k:Nat) (f:Addr) (fd:FuncData) (ps:List Str) (sp:Sp):Prop where
 len:∀vs H Q E,sp vs H Q E→vs.length=ps.length
 run:∀(A:Around) (outer:List Env) (s:Shared) (H:Hp) (args:Args) (us:List Value) (vs:List V) (Q:VK) (E:XK),Room k A→Env0 P w K mg base A outer s H→BindsTo s fd args (ps.zip us)→Vals vs us→sp vs H Q E →
  codeAny (model P w) A (.call (.ref f) args) (CR CX outer P w H s Q E) s
theorem FnOk.mono {P:Program}{w:World}{K:W.Frag}{mg:Str→Option Value}{base:Heap}{CX:CXT}{j k:Nat}{f:Addr}{fd:FuncData}{ps:List Str}{sp:Sp}(F:FnOk P w K mg base CX j f fd ps sp) (h:j≤k) :
  FnOk P w K mg base CX k f fd ps sp:=⟨F.len,λA outer s H args us vs Q E hr=>F.run A outer s H args us vs Q E (hr.mono h)⟩
theorem FnOk.imp {P:Program}{w:World}{K:W.Frag}{mg:Str→Option Value}{base:Heap}{CX:CXT}{k:Nat}{f:Addr}{fd:FuncData}{ps:List Str}{sp sp':Sp}(F:FnOk P w K mg base CX k f fd ps sp)
  (h:∀vs H Q E,sp' vs H Q E→sp vs H Q E):FnOk P w K mg base CX k f fd ps sp':=
 ⟨λvs H Q E q=>F.len vs H Q E (h _ _ _ _ q),λA outer s H args us vs Q E hr he hb hv hs=>F.run A outer s H args us vs Q E hr he hb hv (h _ _ _ _ hs)⟩
theorem Env0.make {P:Program}{w:World}{K:W.Frag}{mg:Str→Option Value}{base:Heap}{A:Around}{outer:List Env}{s:Shared}{H:Hp}(e:Env0 P w K mg base A outer s H) (C:Addr) (us:List Value) (kw:List (Str×Value)) :
  Env0 P w K mg base (A.under (.builtin "type.__call__" ⟨.ref C :: us,kw⟩)) outer s H:=⟨by first | exact e.frames | (simpa [Around.under,Code.envs,Code.isFrame,pushEnvs] using e.frames),e.mod,e.bs,e.bsz,e.funs,e.frf,e.hok,e.bare⟩
section
variable {X:Cx}{pins:List (Addr×Obj)}{σ:St}{H:Hp}{s s':Shared}
theorem Inv.env0 (I:Inv X pins σ H s):Env0 X.prog X.w X.K X.mg X.base X.A X.stack s H:=
 ⟨I.ok.frames,I.ok.mod,I.bs,le_trans I.ok.bsz I.sz,I.stack,I.stkFree,I.hok,I.bare⟩
theorem Inv.after {Q:VK}{u:Value}(I:Inv X pins σ H s) (h:CE X.stack X.prog X.w H s Q u s'):EP X pins σ Q u s':=by
 obtain⟨v,H',os,bare,un,hok,r,q⟩:=h
 obtain⟨hh,g,d,t,os'⟩:=s'
 obtain rfl:os'=s.os:=os
 exact⟨v,H',I.call (h':=hh) (g':=g) (d':=d) (t':=t) (ch:=[]) un hok bare (λb z=>absurd z (by simp)),r,q⟩
end
noncomputable def tCall (sp:Sp) (dvs:List V) (E:XK) (t:TA):TE:=λσ H Q=>t σ H λvs H1=>sp (vs ++ dvs) H1 Q E
inductive isI (C:Addr) (m:Str) (x:V) (H1:Hp) (R:Prop):Prop
 | mk (a:_) (dx:_) (fs:_) (c0:x=.ref a) (c1:H1 a=some (.ins C dx fs)) (c2:fs.lookup m=none) (c3:R):isI C m x H1 R
noncomputable def tMeth (C:Addr) (m:Str) (sp:Sp) (dvs:List V) (E:XK) (ta:TE) (t:TA):TE:=λσ H Q=>ta σ H λx H1=>isI C m x H1 (t σ H1 λvs H2=>sp (x :: (vs ++ dvs)) H2 Q E)
noncomputable def tMake (C:Addr) (sp:Sp) (dvs:List V) (E:XK) (t:TA):TE:=λσ H Q=>t σ H λvs H1=>∀x dx,H1 x=none→H1 dx=none→dx≠x →
 sp (.ref x :: (vs ++ dvs)) (upd (upd H1 dx (.own x)) x (.ins C dx [])) (λv H2=>v=.non∧Q (.ref x) H2) E
noncomputable def Binds (K:W.Frag) (fd:FuncData) (ps:List Str) (ds:List Value):Prop:=
 ∀(s:Shared) (us:List Value),K.In s.heap→(us ++ ds).length=ps.length→BindsTo s fd ⟨us,[]⟩ (ps.zip (us ++ ds))
theorem Binds.all {K:W.Frag}{fd:FuncData}{ps:List Str}(h:∀us:List Value,us.length=ps.length→bindArgs fd ⟨us,[]⟩=pure (ps.zip us)):Binds K fd ps []:=λs us _ hl=>by
 rw[append_nil]at hl ⊢
 exact .of_eq (h us hl)
noncomputable def Zdu (CX:CXT) (X:Cx) (E:XK):Prop:=∀(pins:List (Addr×Obj)) (σ:St) (H:Hp) (s:Shared) (e:Value) (s':Shared),Inv X pins σ H s→CX X.stack H s E e s'→X.xe e s'
section
variable {X:Cx}{CX:CXT}{k:Nat}{f C:Addr}{fd:FuncData}{ps:List Str}{sp:Sp}{dvs:List V}{ds:List Value}{E:XK}{x m:Str}{p pos apos:Pos}{e o:Expr}{es:List Expr}{ta:TE}{t:TA}
theorem Zl1 {pins:List (Addr×Obj)}{σ:St}{H:Hp}{s:Shared}{Q:VK}{us:List Value}{vs:List V}(F:FnOk X.prog X.w X.K X.mg X.base CX k f fd ps sp) (hr:Room k X.A) (hb:Binds X.K fd ps ds) (hd:Vals dvs ds) (hx:Zdu CX X E)
  (I:Inv X pins σ H s) (r:Vals vs us) (h:sp (vs ++ dvs) H Q E):wpAny (model X.prog X.w) X.A (call (.ref f) us) (EP X pins σ Q) X.xe s:=by
 have r2:Vals (vs ++ dvs) (us ++ ds):=r.append hd
 have hl:(us ++ ds).length=ps.length:=by rw[← r2.length]; exact F.len _ _ _ _ h
 refine wpAny_call (codeAny_mono (F.run X.A X.stack s H ⟨us,[]⟩ (us ++ ds) (vs ++ dvs) Q E hr I.env0 (hb s us I.kIn hl) r2 h) λr s' hq=>?_)
 cases r with
 | error e=>exact hx pins σ H s e s' I hq
 | ok fl=>
  cases fl with
  | ret u=>exact I.after hq
  | next=>exact False.elim hq
  | brk=>exact False.elim hq
  | cont=>exact False.elim hq
theorem Zai (F:FnOk X.prog X.w X.K X.mg X.base CX k f fd ps sp) (hr:Room k X.A) (hg:Gl X x) (hm:X.mg x=some (.ref f)) (hk:PySem.W.keepIn X.K (.ref f)=true) (hb:Binds X.K fd ps ds) (hd:Vals dvs ds) (hx:Zdu CX X E)
  (ha:PA X (e :: es) t) (hdb:(x == ("__debug__" : Str))=false:=by decide) (he:starEach (e :: es) X.env=(false,eval e X.env) :: starEach es X.env:=by rfl) (hpl:(backTo pos (starEach es X.env)).any (·.1)=false:=by rfl) :
  PE X (.Call (.Name x p) (e :: es) [] pos) (tCall sp dvs E t):=by
 intro pins s σ H Q I h
 refine wpAny_Call_Name_kw (Zfo I hg hm ?_ hdb)
 refine PySem.W.callWith_K (h₀:=X.base) I.ok.mod.kin hk (thn (ha pos pins s σ H _ I h) λus s1 hp0=>?_) he hpl
 obtain⟨vs,H1,I1,r,q⟩:=hp0
 refine⟨I1.kIn,?_⟩
 exact Zl1 F hr hb hd hx I1 r q
theorem Zc8 {pl:Sem Bool}(he:PE X o ta) (c:Cls X.K C) (hm:Meth X.K C m f) (F:FnOk X.prog X.w X.K X.mg X.base CX k f fd ps sp) (hr:Room k X.A) (hb:Binds X.K fd ps ds) (hd:Vals dvs ds) (hx:Zdu CX X E) (ha:PA X (e :: es) t)
  (hst:starEach (e :: es) X.env=(false,eval e X.env) :: starEach es X.env:=by rfl) (hpl:(backTo pos (starEach es X.env)).any (·.1)=false:=by rfl)
  (ht:eval (.Call (.Attribute o m apos) (e :: es) [] pos) X.env=(do
   let ov ← eval o X.env
   standAt apos.atName
   let (f,first) ← holding [ov] (getMethod ov m pl)
   callWith pos f first (backTo pos (starEach (e :: es) X.env)) (backToKw pos (keywordEach [] X.env))):=by rfl) :
  PE X (.Call (.Attribute o m apos) (e :: es) [] pos) (tMeth C m sp dvs E ta t):=by
 intro pins s σ H Q I h
 refine PySem.W.methodCall_KW (pl:=pl) (thn (he pins s σ H _ I h) λu s1 hp0=>?_) ht
 obtain⟨x,H1,I1,rx,a,dx,fs,ex,ea,l,q⟩:=hp0
 subst ex
 obtain rfl:u=Value.ref a:=rx
 refine Zhr I1 ea c hm l ?_
 refine PySem.W.callWith_K (first:=[.ref a]) (h₀:=X.base) I.ok.mod.kin hm.kp (thn (ha pos pins s1 σ H1 _ I1 q) λus s2 hp0=>?_) hst hpl
 obtain⟨vs,H2,I2,r,q2⟩:=hp0
 refine⟨I2.kIn,?_⟩
 exact Zl1 (us:=.ref a :: us) (vs:=.ref a :: vs) F hr hb hd hx I2 (.cons rfl r) q2
theorem Zc4 {pl:Sem Bool}(he:PE X o ta) (c:Cls X.K C) (hm:Meth X.K C m f) (F:FnOk X.prog X.w X.K X.mg X.base CX k f fd ps sp) (hr:Room k X.A) (hb:Binds X.K fd ps ds) (hd:Vals dvs ds) (hx:Zdu CX X E)
  (ht:eval (.Call (.Attribute o m apos) [] [] pos) X.env=(do
   let ov ← eval o X.env
   standAt apos.atName
   let (f,first) ← holding [ov] (getMethod ov m pl)
   callWith pos f first (backTo pos (starEach [] X.env)) (backToKw pos (keywordEach [] X.env))):=by rfl) :
  PE X (.Call (.Attribute o m apos) [] [] pos) (tMeth C m sp dvs E ta tNil):=by
 intro pins s σ H Q I h
 refine PySem.W.methodCall_KW (pl:=pl) (thn (he pins s σ H _ I h) λu s1 hp0=>?_) ht
 obtain⟨x,H1,I1,rx,a,dx,fs,ex,ea,l,q⟩:=hp0
 subst ex
 obtain rfl:u=Value.ref a:=rx
 refine Zhr I1 ea c hm l ?_
 exact PySem.W.callWith_K0 (first:=[.ref a]) I1.kIn hm.kp (Zl1 (us:=[.ref a]) (vs:=[.ref a]) F hr hb hd hx I1 (.cons rfl .nil) q)
structure Mk (K:W.Frag) (C f:Addr):Prop where
 makes:PySem.W.makesIn K C=true
 init:PySem.W.findIn K (.ref C) "__init__" = some (some (.ref f))
 fn:PySem.W.isFn K (.ref f)=true
 kp:PySem.W.keepIn K (.ref C)=true
theorem run_make {pins:List (Addr×Obj)}{σ:St}{H:Hp}{s:Shared}{Q:VK}{us:List Value}{vs:List V}(M:Mk X.K C f) (F:FnOk X.prog X.w X.K X.mg X.base CX k f fd ps sp) (hr:Room (k + 1) X.A) (hb:Binds X.K fd ps ds) (hd:Vals dvs ds)
  (hx:Zdu CX X E) (I:Inv X pins σ H s) (r:Vals vs us)
  (h:∀x dx,H x=none→H dx=none→dx≠x→sp (.ref x :: (vs ++ dvs)) (upd (upd H dx (.own x)) x (.ins C dx [])) (λv H2=>v=.non∧Q (.ref x) H2) E) :
  wpAny (model X.prog X.w) X.A (call (.ref C) us) (EP X pins σ Q) X.xe s:=by
 have hq:=h (s.heap.objs.size + 1) s.heap.objs.size (I.hok.fresh (le_succ _)) (I.hok.fresh (Nat.le_refl _)) (ne_of_lt (lt_succ_self _))
 have I2:=Inv.made (C:=C) I
 have r2:Vals (V.ref (s.heap.objs.size + 1) :: (vs ++ dvs)) (Value.ref (s.heap.objs.size + 1) :: (us ++ ds)):=.cons rfl (r.append hd)
 have hl:(Value.ref (s.heap.objs.size + 1) :: us ++ ds).length=ps.length:=by
  have e:=r2.length
  rw[F.len _ _ _ _ hq]at e
  exact e.symm
 refine wpAny_call (make_map (f:=f) I.kIn M.makes M.init (beq_iff_eq.mp M.fn) (codeAny_mono (F.run _ X.stack _ _ ⟨Value.ref (s.heap.objs.size + 1) :: us,[]⟩ (Value.ref (s.heap.objs.size + 1) :: (us ++ ds)) _ _ E (hr.make C us [])
  (I2.env0.make C us []) (hb _ (Value.ref (s.heap.objs.size + 1) :: us) I2.kIn hl) r2 hq) λr s' hq'=>?_))
 cases r with
 | error e=>exact hx pins σ _ _ e s' I2 hq'
 | ok fl=>
  cases fl with
  | ret u=>
   obtain⟨v,H',I3,rv,ev,q3⟩:=I2.after hq'
   subst ev
   exact⟨rv,⟨V.ref (s.heap.objs.size + 1),H',I3,rfl,q3⟩⟩
  | next=>exact False.elim hq'
  | brk=>exact False.elim hq'
  | cont=>exact False.elim hq'
theorem Zma (M:Mk X.K C f) (F:FnOk X.prog X.w X.K X.mg X.base CX k f fd ps sp) (hr:Room (k + 1) X.A) (hg:Gl X x) (hm:X.mg x=some (.ref C)) (hb:Binds X.K fd ps ds) (hd:Vals dvs ds) (hx:Zdu CX X E)
  (ha:PA X (e :: es) t) (hdb:(x == ("__debug__" : Str))=false:=by decide) (he:starEach (e :: es) X.env=(false,eval e X.env) :: starEach es X.env:=by rfl) (hpl:(backTo pos (starEach es X.env)).any (·.1)=false:=by rfl) :
  PE X (.Call (.Name x p) (e :: es) [] pos) (tMake C sp dvs E t):=by
 intro pins s σ H Q I h
 refine wpAny_Call_Name_kw (Zfo I hg hm ?_ hdb)
 refine PySem.W.callWith_K (h₀:=X.base) I.ok.mod.kin M.kp (thn (ha pos pins s σ H _ I h) λus s1 hp0=>?_) he hpl
 obtain⟨vs,H1,I1,r,q⟩:=hp0
 refine⟨I1.kIn,?_⟩
 exact run_make M F hr hb hd hx I1 r q
end
structure FnScope (N P:List Str) (sc:Scope):Prop where
 kind:sc.kind=.function
 co:sc.isCoroutine=false
 gen:sc.isGenerator=false
 nd:N.Nodup
 pre:N.take P.length=P
 par:∀x∈P,sc.names.lookup x=some .local∨sc.names.lookup x=some .cell
 nofree:∀y∈sc.names,y.2≠.free
theorem Zjy {kindOf:Str→Option NameKind}{x:Str}:∀{binds:List (Str×Value)}{m:Str→Option Value},(∀v,(x,v)∉binds)→bindL kindOf binds m x=m x
 | [],_,_=>rfl
 | (n,v) :: r,m,h=>by
  unfold bindL
  rw[Zjy λw hw=>h w (mem_cons_of_mem _ hw)]
  split
  ·have:x≠n:=by rintro rfl; exact h v mem_cons_self
   simp[this]
  rfl
theorem Zj0 {kindOf:Str→Option NameKind}{x:Str}:∀{binds:List (Str×Value)}{m:Str→Option Value},(∀v,(x,v)∉binds)→bindC kindOf binds m x=m x
 | [],_,_=>rfl
 | (n,v) :: r,m,h=>by
  unfold bindC
  rw[Zj0 λw hw=>h w (mem_cons_of_mem _ hw)]
  split
  ·rfl
  have:x≠n:=by rintro rfl; exact h v mem_cons_self
  simp[this]
theorem Zjz {kindOf:Str→Option NameKind}{x:Str}{v:Value}:∀{P:List Str}{vs:List Value}{i:Nat}{m:Str→Option Value},P.Nodup→P[i]? = some x→vs[i]? = some v→kindOf x=some .local →
  bindL kindOf (P.zip vs) m x=some v
 | [],_,_,_,_,h,_,_=>by simp at h
 | _ :: _,[],_,_,_,_,h,_=>by simp at h
 | p :: P,w :: vs,0,m,nd,h1,h2,hk=>by
  simp at h1 h2; subst h1; subst h2
  show bindL kindOf ((p,w) :: P.zip vs) m p=_
  unfold bindL
  rw[Zjy λv hv=>(nodup_cons.mp nd).1 (of_mem_zip hv).1,if_pos hk]
  simp
 | p :: P,w :: vs,i + 1,m,nd,h1,h2,hk=>by
  show bindL kindOf ((p,w) :: P.zip vs) m x=_
  unfold bindL
  exact Zjz (i:=i) (nodup_cons.mp nd).2 (by simpa using h1) (by simpa using h2) hk
theorem Zj1 {kindOf:Str→Option NameKind}{x:Str}{v:Value}:∀{P:List Str}{vs:List Value}{i:Nat}{m:Str→Option Value},P.Nodup→P[i]? = some x→vs[i]? = some v→kindOf x≠some .local →
  bindC kindOf (P.zip vs) m x=some v
 | [],_,_,_,_,h,_,_=>by simp at h
 | _ :: _,[],_,_,_,_,h,_=>by simp at h
 | p :: P,w :: vs,0,m,nd,h1,h2,hk=>by
  simp at h1 h2; subst h1; subst h2
  show bindC kindOf ((p,w) :: P.zip vs) m p=_
  unfold bindC
  rw[Zj0 λv hv=>(nodup_cons.mp nd).1 (of_mem_zip hv).1,if_neg hk]
  simp
 | p :: P,w :: vs,i + 1,m,nd,h1,h2,hk=>by
  show bindC kindOf ((p,w) :: P.zip vs) m x=_
  unfold bindC
  exact Zj1 (i:=i) (nodup_cons.mp nd).2 (by simpa using h1) (by simpa using h2) hk
noncomputable def Zgx (N:List Str) (vs:List V):St:=vs.map some ++ replicate (N.length - vs.length) none
noncomputable def cxOf (CX:CXT) (P:Program) (w:World) (K:W.Frag) (mg:Str→Option Value) (base:Heap) (N:List Str) (qual:Str) (scope:Scope) (f:Addr) (cd:Value) (A:Around) (outer:List Env) (s:Shared) (H:Hp) (E:XK):Cx where
 prog:=P
 w:=w
 K:=K
 mg:=mg
 base:=base
 A:=A.deeper (envOfC qual scope s.heap.objs.size f cd)
 N:=N
 s₀:=s
 H₀:=H
 env:=envOfC qual scope s.heap.objs.size f cd
 outer:=outer
 stack:=envOfC qual scope s.heap.objs.size f cd :: outer
 ex:=[]
 calm:=true
 fn:=λ_=>true
 pn:=[]
 xe:=λe s'=>wpAny (model P w) (A.deeper (envOfC qual scope s.heap.objs.size f cd)) (leaving (envOfC qual scope s.heap.objs.size f cd) e) (λ_ s''=>CX outer H s E e s'') (λe' s''=>CX outer H s E e' s'') s'
theorem Zlj {sc:Scope}{n:Nat}{x:Str}(h:sc.names.lookup x=some .cell):∃c,(cellsFrom n sc.names []).lookup x=some c:=by
 have q:=PySem.W.cellsFrom_some sc.names n [] (.inl h)
 exact isSome_iff_exists.mp q
theorem inv_start {CX:CXT}{P:Program}{w:World}{K:W.Frag}{mg:Str→Option Value}{base:Heap}{N ps:List Str}{qual:Str}{scope:Scope}{f:Addr}{cd:Value}{A:Around}{outer:List Env}{s s1:Shared}{H:Hp}{E:XK}{us:List Value}{vs:List V}
  (S:FnScope N ps scope) (hd:A.handled=none) (e0:Env0 P w K mg base A outer s H) (hl:vs.length=ps.length) (r:Vals vs us)
  (x:InCallC s s.heap.objs.size (bindL (envOfC qual scope s.heap.objs.size f cd).kindOf (ps.zip us) λ_=>none) (cellsFrom (s.heap.objs.size + 1) scope.names []) (bindC (envOfC qual scope s.heap.objs.size f cd).kindOf (ps.zip us) λ_=>none) s1) :
  Inv (cxOf CX P w K mg base N qual scope f cd A outer s H E) [] (Zgx N vs) H s1:=by
 have hpl:ps.length≤N.length:=by have:=congrArg List.length S.pre; rw[length_take]at this; lia
 obtain⟨h1,tk,rfl,hk⟩:=x.done
 have noA:∀b:Addr,b∉(cxOf CX P w K mg base N qual scope f cd A outer s H E).ex:=λb z=>absurd (show b∈([]:List Addr) from z) (by simp)
 refine⟨⟨e0.mod,S.kind,rfl,rfl,Nat.le_refl _,λy z c h1 h2=>?_,λy hy=>?_,λy c _ h=>?_,λ_=>hd,Around.frames_deeper e0.frames,.inr ⟨rfl,rfl⟩,λb z=>absurd z (noA b),e0.bs,e0.bsz,λb _ _=>noA b,λb z=>absurd z (noA b),e0.funs,e0.frf⟩,
  rfl,e0.bare,Un.kept hk,⟨_,x.toInCall.ns,λi y v h1 h2 h3=>?_⟩,λy c h=>⟨_,x.cell y c h⟩,e0.hok.fresh (Nat.le_refl _),λy c h=>?_,λp hp=>absurd (show p∈([]:List (Addr×Obj)) from hp) (by simp),e0.hok.kept hk,?_⟩
 ·exact name_of_addr x.apart (PySem.mem_of_lookup h1) (PySem.mem_of_lookup h2)
 ·have hy:scope.names.lookup y=some .cell∨scope.names.lookup y=some .free:=hy
  rcases hy with hy | hy
  ·exact Zlj hy
  exact absurd rfl (S.nofree _ (PySem.mem_of_lookup hy))
 ·exact le_of_lt (x.above y c (PySem.mem_of_lookup h))
 ·have hi:i < vs.length:=by
   unfold Zgx at h2
   by_cases hi:i < vs.length
   ·exact hi
   rw[getElem?_append_right (by simpa using hi)]at h2
   rw[getElem?_replicate]at h2
   split at h2 <;> cases h2
  have ha:vs[i]? = some v:=by
   unfold Zgx at h2
   rw[getElem?_append_left (by simpa using hi),getElem?_map]at h2
   cases e:vs[i]? with
   | none=>rw[e]at h2; cases h2
   | some a=>rw[e]at h2; cases h2; rfl
  obtain⟨u,hu,rv⟩:=r.get ha
  have hp:ps[i]? = some y:=by
   rw[← S.pre,getElem?_take_of_lt (by lia)]; exact h1
  have ndP:ps.Nodup:=by rw[← S.pre]; exact S.nd.sublist (take_sublist _ _)
  refine⟨u,rv,?_⟩
  rcases S.par y (mem_of_getElem? hp)with k | k
  ·exact .inl ⟨k,Zjz ndP hp hu k⟩
  obtain⟨c,e⟩:=Zlj (n:=s.heap.objs.size + 1) k
  refine .inr ⟨.inl k,c,e,?_⟩
  have q:=x.cell y c e
  rw[Zj1 ndP hp hu (by show scope.names.lookup y≠_; rw[k]; decide)]at q
  exact q
 ·exact e0.hok.fresh (le_of_lt (x.above y c (PySem.mem_of_lookup h)))
 unfold Zgx
 show _=N.length
 rw[length_append,length_map,length_replicate]
 lia
theorem Znb {CX:CXT}{P:Program}{w:World}{K:W.Frag}{mg:Str→Option Value}{base:Heap}{k:Nat}{f:Addr}{name qual:Str}{params:Arguments}{body:List Stmt}{scope:Scope}{dV kV doc pm cdv ct oc:Value}{an od:Option Addr}
  {osl:Array (Option Value)}{N ps:List Str}{sp:Sp}(lk:K.lookup f=some ⟨oc,od,.func (PySem.W.fnOf name qual params body scope dV kV doc pm an cdv ct),osl⟩) (hcd:PySem.W.codeIn K cdv qual=true) (S:FnScope N ps scope)
  (len:∀vs H Q E,sp vs H Q E→vs.length=ps.length)
  (hbody:∀(A:Around) (outer:List Env) (s:Shared) (H:Hp) (vs:List V) (Q:VK) (E:XK),Room k (A.deeper (envOfC qual scope s.heap.objs.size f cdv))→sp vs H Q E →
   ∃t,PSs (cxOf CX P w K mg base N qual scope f cdv A outer s H E) body t∧t { nx:=λ_ H'=>Q .non H',rt:=Q } (Zgx N vs) H) :
  FnOk P w K mg base CX (k + 1) f (PySem.W.fnOf name qual params body scope dV kV doc pm an cdv ct) ps sp:=by
 refine⟨len,λA outer s H args us vs Q E hr e0 hb r hsp=>?_⟩
 have hl:=len _ _ _ _ hsp
 have KX:K.In s.heap:=e0.mod.kin.keeps λb o e=>(e0.bs b o e).1
 have lim:s.heap.NoLimit:=e0.mod.nolimit.keeps λb o e=>(e0.bs b o e).1
 have hkind:∀y∈ps.zip us,scope.names.lookup y.1=some .local∨(scope.names.lookup y.1=some .cell∧((cellsFrom (s.heap.objs.size + 1) scope.names []).lookup y.1).isSome=true):=λ⟨n,v⟩ hy=>by
  rcases S.par n (of_mem_zip hy).1 with q | q
  ·exact .inl q
  exact .inr ⟨q,PySem.W.cellsFrom_some _ _ _ (.inl q)⟩
 refine codeAny_call_function hr.depth (KX _ _ lk) rfl S.co S.gen rfl (PySem.W.codeRec_of KX hcd) (hb _ _ _ _ ?_)
 refine wpAny_newFunctionEnv_cells S.kind hkind λenv he s1 x=>?_
 subst he
 refine⟨lim.keeps x.toInCall.keep,codeAny_func ?_⟩
 obtain⟨t,ht,hq⟩:=hbody A outer s H vs Q E (hr.deeper _) hsp
 have I:Inv (cxOf CX P w K mg base N qual scope f cdv A outer s H E) [] (Zgx N vs) H s1:=inv_start S hr.hd e0 hl r x
 refine wpAny_mono (ht [] s1 (Zgx N vs) H _ I hq) (λfl s' hs=>?_) λe s' hs=>hs
 have fin:∀{σ':St}{H':Hp}{v:V}{u:Value},Inv (cxOf CX P w K mg base N qual scope f cdv A outer s H E) [] σ' H' s'→RelV v u→Q v H'→CE outer P w H s Q u s':=
  λ{σ' H' v u} J rv q=>⟨v,H',J.os,J.bare,J.base,J.hok,rv,q⟩
 cases fl with
 | ret u=>
  obtain⟨v,σ',H',J,rv,q⟩:=hs
  exact fin J rv q
 | next=>
  obtain⟨σ',H',J,q⟩:=hs
  exact fin (v:=V.non) (u:=Value.none) J rfl q
 | brk=>
  obtain⟨_,_,_,q⟩:=hs
  exact False.elim q
 | cont=>
  obtain⟨_,_,_,q⟩:=hs
  exact False.elim q
end L2
namespace L2
open PySem PySem.Spec PyProof.Rows
section
variable {X:Cx}{x:Str}{p pos:Pos}{e:Expr}{es:List Expr}{t:TA}{id T:String}{r:List V→Hp→VK→Prop}
noncomputable def tCB (r:List V→Hp→VK→Prop) (t:TA):TE:=λσ H Q=>t σ H λvs H1=>r vs H1 Q
theorem Za0 (hc:Zcy X (.builtin id) r) (hg:Gl X x) (hm:X.mg x=none) (hv:bootBuiltins x=some (.builtin id)) (ha:PA X (e :: es) t) (hn:x ≠ "__name__" := by decide) (hdb:(x == ("__debug__" : Str))=false:=by decide)
  (he:starEach (e :: es) X.env=(false,eval e X.env) :: starEach es X.env:=by rfl) (hpl:(backTo pos (starEach es X.env)).any (·.1)=false:=by rfl):PE X (.Call (.Name x p) (e :: es) [] pos) (tCB r t):=by
 intro pins s σ H Q I h
 refine wpAny_Call_Name_kw (Zho I hg hm hv ?_ hn hdb)
 exact PyProof.Rows.callWith_builtin1 (thn (ha pos pins s σ H _ I h) λus s1 hp0=>by obtain⟨vs,H1,I1,r1,q1⟩:=hp0; exact hc pins s1 σ H1 vs us Q I1 r1 q1) he hpl
theorem Za2 (hc:Zcy X (.type T) r) (hg:Gl X x) (hm:X.mg x=none) (hv:bootBuiltins x=some (.type T)) (ha:PA X (e :: es) t) (hn:x ≠ "__name__" := by decide) (hdb:(x == ("__debug__" : Str))=false:=by decide)
  (he:starEach (e :: es) X.env=(false,eval e X.env) :: starEach es X.env:=by rfl) (hpl:(backTo pos (starEach es X.env)).any (·.1)=false:=by rfl):PE X (.Call (.Name x p) (e :: es) [] pos) (tCB r t):=by
 intro pins s σ H Q I h
 refine wpAny_Call_Name_kw (Zho I hg hm hv ?_ hn hdb)
 exact PyProof.Rows.callWith_type1 (thn (ha pos pins s σ H _ I h) λus s1 hp0=>by obtain⟨vs,H1,I1,r1,q1⟩:=hp0; exact hc pins s1 σ H1 vs us Q I1 r1 q1) he hpl
end
end L2
namespace HT
open PySem PyProof.Rows
section
open PySem.SeqAt
open PySem.AutoSeq1 (wpAny_loadPart')
open PySem.MeetsSeq PySem.MeetsSeq2 PySem.MeetsSeq3
end
end HT
namespace L2
open PySem PySem.Spec PyProof.Rows
noncomputable abbrev TO:=St→Hp→(Option Int→Hp→Prop)→Prop
noncomputable def PO (X:Cx) (e:Option Expr) (t:TO):Prop:=
 ∀(pins:List (Addr×Obj)) (s:Shared) (σ:St) (H:Hp) (Q:Option Int→Hp→Prop),Inv X pins σ H s→t σ H Q →
  wpAny (model X.prog X.w) X.A (evalPart e X.env) (λu s'=>∃o H',Inv X pins σ H' s'∧IsPart u o∧Q o H') X.xe s
noncomputable def tNoPart:TO:=λ_ H Q=>Q none H
noncomputable def tPart (t:TE):TO:=λσ H Q=>t σ H λx H1=>∃i,x=.int i∧Q (some i) H1
section
variable {X:Cx}{e:Expr}{te:TE}{lo hi:Option Expr}{tl th:TO}{pos p2:Pos}
theorem Zl7:PO X none tNoPart:=by
 intro pins s σ H Q I h
 rw[evalPart_none]
 exact wpAny_pure ⟨none,H,I,.none,h⟩
theorem Zl6 (h:PE X e te):PO X (some e) (tPart te):=by
 intro pins s σ H Q I hw
 rw[evalPart_some]
 refine thn (h pins s σ H _ I hw) λu s1 hp0=>?_
 obtain⟨x,H1,I1,r1,q1⟩:=hp0
 obtain⟨i,rfl,q⟩:=q1
 obtain⟨t,rfl⟩:=r1
 exact⟨some i,H1,I1,.int i t,q⟩
noncomputable def SlR (X:Cx) (r:V→Option Int→Option Int→Hp→VK→Prop):Prop:=
 ∀(pins:List (Addr×Obj)) (s:Shared) (σ:St) (H:Hp) (x:V) (v vl vu:Value) (lo hi:Option Int) (sl:Addr) (Q:VK),Inv X pins σ H s→RelV x v→s.heap.IsSliceOf sl vl vu .none→IsPart vl lo→IsPart vu hi→r x lo hi H Q →
  ∃T id,typeLookup (.type T) "__getitem__" = pure (some (.builtin id))∧s.TypeIs v T∧wpAny (model X.prog X.w) X.A (getItem v (.ref sl)) (EP X pins σ Q) X.xe s
noncomputable def tSl (r:V→Option Int→Option Int→Hp→VK→Prop) (te:TE) (tl th:TO):TE:=λσ H Q=>te σ H λx H1=>tl σ H1 λl H2=>th σ H2 λu H3=>r x l u H3 Q
theorem Zkm {r:V→Option Int→Option Int→Hp→VK→Prop}(hr:SlR X r) (he:PE X e te) (hl:PO X lo tl) (hu:PO X hi th):PE X (.Subscript e (.Slice lo hi none p2) pos) (tSl r te tl th):=by
 intro pins s σ H Q I h
 refine Subscript_ (thn (he pins s σ H _ I h) λv s1 hp0=>?_)
 obtain⟨x,H1,I1,r1,q1⟩:=hp0
 refine wpAny_Slice (thn (hl pins s1 σ H1 _ I1 q1) λvl s2 hp0=>?_)
 obtain⟨l,H2,I2,pl,q2⟩:=hp0
 refine thn (hu pins s2 σ H2 _ I2 q2) λvu s3 hp1=>?_
 obtain⟨u,H3,I3,pu,q3⟩:=hp1
 rw[evalPart_none]
 refine wpAny_pure ?_
 have I4:Inv X pins σ H3 { s3 with heap:=s3.heap.push { cls:=.type "slice",data:=.fields #[vl,vu,.none] } }:=I3.kept (t':=s3.toks) λb ob q=>Heap.get?_push_of_some _ q
 obtain⟨T,id,hT,ht,hg⟩:=hr pins { s3 with heap:=s3.heap.push { cls:=.type "slice",data:=.fields #[vl,vu,.none] } } σ H3 x v vl vu l u s3.heap.objs.size Q I4 r1 (Heap.IsSliceOf.new ..) pl pu q3
 show wpAny (model X.prog X.w) X.A (subscriptTail e (.Slice lo hi none p2) v (.ref s3.heap.objs.size)) (EP X pins σ Q) X.xe { s3 with heap:=s3.heap.push { cls:=.type "slice",data:=.fields #[vl,vu,.none] } }
 exact tail_any (ops:=[.ref s3.heap.objs.size,v]) ht hT hg (by with_unfolding_all rfl)
end
end L2
namespace L2
open PySem PySem.Spec PyProof.Rows
noncomputable def ixN (n:Nat) (i:Int):Option Nat:=if 0≤i then(if i < n then some i.toNat else none)else if -(n:Int)≤i then some (i + n).toNat else none
noncomputable def atI {α:Type}(xs:List α) (i:Int):Option α:=(ixN xs.length i).bind λj=>xs[j]?
theorem ixN_seq {n:Nat}{i:Int}{j:Nat}(h:ixN n i=some j):seqIndex? i n=some j∧j < n∧-(n:Int)≤i∧i < n:=by
 unfold ixN at h
 by_cases h0:0≤i
 ·rw[if_pos h0]at h
  by_cases h1:i < n
  ·rw[if_pos h1]at h
   have e:i.toNat=j:=Option.some.inj h
   exact⟨by rw[seqIndex_of h0 h1,e],by lia,by lia,h1⟩
  rw[if_neg h1]at h; cases h
 rw[if_neg h0]at h
 by_cases h1:-(n:Int)≤i
 ·rw[if_pos h1]at h
  have e:(i + n).toNat=j:=Option.some.inj h
  exact⟨by rw[seqIndex_neg (by lia) h1,e],by lia,h1,by lia⟩
 rw[if_neg h1]at h; cases h
theorem Zkc {α:Type}{xs:List α}{i:Int}{v:α}(h:atI xs i=some v):∃j,seqIndex? i xs.length=some j∧xs[j]? = some v∧j < xs.length∧-(xs.length:Int)≤i∧i < xs.length:=by
 unfold atI at h
 cases e:ixN xs.length i with
 | none=>rw[e]at h; cases h
 | some j=>
  rw[e]at h
  obtain⟨h1,h2,h3,h4⟩:=ixN_seq e
  exact⟨j,h1,h,h2,h3,h4⟩
theorem Zav {α:Type}{xs:List α}{j:Nat}{v:α}(h:xs[j]? = some v):atI xs (j:Int)=some v:=by
 have hj:j < xs.length:=(List.getElem?_eq_some_iff.mp h).1
 have e:ixN xs.length (j:Int)=some j:=by
  unfold ixN
  rw[if_pos (by lia),if_pos (by lia)]; simp
 unfold atI; rw[e]; exact h
theorem atI_last {α:Type}(xs:List α) (v:α):atI (xs ++ [v]) (-1)=some v:=by
 have hl:(xs ++ [v]).length=xs.length + 1:=by simp
 have e:ixN (xs ++ [v]).length (-1)=some xs.length:=by
  unfold ixN
  rw[hl,if_neg (by decide),if_pos (by lia)]
  congr 1
  lia
 unfold atI
 rw[e]
 show(xs ++ [v])[xs.length]? = some v
 simp
noncomputable def PlainIx (b:Expr):Prop:=∀o i,subscripted b false o i=operate [o,i] (getItem o i)
noncomputable def IxR (X:Cx) (r:R2):Prop:=
 ∀(value slice:Expr) (pins:List (Addr×Obj)) (s:Shared) (σ:St) (H:Hp) (x y:V) (v u:Value) (Q:VK),Inv X pins σ H s→RelV x v→RelV y u→r x y H Q →
  subscripted slice false v u=operate [v,u] (getItem v u)→wpAny (model X.prog X.w) X.A (subscriptTail value slice v u) (EP X pins σ Q) X.xe s
noncomputable def MtR (X:Cx) (id:String) (r:V→List V→Hp→VK→Prop):Prop:=
 ∀(pins:List (Addr×Obj)) (s:Shared) (σ:St) (H:Hp) (x:V) (xs:List V) (v:Value) (us:List Value) (Q:VK),Inv X pins σ H s→RelV x v→Vals xs us→r x xs H Q →
  wpAny (model X.prog X.w) X.A (call (.builtin id) (v :: us)) (EP X pins σ Q) X.xe s
section
variable {X:Cx}{a b:Expr}{ta tb:TE}{pos:Pos}
theorem Za3 {r:R2}(hr:IxR X r) (ha:PE X a ta) (hb:PE X b tb) (hs:PlainIx b):PE X (.Subscript a b pos) (tOp r ta tb):=by
 intro pins s σ H Q I h
 exact Subscript_ (binT ha hb I h λv u s2 x y H2 I2 rx ry q=>hr a b pins s2 σ H2 x y v u Q I2 rx ry q (hs _ _))
inductive rIxL (K:W.Frag) (x:V) (y:V) (H:Hp) (Q:VK):Prop
 | mk (p:_) (xs:_) (i:_) (v:_) (c0:x=.ref p) (c1:y=.int i) (c2:SqL K H p xs) (c3:atI xs i=some v) (c4:Q v H):rIxL K x y H Q
inductive rIxT (K:W.Frag) (x:V) (y:V) (H:Hp) (Q:VK):Prop
 | mk (p:_) (xs:_) (i:_) (v:_) (c0:x=.ref p) (c1:y=.int i) (c2:SqT K H p xs) (c3:atI xs i=some v) (c4:Q v H):rIxT K x y H Q
noncomputable def rIxS:R2:=λx y H Q=>∃z i c,x=.str z∧y=.int i∧z.length≤sizeLine∧atI z.cps.toList i=some c∧Q (.str ⟨#[c]⟩) H
theorem Zch:IxR X (rIxL X.K):=by
 intro value slice pins s σ H x y v u Q I rx ry h hs
 obtain⟨p,xs,i,z,rfl,rfl,hq,he,q⟩:=h
 cases rx
 obtain⟨t,rfl⟩:=ry
 obtain⟨its,r,pl,hz⟩:=I.list hq
 obtain⟨j,h1,h2,h3,h4,h5⟩:=Zkc he
 obtain⟨w,ew,rw'⟩:=r.get h2
 have hl:=r.length
 have hn:=Zjm
 have fin:EP X pins σ Q w s:=⟨z,H,I,rw',q⟩
 by_cases h0:0≤i
 ·have hj:i.toNat=j:=by
   rw[seqIndex_of h0 h5]at h1
   exact Option.some.inj h1
  exact item_listR pl.isList h0 (by lia) (by rw[hj]; simpa using ew) fin hs
 have hj:(i + (its.toArray.size:Int)).toNat=j:=by
  rw[seqIndex_neg (by lia) h4]at h1
  rw[size_toArray,← hl]
  exact Option.some.inj h1
 exact subscriptTail_builtinR (x:=w) pl.isList.typeIs slot_list_getitem.lookup
  (wpAny_getItem_list_neg (Q:=λr s'=>r=w∧EP X pins σ Q r s') pl.isList (by lia) (by rw[size_toArray] <;> lia) (by lia) (by rw[hj]; simpa using ew) ⟨rfl,fin⟩) hs
theorem Za6:IxR X (rIxT X.K):=by
 intro value slice pins s σ H x y v u Q I rx ry h hs
 obtain⟨p,xs,i,z,rfl,rfl,hq,he,q⟩:=h
 cases rx
 obtain⟨t,rfl⟩:=ry
 obtain⟨its,r,pl,hz⟩:=I.tuple hq
 obtain⟨j,h1,h2,h3,h4,h5⟩:=Zkc he
 obtain⟨w,ew,rw'⟩:=r.get h2
 have hl:=r.length
 have hn:=Zjm
 have fin:EP X pins σ Q w s:=⟨z,H,I,rw',q⟩
 exact subscriptTail_builtinR (x:=w) pl.typeIs slot_tuple_getitem.lookup
  (getItem_tuple (j:=j) (Q:=λr s'=>r=w∧EP X pins σ Q r s') pl (by lia) (by lia) (by rw[size_toArray,← hl]; exact h1) (by simpa using ew) ⟨rfl,fin⟩) hs
theorem ix_str:IxR X rIxS:=by
 intro value slice pins s σ H x y v u Q I rx ry h hs
 obtain⟨z,i,c,rfl,rfl,hz,he,q⟩:=h
 obtain⟨t,rfl⟩:=rx
 obtain⟨t',rfl⟩:=ry
 obtain⟨j,h1,h2,h3,h4,h5⟩:=Zkc he
 have hl:z.cps.toList.length=z.length:=by simp[Str.length]
 rw[hl]at h1 h4 h5
 have hn:=Zjm
 exact tail_any (typeIs_str s z t) slot_str_getitem.lookup (getItem_str (c:=c) (by
  have e1:decide (i < -(2 ^ 63:Int))=false:=decide_eq_false (by lia)
  have e2:decide (i≥2 ^ 63)=false:=decide_eq_false (by lia)
  rw[e1,e2,Bool.or_false]) (by rw[h1]; simpa using h2) ⟨.str ⟨#[c]⟩,H,I.tok _,⟨_,rfl⟩,q⟩) hs
theorem Zbj:Zcy X (.type "list") (λxs H Q=>∃p ys,xs=[.ref p]∧(SqL X.K H p ys∨SqT X.K H p ys)∧∀l,H l=none→Q (.ref l) (upd H l (.lst ys))):=by
 intro pins s σ H xs us Q I r h
 obtain⟨p,ys,rfl,hq,q⟩:=h
 obtain⟨u,rfl,rx⟩:=Zdd r
 cases rx
 have fin:∀(its:List Value),Vals ys its→ys.length≤sizeLine→∀(h':Heap) (c':Nat),(∀b o',s.heap.get? b=some o'→h'.get? b=some o') →
   h'.get? s.heap.objs.size=some { cls:=.type "list",dict:=none,data:=.seq its.toArray c',slots:=#[] }→EP X pins σ Q (.ref s.heap.objs.size) { s with heap:=h' }:=λits r' hz h' c' kp e=>
  ⟨.ref s.heap.objs.size,_,I.laid (t':=s.toks) kp (Nat.le_refl _) (show ObjOk X.prog X.w _ h' _ (.lst ys) from ⟨hz,its,c',r',e⟩),rfl,q _ (I.hok.fresh (Nat.le_refl _))⟩
 rcases hq with hq | hq
 ·obtain⟨its,r',pl,hz⟩:=I.list hq
  have hlen:=r'.length
  obtain⟨o,ho,hc,n,hd⟩:=pl.isList
  exact call_list_seq p (.inl rfl) ho hc hd (λh' c' kp e=>fin its r' hz h' c' kp e) (by simp only[size_toArray] <;> lia)
 obtain⟨its,r',pl,hz⟩:=I.tuple hq
 have hlen:=r'.length
 obtain⟨o,ho,hc,n,hd⟩:=pl
 exact call_list_seq p (.inr rfl) ho hc hd (λh' c' kp e=>fin its r' hz h' c' kp e) (by simp only[size_toArray] <;> lia)
theorem Zfb:Zcy X (.type "tuple") (λxs H Q=>∃p ys,xs=[.ref p]∧((SqL X.K H p ys∧∀l,H l=none→Q (.ref l) (upd H l (.tup ys)))∨(SqT X.K H p ys∧Q (.ref p) H))):=by
 intro pins s σ H xs us Q I r h
 obtain⟨p,ys,rfl,h⟩:=h
 obtain⟨u,rfl,rx⟩:=Zdd r
 cases rx
 rcases h with⟨hq,q⟩ | ⟨hq,q⟩
 ·obtain⟨its,r',pl,hz⟩:=I.list hq
  have hlen:=r'.length
  refine call_tuple_list pl.isList (λh' kp=>?_) (by simp only[size_toArray] <;> lia)
  have I1:Inv X pins σ H { s with heap:=h' }:=I.kept (t':=s.toks) kp
  have I2:Inv X pins σ (upd H h'.objs.size (.tup ys)) { s with heap:=h'.push { cls:=.type "tuple",data:=.seq its.toArray } }:=
   I1.laid (t':=s.toks) (λb o e=>Heap.get?_push_of_some _ e) (Nat.le_refl _) (show ObjOk X.prog X.w _ _ _ (.tup ys) from ⟨hz,its,r',IsTup.new _ _⟩)
  exact⟨.ref h'.objs.size,_,I2,rfl,q _ (I1.hok.fresh (Nat.le_refl _))⟩
 obtain⟨its,r',pl,hz⟩:=I.tuple hq
 exact call_tuple_same pl ⟨.ref p,H,I,rfl,q⟩
noncomputable def tyV (K:W.Frag) (T:String) (x:V) (H:Hp):Prop:=match x with
 | .str _=>T = "str"
 | .int _=>T = "int"
 | .ref p=>(T = "list" ∧ ∃xs,SqL K H p xs)∨(T = "tuple" ∧ ∃o,K.lookup p=some o∧o.cls=.type "tuple" ∧ o.dict=none) ∨
   (T = "dict" ∧ ((∃kvs,H p=some (.dK kvs))∨∃kvs,H p=some (.dT kvs)))∨(T = "set" ∧ ∃S n,H p=some (.set S n))
 | _=>False
theorem Znf {pins:List (Addr×Obj)}{σ:St}{H:Hp}{s:Shared}{T:String}{x:V}{v:Value}(I:Inv X pins σ H s) (r:RelV x v) (ty:tyV X.K T x H) :
  s.TypeIs v T∧∀a,v=.ref a→∃ob,s.heap.get? a=some ob∧ob.dict=none:=by
 cases x with
 | str z=>
  obtain⟨t,rfl⟩:=r
  cases (show T = "str" from ty)
  exact⟨typeIs_str s z t,λ_ e=>nomatch e⟩
 | int i=>
  obtain⟨t,rfl⟩:=r
  cases (show T = "int" from ty)
  exact⟨typeIs_int s i t,λ_ e=>nomatch e⟩
 | ref p=>
  cases r
  rcases ty with⟨rfl,xs,hq⟩ | ⟨rfl,o,hk,hc,hd⟩ | ⟨rfl,hk⟩ | ⟨rfl,S,n,hk⟩
  ·obtain⟨its,_,pl,_⟩:=I.list hq
   refine⟨pl.isList.typeIs,λa e=>?_⟩
   cases e
   obtain⟨o,n,e,c,hd,_⟩:=pl
   exact⟨o,e,hd⟩
  ·refine⟨⟨o,I.kIn p o hk,hc⟩,λa e=>?_⟩
   cases e
   exact⟨o,I.kIn _ o hk,hd⟩
  ·have z:∃o,s.heap.get? p=some o∧o.ExactDict:=by
    rcases hk with⟨kvs,hk⟩ | ⟨kvs,hk⟩
    ·obtain⟨_,_,_,_,o,_,_,e,ex,_⟩:=I.hok p _ hk
     exact⟨o,e,ex⟩
    obtain⟨_,_,_,_,o,_,_,e,ex,_⟩:=I.hok p _ hk
    exact⟨o,e,ex⟩
   obtain⟨o,e,ex⟩:=z
   refine⟨⟨o,e,ex.1⟩,λa e2=>?_⟩
   cases e2
   exact⟨o,e,ex.2.1⟩
  obtain⟨o,_,_,_,e,ex,_⟩:=I.hok p _ hk
  refine⟨⟨o,e,ex.1⟩,λa e2=>?_⟩
  cases e2
  exact⟨o,e,ex.2.1⟩
 | _=>exact False.elim ty
noncomputable def tBM0 (K:W.Frag) (T:String) (r:V→List V→Hp→VK→Prop) (to:TE):TE:=λσ H Q=>to σ H λx H1=>tyV K T x H1∧r x [] H1 Q
noncomputable def tBM (K:W.Frag) (T:String) (r:V→List V→Hp→VK→Prop) (to:TE) (t:TA):TE:=λσ H Q=>to σ H λx H1=>tyV K T x H1∧t σ H1 λxs H2=>r x xs H2 Q
variable {o e:Expr}{es:List Expr}{to:TE}{t:TA}{name:Str}{apos cpos:Pos}{T id:String}{r:V→List V→Hp→VK→Prop}
theorem Zmb (pa:PlainAttrs T) (slot:Slot T name id) (hty:typeOf (.builtin id)=pure (.type "method_descriptor")) (hm:MtR X id r) (ho:PE X o to)
  (hbase:attributeBase o name X.env (eval o X.env)=eval o X.env:=by rfl) (hline:(apos.endLine == cpos.line)=true:=by rfl):PE X (.Call (.Attribute o name apos) [] [] cpos) (tBM0 X.K T r to):=by
 intro pins s σ H Q I h
 refine wpAny_Call_method0_late hbase hline (thn (ho pins s σ H _ I h) λv s1 hp0=>?_)
 obtain⟨x,H1,I1,r1,ty,q1⟩:=hp0
 obtain⟨h1,h2⟩:=Znf I1 r1 ty
 exact⟨T,id,pa,slot,hty,h1,h2,Calls.callWith_builtin rfl (PySem.evalArgs_none (hm pins s1 σ H1 x [] v [] Q I1 r1 .nil q1))⟩
theorem Zge (pa:PlainAttrs T) (slot:Slot T name id) (hty:typeOf (.builtin id)=pure (.type "method_descriptor")) (hm:MtR X id r) (ho:PE X o to) (ha:PA X (e :: es) t)
  (hbase:attributeBase o name X.env (eval o X.env)=eval o X.env:=by rfl)
  (hfew:((backTo cpos (starEach (e :: es) X.env)).all (λx=>!x.1) && (backToKw cpos (keywordEach [] X.env)).all (λx=>x.1.isSome)
   && decide ((e :: es).length + ([]:List Keyword).length + (if ([]:List Keyword).isEmpty then 0 else 1) < 30))=true:=by rfl)
  (hline:(apos.endLine == cpos.line)=true:=by rfl) (hs:starEach (e :: es) X.env=(false,eval e X.env) :: starEach es X.env:=by rfl) (hplain:(backTo cpos (starEach es X.env)).any (·.1)=false:=by rfl) :
  PE X (.Call (.Attribute o name apos) (e :: es) [] cpos) (tBM X.K T r to t):=by
 intro pins s σ H Q I h
 refine wpAny_Call_method_late hbase hfew hline rfl (thn (ho pins s σ H _ I h) λv s1 hp0=>?_)
 obtain⟨x,H1,I1,r1,ty,q1⟩:=hp0
 obtain⟨h1,h2⟩:=Znf I1 r1 ty
 refine⟨T,id,pa,slot,hty,h1,h2,?_⟩
 have hA:=ha cpos pins s1 σ H1 _ I1 q1
 rw[hs]at hA ⊢
 refine Calls.callWith_builtin (by show(false || (backTo cpos (starEach es X.env)).any (·.1))=false; rw[hplain] <;> rfl) (Calls.evalArgs_plain ?_)
 exact thn hA λus s2 hp0=>by obtain⟨vs,H2,I2,r2,q2⟩:=hp0; exact hm pins s2 σ H2 x vs v us Q I2 r1 r2 q2
end
end L2
namespace L2
open PySem PySem.Spec PyProof.Rows
noncomputable def MtM (X:Cx) (id:String) (r:V→List V→Hp→VK→Prop):Prop:=
 ∀(pins:List (Addr×Obj)) (s:Shared) (σ:St) (H:Hp) (x:V) (xs:List V) (v:Value) (us:List Value) (Q:VK),Inv X pins σ H s→RelV x v→Vals xs us→r x xs H Q →
  wpAny (model X.prog X.w) X.A (call (.builtin id) (v :: us)) (EP X pins σ Q) X.xe s
theorem Vals.one:∀{x:V}{us:List Value},Vals [x] us→∃u,us=[u]∧RelV x u
 | _,_,.cons r .nil=>⟨_,rfl,r⟩
section
variable {X:Cx}{pins:List (Addr×Obj)}{σ:St}{H:Hp}{s:Shared}{l b:Addr}{xs ys zs:List V}
theorem Inv.lset {its its':List Value}{n:Nat}{f:Array Value→Array Value}{t':Nat}(I:Inv X pins σ H s) (hH:H l=some (.lst xs))
  (e:s.heap.get? l=some { cls:=.type "list",data:=.seq its.toArray n }) (hf:f its.toArray=its'.toArray) (hv:Vals ys its') (hz:ys.length≤sizeLine) :
  Inv X pins σ (upd H l (.lst ys)) { s with heap:=s.heap.update l (Obj.mapSeq f),toks:=t' }:=by
 have q:=PySem.IsL.update e f
 rw[hf]at q
 refine I.write (x:=l) (e:=l) (by rw[hH]; exact trivial) (.inl rfl) (λb' u hb hu=>(Heap.get?_update_other s.heap (Obj.mapSeq f) (Ne.symm hb)).trans hu) ⟨_,q⟩ ?_
 exact⟨hz,its',_,hv,q⟩
theorem Inv.lnew {its:List Value}{t':Nat}(I:Inv X pins σ H s) (hv:Vals ys its) (hz:ys.length≤sizeLine) :
  Inv X pins σ (upd H s.heap.objs.size (.lst ys)) { s with heap:=s.heap.push { cls:=.type "list",data:=.seq its.toArray },toks:=t' }:=
 I.laid (λ_ _ q=>Heap.get?_push_of_some _ q) (Nat.le_refl _) ⟨hz,its,0,hv,Heap.get?_push_size _ rfl⟩
theorem Inv.fresh (I:Inv X pins σ H s):H s.heap.objs.size=none:=I.hok.fresh (Nat.le_refl _)
theorem Inv.lstM (I:Inv X pins σ H s) (hH:H l=some (.lst xs)):xs.length≤sizeLine∧∃(its:List Value) (n:Nat),Vals xs its∧xs.length=its.length∧s.heap.get? l=some { cls:=.type "list",data:=.seq its.toArray n }:=by
 obtain⟨z,its,n,r,e⟩:=I.hok l _ hH
 exact⟨z,its,n,r,r.length,e⟩
theorem notLongL {n:Nat}(h:n≤sizeLine):Builtin.List.listTooLong n=false:=by
 unfold Builtin.List.listTooLong
 exact decide_eq_false (by lia)
end
section
variable {X:Cx}
noncomputable def rAppend:V→List V→Hp→VK→Prop:=λx vs H Q=>∃l xs y,x=.ref l∧vs=[y]∧H l=some (.lst xs)∧xs.length < sizeLine∧Q .non (upd H l (.lst (xs ++ [y])))
theorem Zbi:MtM X "list.append" rAppend:=by
 intro pins s σ H x vs v us Q I rx rv h
 obtain⟨l,xs,y,rfl,rfl,hH,hz,q⟩:=h
 cases rx
 obtain⟨u,rfl,ru⟩:=rv.one
 obtain⟨z,its,n,r,hl,e⟩:=I.lstM hH
 refine call_meets F.slot_list_append ⟨_,e,rfl⟩ F.entry_list_append (F.args_list_append_2 _ _) (PySem.list_append l its.toArray n u (by rw[size_toArray]; lia)) ⟨e,?_⟩
 refine⟨.non,_,I.lset (its':=its ++ [u]) hH e (by simp) (r.append (.cons ru .nil)) ?_,rfl,q⟩
 rw[length_append,length_singleton]
 lia
noncomputable def rExtend:V→List V→Hp→VK→Prop:=λx vs H Q=>∃l b xs zs,x=.ref l∧vs=[.ref b]∧H l=some (.lst xs)∧H b=some (.lst zs)∧xs.length + zs.length≤sizeLine∧Q .non (upd H l (.lst (xs ++ zs)))
theorem mt_extend:MtM X "list.extend" rExtend:=by
 intro pins s σ H x vs v us Q I rx rv h
 obtain⟨l,b,xs,zs,rfl,rfl,hH,hB,hz,q⟩:=h
 cases rx
 obtain⟨u,rfl,ru⟩:=rv.one
 cases ru
 obtain⟨z,its,n,r,hl,e⟩:=I.lstM hH
 obtain⟨z2,its2,n2,r2,hl2,e2⟩:=I.lstM hB
 have hsz:its.toArray.size + its2.toArray.size≤sizeLine:=by rw[size_toArray,size_toArray]; lia
 have hlong:¬(!its.toArray.isEmpty && Builtin.List.listTooLong (its.toArray.size + its2.toArray.size))=true:=by
  rw[notLongL hsz,Bool.and_false]
  exact Bool.false_ne_true
 refine call_meets F.slot_list_extend ⟨_,e,rfl⟩ F.entry_list_extend (F.args_list_extend_2 _ _)
  (AutoSeq1.list_extend_list_list_0 l its.toArray n b its2.toArray n2 hlong (by rw[size_toArray]; lia) (by lia)) ⟨e,e2,?_⟩
 refine⟨.non,_,I.lset (its':=its ++ its2) hH e (by simp) (r.append r2) ?_,rfl,q⟩
 rw[length_append]
 lia
noncomputable def rCat:R2:=λx y H Q=>∃l b xs zs,x=.ref l∧y=.ref b∧H l=some (.lst xs)∧H b=some (.lst zs)∧xs.length + zs.length≤sizeLine∧∀p,H p=none→Q (.ref p) (upd H p (.lst (xs ++ zs)))
theorem Zme:OpR X (binaryOp .Add) rCat:=by
 intro pins s σ H x y v u Q I rx ry h
 obtain⟨l,b,xs,zs,rfl,rfl,hH,hB,hz,q⟩:=h
 cases rx
 cases ry
 obtain⟨z,its,n,r,hl,e⟩:=I.lstM hH
 obtain⟨z2,its2,n2,r2,hl2,e2⟩:=I.lstM hB
 refine PySem.P.add_list e e2 ?_ (by rw[size_toArray,size_toArray]; lia)
 have ea:its.toArray ++ its2.toArray=(its ++ its2).toArray:=by simp
 rw[ea]
 exact⟨.ref _,_,I.lnew (t':=s.toks) (r.append r2) (by rw[length_append]; lia),rfl,q _ I.fresh⟩
end
end L2
namespace L2
open PySem PySem.Spec PyProof.Rows
section
variable {κ:Type} [DecidableEq κ]
noncomputable def valV (kvs:List (κ×V)) (k:κ):Option V:=(kvs.find? λkv=>decide (kv.1=k)).map (·.2)
noncomputable def putK (kvs:List (κ×V)) (k:κ) (v:V):List (κ×V):=
 if (kvs.any λkv=>decide (kv.1=k))=true then kvs.map (λkv=>if kv.1=k then(kv.1,v)else kv)else kvs ++ [(k,v)]
theorem Zbp {p:κ×V}{r:List (κ×V)}{k:κ}(e:p.1=k):valV (p :: r) k=some p.2:=by simp[valV,find?_cons,e]
theorem Zbq {p:κ×V}{r:List (κ×V)}{k:κ}(e:¬p.1=k):valV (p :: r) k=valV r k:=by simp[valV,find?_cons,e]
theorem Zci (k:κ):∀kvs:List (κ×V),(kvs.any λkv=>decide (kv.1=k))=(valV kvs k).isSome
 | []=>rfl
 | p :: r=>by
  rw[any_cons]
  by_cases e:p.1=k
  ·simp only[Zbp e,decide_eq_true e,Bool.true_or,Option.isSome_some]
  rw[Zbq e,decide_eq_false e,Bool.false_or]; exact Zci k r
theorem Zke (k j:κ) (y:V):∀kvs:List (κ×V),valV (kvs.map λkv=>if kv.1=k then(kv.1,y)else kv) j=(valV kvs j).map λx=>if j=k then y else x
 | []=>rfl
 | p :: r=>by
  have ih:=Zke k j y r
  rw[map_cons]
  by_cases h:p.1=k
  ·rw[if_pos h]
   by_cases e:p.1=j
   ·rw[Zbp (p:=(p.1,y)) e,Zbp e,map_some,if_pos (e.symm.trans h)]
   rw[Zbq (p:=(p.1,y)) e,Zbq e,ih]
  rw[if_neg h]
  by_cases e:p.1=j
  ·rw[Zbp (p:=p) e,Zbp e,map_some,if_neg (λz=>h (e.trans z))]
  rw[Zbq (p:=p) e,Zbq e,ih]
theorem Zgv (k j:κ) (y:V):∀kvs:List (κ×V),valV kvs k=none→valV (kvs ++ [(k,y)]) j=if j=k then some y else valV kvs j
 | [],_=>by
  by_cases e:k=j
  ·rw[if_pos e.symm]; exact Zbp (p:=(k,y)) e
  rw[if_neg (λz=>e z.symm)]; exact Zbq (p:=(k,y)) e
 | p :: r,hn=>by
  rw[List.cons_append]
  have hk:¬p.1=k:=λz=>by rw[Zbp z]at hn; cases hn
  rw[Zbq hk]at hn
  have ih:=Zgv k j y r hn
  by_cases e:p.1=j
  ·rw[Zbp e,Zbp e,if_neg (λz=>hk (e.trans z))]
  rw[Zbq e,Zbq e,ih]
theorem Zgg (kvs:List (κ×V)) (k j:κ) (y:V):valV (putK kvs k y) j=if j=k then some y else valV kvs j:=by
 unfold putK
 by_cases a:(kvs.any λkv=>decide (kv.1=k))=true
 ·rw[if_pos a,Zke]
  rw[Zci]at a
  by_cases e:j=k
  ·obtain⟨x,hx⟩:=isSome_iff_exists.mp a
   rw[if_pos e,e,hx,map_some,if_pos rfl]
  rw[if_neg e]
  cases valV kvs j with
  | none=>rfl
  | some x=>rw[map_some,if_neg e]
 rw[if_neg a]
 refine Zgv k j y kvs ?_
 rw[Zci]at a
 cases q:valV kvs k with
 | none=>rfl
 | some x=>rw[q]at a; exact(a rfl).elim
theorem Zcv (kvs:List (κ×V)) (k:κ) (v:V):(putK kvs k v).length≤kvs.length + 1:=by
 unfold putK
 split
 ·rw[length_map]; lia
 rw[length_append,length_cons,length_nil]; lia
theorem Zc3 {kvs:List (κ×V)}{k:κ}(v:V) (h:valV kvs k=none):putK kvs k v=kvs ++ [(k,v)]:=by
 unfold putK
 rw[Zci,h]
 exact if_neg (by decide)
theorem RelO.isSome_eq {o:Option V}{u:Option Value}(r:RelO o u):o.isSome=u.isSome:=by
 cases o with
 | none=>cases u with
  | none=>rfl
  | some _=>exact(show False from r).elim
 | some _=>cases u with
  | none=>exact(show False from r).elim
  | some _=>rfl
theorem RelO.getD {o:Option V}{u:Option Value}{d:V}{d':Value}(r:RelO o u) (rd:RelV d d'):RelV (o.getD d) (u.getD d'):=by
 cases o with
 | none=>cases u with
  | none=>exact rd
  | some _=>exact(show False from r).elim
 | some _=>cases u with
  | none=>exact(show False from r).elim
  | some _=>exact r
theorem KV.val {kvs:List (κ×V)}{vs:List (κ×Value)}(r:KV kvs vs) (k:κ):RelO (valV kvs k) (valueAt vs k):=by
 unfold KV at r
 induction r with
 | nil=>exact True.intro
 | @cons p q ps qs h t ih=>
  obtain⟨h1,h2⟩:=h
  by_cases e:p.1=k
  ·have e':q.1=k:=h1.symm.trans e
   have b:valueAt (q :: qs) k=some q.2:=by simp[valueAt,find?_cons,e']
   rw[Zbp e,b]; exact h2
  have e':¬q.1=k:=λz=>e (h1.trans z)
  have b:valueAt (q :: qs) k=valueAt qs k:=by simp[valueAt,find?_cons,e']
  rw[Zbq e,b]; exact ih
theorem KV.any {kvs:List (κ×V)}{vs:List (κ×Value)}(r:KV kvs vs) (k:κ):(kvs.any λkv=>decide (kv.1=k))=vs.any λkv=>decide (kv.1=k):=by
 unfold KV at r
 induction r with
 | nil=>rfl
 | cons h t ih=>rw[any_cons,any_cons,ih,h.1]
theorem KV.repl {kvs:List (κ×V)}{vs:List (κ×Value)}(r:KV kvs vs) (k:κ) {y:V}{u:Value}(ry:RelV y u) :
  KV (kvs.map λkv=>if kv.1=k then(kv.1,y)else kv) (vs.map λkv=>if kv.1=k then(kv.1,u)else kv):=by
 unfold KV at r ⊢
 induction r with
 | nil=>exact .nil
 | @cons p q ps qs h t ih=>
  rw[map_cons,map_cons]
  refine .cons ?_ ih
  obtain⟨h1,h2⟩:=h
  by_cases e:p.1=k
  ·rw[if_pos e,if_pos (h1.symm.trans e)]; exact⟨h1,ry⟩
  rw[if_neg e,if_neg (λz=>e (h1.trans z))]; exact⟨h1,h2⟩
theorem KV.put {kvs:List (κ×V)}{vs:List (κ×Value)}(r:KV kvs vs) (k:κ) {y:V}{u:Value}(ry:RelV y u):KV (putK kvs k y) (stored vs k u):=by
 unfold putK stored
 rw[r.any k]
 by_cases e:(vs.any λkv=>decide (kv.1=k))=true
 ·rw[if_pos e,if_pos e]; exact r.repl k ry
 rw[if_neg e,if_neg e]; exact Paired.snoc r ⟨rfl,ry⟩
theorem KV.keys {kvs:List (κ×V)}{vs:List (κ×Value)}(r:KV kvs vs):kvs.map (·.1)=vs.map (·.1):=by
 unfold KV at r
 induction r with
 | nil=>rfl
 | cons h t ih=>rw[map_cons,map_cons,ih,h.1]
theorem KV.length {kvs:List (κ×V)}{vs:List (κ×Value)}(r:KV kvs vs):kvs.length=vs.length:=Paired.length r
end
theorem Zhe {P:Program}{w:World}{k:Key}{u:Value}(r:RelV (kV k) u):(Zat P w).is k u=true:=by
 cases k with
 | inl i=>obtain⟨t,e⟩:=(show ∃t,u=Value.int i t from r); subst e; exact mixKind_int P w i t
 | inr x=>obtain⟨t,e⟩:=(show ∃t,u=Value.str x t from r); subst e; exact mixKind_str P w x t
theorem Zjn {P:Program}{w:World}:∀{ks:List Key}{us:List Value},Vals (ks.map kV) us→ItemsAre (Zat P w) ks us
 | [],_,r=>by rw[map_nil]at r; cases r; exact .nil
 | k :: ks,_,r=>by
  rw[map_cons]at r
  cases r with
  | cons h t=>exact .cons (Zhe h) (Zjn t)
noncomputable abbrev KT (H:Hp):List (List Key×V)→List (List Key×Addr×Value)→Prop:=Paired λp q=>p.1=q.1∧H q.2.1=some (.tup (p.1.map kV))∧RelV p.2 q.2.2
theorem KT.val {H:Hp}{kvs:List (List Key×V)}{xs:List (List Key×Addr×Value)}(r:KT H kvs xs) (k:List Key):RelO (valV kvs k) ((atKey xs k).map (·.2)):=by
 induction r with
 | nil=>exact True.intro
 | @cons p q ps qs h t ih=>
  obtain⟨h1,_,h2⟩:=h
  by_cases e:p.1=k
  ·have e':q.1=k:=h1.symm.trans e
   have b:atKey (q :: qs) k=some q.2:=by simp[atKey,find?_cons,e']
   rw[Zbp e,b]; exact h2
  have e':¬q.1=k:=λz=>e (h1.trans z)
  have b:atKey (q :: qs) k=atKey qs k:=by simp[atKey,find?_cons,e']
  rw[Zbq e,b]; exact ih
theorem KT.repl {H:Hp}{kvs:List (List Key×V)}{xs:List (List Key×Addr×Value)}(r:KT H kvs xs) (k:List Key) {y:V}{u:Value}(ry:RelV y u) :
  KT H (kvs.map λkv=>if kv.1=k then(kv.1,y)else kv) (xs.map (putAt k u)):=by
 induction r with
 | nil=>exact .nil
 | @cons p q ps qs h t ih=>
  rw[map_cons,map_cons]
  refine .cons ?_ ih
  obtain⟨h1,h2,h3⟩:=h
  unfold putAt
  by_cases e:p.1=k
  ·rw[if_pos e,if_pos (h1.symm.trans e)]; exact⟨h1,h2,ry⟩
  rw[if_neg e,if_neg (λz=>e (h1.trans z))]; exact⟨h1,h2,h3⟩
theorem KT.put {H:Hp}{kvs:List (List Key×V)}{xs:List (List Key×Addr×Value)}(r:KT H kvs xs) (k:List Key) {b:Addr}{y:V}{u:Value}(hb:H b=some (.tup (k.map kV))) (ry:RelV y u) :
  KT H (putK kvs k y) (storedH xs k b u):=by
 have e:(kvs.any λkv=>decide (kv.1=k))=(atKey xs k).isSome:=by
  rw[Zci,(r.val k).isSome_eq,isSome_map]
 unfold putK storedH
 rw[e]
 by_cases q:(atKey xs k).isSome=true
 ·rw[if_pos q,if_pos q]; exact r.repl k ry
 rw[if_neg q,if_neg q]; exact Paired.snoc r ⟨rfl,hb,ry⟩
theorem KT.keeps {H H':Hp}{kvs:List (List Key×V)}{xs:List (List Key×Addr×Value)}(r:KT H kvs xs) (ht:∀b ys,H b=some (.tup ys)→H' b=some (.tup ys)):KT H' kvs xs:=
 Paired.mapP r λ_ _ z=>⟨z.1,ht _ _ z.2.1,z.2.2⟩
section
variable {P:Program}{w:World}{H:Hp}{h:Heap}{a:Addr}
theorem rd_of {u:HO}(ok:HOk P w H h) (e:Rd H a u):ObjOk P w H h a u:=e.ok ok
theorem Zhc {kvs:List (Key×V)}(ok:HOk P w H h) (e:Rd H a (.dK kvs)):kvs.length≤sizeLine∧(a == sysModules)=false∧∃vs,KV kvs vs∧h.DictOf (Zat P w) a vs:=
 show ObjOk P w H h a (.dK kvs) from rd_of ok e
theorem Zls {kvs:List (Key×V)}(ok:HOk P w H h) (e:H a=some (.dK kvs)):kvs.length≤sizeLine∧(a == sysModules)=false∧∃vs,KV kvs vs∧h.DictOf (Zat P w) a vs:=Zhc ok (.inl e)
theorem Zg6 {ks:List Key}(ok:HOk P w H h) (e:H a=some (.tup (ks.map kV))):(tupleKind (Zat P w)).is h ks a:=by
 obtain⟨_,its,r,o,h1,h2,n,h3⟩:=(show ObjOk P w H h a (.tup (ks.map kV)) from ok a _ e)
 exact⟨o,its.toArray,n,h1,h2,h3,by simpa using Zjn r⟩
theorem Zjs {kvs:List (List Key×V)}(ok:HOk P w H h) (e:Rd H a (.dT kvs)):kvs.length≤sizeLine∧(a == sysModules)=false ∧
  ∃xs,KT H kvs xs∧h.DictOfH (tupleKind (Zat P w)) a xs:=by
 obtain⟨z,y,xs,r,o,es,ep,h1,h2,h3,h4,h5⟩:=(show ObjOk P w H h a (.dT kvs) from rd_of ok e)
 refine⟨z,y,xs,r,o,es,ep,h1,h2,h3,h4,λx hx=>?_,h5⟩
 have all:∀{l:List (List Key×V)}{m:List (List Key×Addr×Value)},KT H l m→∀x∈m,(tupleKind (Zat P w)).is h x.1 x.2.1:=by
  intro l m q
  induction q with
  | nil=>intro x hx; exact nomatch hx
  | @cons p q ps qs hq t ih=>
   intro x hx
   rcases(mem_cons.mp hx)with e | hx
   ·subst e
    exact Zg6 ok (by rw[← hq.1]; exact hq.2.1)
   exact ih x hx
 exact all r x hx
theorem dt_of {kvs:List (List Key×V)}(ok:HOk P w H h) (e:H a=some (.dT kvs)):kvs.length≤sizeLine∧(a == sysModules)=false ∧
  ∃xs,KT H kvs xs∧h.DictOfH (tupleKind (Zat P w)) a xs:=Zjs ok (.inl e)
end
noncomputable def DGet (H:Hp) (a:Addr) (y:V) (r:Option V):Prop:=
 (∃kvs k,Rd H a (.dK kvs)∧y=kV k∧r=valV kvs k)∨∃kvs k b,Rd H a (.dT kvs)∧y=.ref b∧H b=some (.tup (k.map kV))∧r=valV kvs k
noncomputable def DPut (H:Hp) (a:Addr) (y v:V) (H':Hp):Prop:=
 (∃kvs k,H a=some (.dK kvs)∧y=kV k∧kvs.length < sizeLine∧H'=upd H a (.dK (putK kvs k v))) ∨
 ∃kvs k b,H a=some (.dT kvs)∧y=.ref b∧H b=some (.tup (k.map kV))∧kvs.length < sizeLine∧H'=upd H a (.dT (putK kvs k v))
theorem DGet.k {H:Hp}{a:Addr}{kvs:List (Key×V)}{k:Key}(e:H a=some (.dK kvs)):DGet H a (kV k) (valV kvs k):=.inl ⟨kvs,k,.inl e,rfl,rfl⟩
theorem DGet.t {H:Hp}{a b:Addr}{kvs:List (List Key×V)}{k:List Key}(e:H a=some (.dT kvs)) (eb:H b=some (.tup (k.map kV))):DGet H a (.ref b) (valV kvs k):=.inr ⟨kvs,k,b,.inl e,rfl,eb,rfl⟩
theorem DPut.k {H:Hp}{a:Addr}{kvs:List (Key×V)}{k:Key}{v:V}(e:H a=some (.dK kvs)) (hl:kvs.length < sizeLine):DPut H a (kV k) v (upd H a (.dK (putK kvs k v))):=.inl ⟨kvs,k,e,rfl,hl,rfl⟩
theorem DPut.t {H:Hp}{a b:Addr}{kvs:List (List Key×V)}{k:List Key}{v:V}(e:H a=some (.dT kvs)) (eb:H b=some (.tup (k.map kV))) (hl:kvs.length < sizeLine) :
  DPut H a (.ref b) v (upd H a (.dT (putK kvs k v))):=.inr ⟨kvs,k,b,e,rfl,eb,hl,rfl⟩
section
variable {X:Cx}{pins:List (Addr×Obj)}{σ:St}{H:Hp}{s:Shared}{a:Addr}{y v:V}{u r:Value}{o:Option V}{A:Around}{E:Value→Shared→Prop}
theorem Inv.big (I:Inv X pins σ H s):sysModules < s.heap.objs.size:=by
 have h:mainGlobals < s.heap.objs.size:=(I.mod.glob.keeps I.bk).lt
 exact lt_trans (by decide) h
theorem d_getItem {Q:Value→Shared→Prop}(hu:A.units + 1 < cLine) (I:Inv X pins σ H s) (g:DGet H a y (some v)) (ry:RelV y u) (h:∀w' s',Inv X pins σ H s'→RelV v w'→Q w' s') :
  wpAny (model X.prog X.w) A (getItem (.ref a) u) Q E s:=by
 rcases g with⟨kvs,k,e,ey,l⟩ | ⟨kvs,k,b,e,ey,eb,l⟩
 ·subst ey
  obtain⟨z,hd,vs,rel,dd⟩:=Zhc I.hok e
  obtain⟨w',hw,rw'⟩:=RelO.some_of (v:=v) (o:=valueAt vs k) (by rw[l]; exact rel.val k)
  exact wpAny_getItem_of (Zhe ry) dd.mapOf hw (h w' _ (I.tok _) rw')
 subst ey
 cases (show u=Value.ref b from ry)
 obtain⟨z,hd,xs,rel,dd⟩:=Zjs I.hok e
 obtain⟨w',hw,rw'⟩:=RelO.some_of (v:=v) (o:=(atKey xs k).map (·.2)) (by rw[l]; exact rel.val k)
 obtain⟨p,hp,hp2⟩:=map_eq_some_iff.mp hw
 refine wpAny_getItem_heap (tupleKind_room_in1 hu) (Zg6 I.hok eb) dd hp ?_
 rw[hp2]
 exact h w' _ (I.tok _) rw'
theorem d_in {Q:Value→Shared→Prop}(hu:A.units + 1 < cLine) (I:Inv X pins σ H s) (g:DGet H a y o) (ry:RelV y u) (h:∀s',Inv X pins σ H s'→Q (.bool o.isSome) s') :
  wpAny (model X.prog X.w) A (compareOp .In u (.ref a)) Q E s:=by
 rcases g with⟨kvs,k,e,ey,l⟩ | ⟨kvs,k,b,e,ey,eb,l⟩
 ·subst ey
  obtain⟨z,hd,vs,rel,dd⟩:=Zhc I.hok e
  refine wpAny_in_of (Zhe ry) hd dd.mapOf ?_
  rw[← (rel.val k).isSome_eq,← l]
  exact h _ (I.tok _)
 subst ey
 cases (show u=Value.ref b from ry)
 obtain⟨z,hd,xs,rel,dd⟩:=Zjs I.hok e
 refine wpAny_in_heap (tupleKind_room_in1 hu) (Zg6 I.hok eb) hd dd ?_
 have q:=(rel.val k).isSome_eq
 rw[isSome_map]at q
 rw[← q,← l]
 exact h _ (I.tok _)
theorem d_notIn {Q:Value→Shared→Prop}(hu:A.units + 1 < cLine) (I:Inv X pins σ H s) (g:DGet H a y o) (ry:RelV y u) (h:∀s',Inv X pins σ H s'→Q (.bool (!o.isSome)) s') :
  wpAny (model X.prog X.w) A (compareOp .NotIn u (.ref a)) Q E s:=by
 rcases g with⟨kvs,k,e,ey,l⟩ | ⟨kvs,k,b,e,ey,eb,l⟩
 ·subst ey
  obtain⟨z,hd,vs,rel,dd⟩:=Zhc I.hok e
  refine wpAny_notIn_of (Zhe ry) hd dd.mapOf ?_
  rw[← (rel.val k).isSome_eq,← l]
  exact h _ (I.tok _)
 subst ey
 cases (show u=Value.ref b from ry)
 obtain⟨z,hd,xs,rel,dd⟩:=Zjs I.hok e
 refine wpAny_notIn_heap (tupleKind_room_in1 hu) (Zg6 I.hok eb) hd dd ?_
 have q:=(rel.val k).isSome_eq
 rw[isSome_map]at q
 rw[← q,← l]
 exact h _ (I.tok _)
theorem Zmx {h':Heap}{t':Nat}{ob:HO}(I:Inv X pins σ H s) (mu:Mut (H a)) (hs:Heap.SameBut a s.heap h') (he:∃q,h'.get? a=some q) (new:ObjOk X.prog X.w (upd H a ob) h' a ob) :
  Inv X pins σ (upd H a ob) { s with heap:=h',toks:=t' }:=
 I.write (x:=a) (e:=a) mu (.inl rfl) (λb q hb z=>(hs.2 b hb).trans z) he new
theorem dk_new {P:Program}{w:World}{H':Hp}{h':Heap}{kvs:List (Key×V)}{vs:List (Key×Value)}(z:kvs.length≤sizeLine) (hd:(a == sysModules)=false) (rel:KV kvs vs) (dd:h'.DictOf (Zat P w) a vs) :
  ObjOk P w H' h' a (.dK kvs):=⟨z,hd,vs,rel,dd⟩
theorem d_setItem {H':Hp}{Q:Unit→Shared→Prop}(hu:A.units + 1 < cLine) (I:Inv X pins σ H s) (g:DPut H a y v H') (ry:RelV y u) (rv:RelV v r) (h:∀s',Inv X pins σ H' s'→Q () s') :
  wpAny (model X.prog X.w) A (setItem (.ref a) u r) Q E s:=by
 rcases g with⟨kvs,k,e,ey,l,eH⟩ | ⟨kvs,k,b,e,ey,eb,l,eH⟩
 ·subst ey eH
  obtain⟨z,hd,vs,rel,dd⟩:=Zls I.hok e
  have hz:vs.length≤sizeLine:=by rw[← rel.length]; exact z
  have hl:(putK kvs k v).length≤sizeLine:=by have:=Zcv kvs k v; lia
  refine wpAny_setItem_pairs (hsz:=hz) (Zhe ry) dd λh' dd' hs=>h _ ?_
  have he:∃q,h'.get? a=some q:=let ⟨q,_,_,hq,_⟩:=dd'; ⟨q,hq⟩
  exact Zmx I (by rw[e]; exact True.intro) hs he (dk_new hl hd (rel.put k rv) dd')
 subst ey eH
 cases (show u=Value.ref b from ry)
 obtain⟨z,hd,xs,rel,dd⟩:=dt_of I.hok e
 have hz:xs.length≤sizeLine:=by rw[← Paired.length rel]; exact z
 have hl:(putK kvs k v).length≤sizeLine:=by have:=Zcv kvs k v; lia
 refine wpAny_setItem_heap (hsz:=hz) (tupleKind_room_in1 hu) (Zg6 I.hok eb) dd λh' dd' hs=>h _ ?_
 obtain⟨q,es,ep,hq,h2,h3,h4,_,h5⟩:=dd'
 refine Zmx I (by rw[e]; exact True.intro) hs ⟨q,hq⟩ ⟨hl,hd,_,(rel.put k eb rv).keeps λc ys ec=>?_,q,es,ep,hq,h2,h3,h4,h5⟩
 rw[Zaj (Zb4 ec e (λz=>nomatch z))]
 exact ec
end
section
variable {X:Cx}{pins:List (Addr×Obj)}{σ:St}{H:Hp}{s:Shared}{a:Addr}{kvs:List (Key×V)}{k:Key}{u:Value}{A:Around}{E:Value→Shared→Prop}
theorem d_len {Q:Value→Shared→Prop}(I:Inv X pins σ H s) (e:Rd H a (.dK kvs)) (h:∀t s',Inv X pins σ H s'→Q (.int kvs.length t) s'):wpAny (model X.prog X.w) A (call (.builtin "len") [.ref a]) Q E s:=by
 obtain⟨z,hd,vs,rel,dd⟩:=Zhc I.hok e
 refine call_len_dict hd dd (by rw[← rel.length]; rw[sizeLine_eq]at z; lia) ?_
 rw[← rel.length]
 exact h _ _ (I.tok _)
end
noncomputable def NoSl (i:Expr):Prop:=∀ov iv,subscripted i false ov iv=operate [ov,iv] (getItem ov iv)
theorem subD_of {prog:Program}{w:World}{A:Around}{E:Value→Shared→Prop}{s:Shared}{env:Env}{value slice:Expr}{pos:Pos}{T id:String}{Q:Value→Shared→Prop}
  (hl:typeLookup (.type T) "__getitem__" = pure (some (.builtin id))) (hs:NoSl slice)
  (h:wpAny (model prog w) A (eval value env) (λo s₁=>wpAny (model prog w) A (eval slice env) (λi s₂=>s₂.TypeIs o T∧wpAny (model prog w) A (getItem o i) Q E s₂) E s₁) E s) :
  wpAny (model prog w) A (eval (.Subscript value slice pos) env) Q E s:=by
 refine Subscript_ (wpAny_mono h (λo s₁ h₁=>wpAny_mono h₁ (λi s₂ h₂=>?_) λ_ _ x=>x) λ_ _ x=>x)
 obtain⟨hT,h₂⟩:=h₂
 unfold subscriptTail
 refine wpAny_bind ?_
 rw[getitemInPython_of_ne hT.not_modules]
 refine wpAny_bind (wpAny_specialOf hT hl ?_)
 have fin:wpAny (model prog w) A (subscripted slice false o i) (λr s₃=>wpAny (model prog w) A (letTemporaryGo value o r >>= λ_=>pure r) Q E s₃) E s₂:=by
  rw[hs o i]
  exact wpAny_operating (wpAny_mono h₂ (λr s₃ h₃=>wpAny_bind (wpAny_letTemporaryGo (wpAny_pure h₃))) λ_ _ x=>x)
 first
  | exact wpAny_pure (wpAny_bind fin)
  | exact wpAny_bind (wpAny_pure (wpAny_bind fin))
  | exact wpAny_bind fin
theorem dict_typeIs {X:Cx}{pins:List (Addr×Obj)}{σ:St}{H:Hp}{s:Shared}{a:Addr}{y:V}{o:Option V}(I:Inv X pins σ H s) (g:DGet H a y o):s.TypeIs (.ref a) "dict" := by
 rcases g with⟨kvs,k,e,_,_⟩ | ⟨kvs,k,b,e,_,_,_⟩
 ·obtain⟨_,_,vs,_,dd⟩:=Zhc I.hok e
  exact dd.typeIs
 obtain⟨_,_,xs,_,dd⟩:=Zjs I.hok e
 exact dd.typeIs
inductive hasD (Q:VK) (x y:V) (H2:Hp):Prop
 | mk (a:_) (v:_) (c0:x=.ref a) (c1:DGet H2 a y (some v)) (c2:Q v H2):hasD Q x y H2
noncomputable def tDGet (td ty:TE):TE:=λσ H Q=>td σ H λx H1=>ty σ H1 λy H2=>hasD Q x y H2
inductive inD (Q:VK) (x y:V) (H2:Hp):Prop
 | mk (a:_) (o:_) (c0:x=.ref a) (c1:DGet H2 a y o) (c2:Q (.bl o.isSome) H2):inD Q x y H2
noncomputable def tDIn (ty td:TE):TE:=λσ H Q=>ty σ H λy H1=>td σ H1 λx H2=>inD Q x y H2
noncomputable def tDNotIn (ty td:TE):TE:=λσ H Q=>ty σ H λy H1=>td σ H1 λx H2=>∃a o,x=.ref a∧DGet H2 a y o∧Q (.bl (!o.isSome)) H2
noncomputable def sDPut (td ty tv:TE):TS:=λD σ H=>tv σ H λv H1=>td σ H1 λx H2=>ty σ H2 λy H3=>∃a H4,x=.ref a∧DPut H3 a y v H4∧D.nx σ H4
section
variable {X:Cx}{o i e value:Expr}{pos pos' tpos:Pos}{td ty tv:TE}
theorem Zd7 (hu:X.A.units + 1 < cLine) (ho:PE X o td) (hi:PE X i ty) (hs:NoSl i):PE X (.Subscript o i pos) (tDGet td ty):=by
 intro pins s σ H Q I h
 refine subD_of PySem.F.slot_dict_getitem.lookup hs (thn (ho pins s σ H _ I h) λu s1 hp0=>?_)
 obtain⟨x,H1,I1,rx,q1⟩:=hp0
 refine thn (hi pins s1 σ H1 _ I1 q1) λiv s2 hp1=>?_
 obtain⟨y,H2,I2,ry,a,v,ex,g,q2⟩:=hp1
 subst ex
 obtain rfl:u=Value.ref a:=rx
 exact⟨dict_typeIs I2 g,d_getItem hu I2 g ry λw' s3 I3 rw'=>⟨v,H2,I3,rw',q2⟩⟩
theorem Znn (hu:X.A.units + 1 < cLine) (hi:PE X i ty) (ho:PE X o td):PC X .In i o (tDIn ty td):=by
 intro pins s σ H Q I h
 refine thn (hi pins s σ H _ I h) λiv s1 hp0=>?_
 obtain⟨y,H1,I1,ry,q1⟩:=hp0
 refine thn (ho pins s1 σ H1 _ I1 q1) λu s2 hp1=>?_
 obtain⟨x,H2,I2,rx,a,ov,ex,g,q2⟩:=hp1
 subst ex
 obtain rfl:u=Value.ref a:=rx
 exact d_in hu I2 g ry λs3 I3=>⟨.bl ov.isSome,H2,I3,rfl,q2⟩
theorem Ze4 (hu:X.A.units + 1 < cLine) (hi:PE X i ty) (ho:PE X o td):PC X .NotIn i o (tDNotIn ty td):=by
 intro pins s σ H Q I h
 refine thn (hi pins s σ H _ I h) λiv s1 hp0=>?_
 obtain⟨y,H1,I1,ry,q1⟩:=hp0
 refine thn (ho pins s1 σ H1 _ I1 q1) λu s2 hp1=>?_
 obtain⟨x,H2,I2,rx,a,ov,ex,g,q2⟩:=hp1
 subst ex
 obtain rfl:u=Value.ref a:=rx
 exact d_notIn hu I2 g ry λs3 I3=>⟨.bl (!ov.isSome),H2,I3,rfl,q2⟩
theorem Zc7 (hu:X.A.units + 1 < cLine) (ho:PE X o td) (hi:PE X i ty) (hv:PE X value tv) (hs:swapsWith value (some (.Subscript o i pos')) pos.line X.env=pure false) :
  PS X (.Assign [.Subscript o i pos'] value pos) (sDPut td ty tv):=by
 intro pins s σ H D I h
 refine wpAny_Assign_Subscript (thn (hv pins s σ H _ I h) λr s1 hp0=>?_) hs
 obtain⟨v,H1,I1,rv,q1⟩:=hp0
 refine thn (ho pins s1 σ H1 _ I1 q1) λu s2 hp1=>?_
 obtain⟨x,H2,I2,rx,q2⟩:=hp1
 refine thn (hi pins s2 σ H2 _ I2 q2) λiv s3 hp2=>?_
 obtain⟨y,H3,I3,ry,a,H4,ex,g,q3⟩:=hp2
 subst ex
 obtain rfl:u=Value.ref a:=rx
 exact d_setItem hu I3 g ry rv λs4 I4=>⟨σ,H4,I4,q3⟩
end
theorem dk_empty {P:Program}{w:World}{H:Hp}(h:Heap) (hb:sysModules < h.objs.size):ObjOk P w H (h.push { cls:=.type "dict",data:=.dict #[] }) h.objs.size (.dK []):=
 ⟨zero_le _,beq_eq_false_iff_ne.mpr (Ne.symm (ne_of_lt hb)),[],.nil,Heap.DictOf.new h⟩
theorem dt_empty {P:Program}{w:World}{H:Hp}(h:Heap) (hb:sysModules < h.objs.size):ObjOk P w H (h.push { cls:=.type "dict",data:=.dict #[] }) h.objs.size (.dT []):=
 ⟨zero_le _,beq_eq_false_iff_ne.mpr (Ne.symm (ne_of_lt hb)),[],.nil,_,#[],0,Heap.get?_push_size _ rfl,⟨rfl,rfl,rfl⟩,rfl,rfl,nodup_nil⟩
noncomputable def tDNewK:TE:=λ_ H Q=>∀p,H p=none→Q (.ref p) (upd H p (.dK []))
noncomputable def tDNewT:TE:=λ_ H Q=>∀p,H p=none→Q (.ref p) (upd H p (.dT []))
section
variable {X:Cx}{pos:Pos}
theorem Zc5:PE X (.Dict [] [] pos) tDNewK:=λpins s σ H Q I h=>
 wpAny_Dict_empty ⟨.ref s.heap.objs.size,_,I.laid (a:=s.heap.objs.size) (o:=.dK []) (t':=s.toks) (λ_ _ q=>Heap.get?_push_of_some _ q) (Nat.le_refl _) (dk_empty s.heap I.big),rfl,h _ (I.hok.fresh (Nat.le_refl _))⟩
theorem pe_dnewT:PE X (.Dict [] [] pos) tDNewT:=λpins s σ H Q I h=>
 wpAny_Dict_empty ⟨.ref s.heap.objs.size,_,I.laid (a:=s.heap.objs.size) (o:=.dT []) (t':=s.toks) (λ_ _ q=>Heap.get?_push_of_some _ q) (Nat.le_refl _) (dt_empty s.heap I.big),rfl,h _ (I.hok.fresh (Nat.le_refl _))⟩
end
structure M1 (X:Cx) (o:Expr) (m:Str) (apos:Pos) (e:Expr) (cpos:Pos):Prop where
 base:attributeBase o m X.env (eval o X.env)=eval o X.env
 few:((backTo cpos (starEach [e] X.env)).all (λx=>!x.1) && (backToKw cpos (keywordEach [] X.env)).all (λx=>x.1.isSome)
  && decide (([e]:List Expr).length + ([]:List Keyword).length + (if ([]:List Keyword).isEmpty then 0 else 1) < 30))=true
 line:(apos.endLine == cpos.line)=true
 trees:backTo cpos (starEach [e] X.env)=[(false,eval e X.env)]
structure M2 (X:Cx) (o:Expr) (m:Str) (apos:Pos) (e f:Expr) (cpos:Pos):Prop where
 base:attributeBase o m X.env (eval o X.env)=eval o X.env
 few:((backTo cpos (starEach [e,f] X.env)).all (λx=>!x.1) && (backToKw cpos (keywordEach [] X.env)).all (λx=>x.1.isSome)
  && decide (([e,f]:List Expr).length + ([]:List Keyword).length + (if ([]:List Keyword).isEmpty then 0 else 1) < 30))=true
 line:(apos.endLine == cpos.line)=true
 trees:backTo cpos (starEach [e,f] X.env)=[(false,eval e X.env),(false,eval f X.env)]
noncomputable def IsD (H:Hp) (a:Addr):Prop:=(∃kvs,Rd H a (.dK kvs))∨∃kvs,Rd H a (.dT kvs)
theorem Zmj {X:Cx}{pins:List (Addr×Obj)}{σ:St}{H:Hp}{s:Shared}{a:Addr}(I:Inv X pins σ H s) (d:IsD H a) :
  s.TypeIs (.ref a) "dict" ∧ (∀b,Value.ref a=.ref b→∃ob,s.heap.get? b=some ob∧ob.dict=none)∧(a == sysModules)=false:=by
 rcases d with⟨kvs,e⟩ | ⟨kvs,e⟩
 ·obtain⟨_,hd,vs,_,dd⟩:=Zhc I.hok e
  refine⟨dd.typeIs,λb q=>?_,hd⟩
  cases q
  obtain⟨ob,_,_,h1,h2,_⟩:=dd
  exact⟨ob,h1,h2.2.1⟩
 obtain⟨_,hd,xs,_,dd⟩:=Zjs I.hok e
 refine⟨dd.typeIs,λb q=>?_,hd⟩
 cases q
 obtain⟨ob,_,_,h1,h2,_⟩:=dd
 exact⟨ob,h1,h2.2.1⟩
section
variable {X:Cx}{pins:List (Addr×Obj)}{σ:St}{H:Hp}{s:Shared}{a:Addr}{y d:V}{u r:Value}{o:Option V}{A:Around}{E:Value→Shared→Prop}
theorem d_get1 {Q:Value→Shared→Prop}(hu:A.units + 1 < cLine) (I:Inv X pins σ H s) (g:DGet H a y o) (ry:RelV y u) (h:∀w' s',Inv X pins σ H s'→RelV (o.getD .non) w'→Q w' s') :
  wpAny (model X.prog X.w) A (call (.builtin "dict.get") [.ref a,u]) Q E s:=by
 rcases g with⟨kvs,k,e,ey,l⟩ | ⟨kvs,k,b,e,ey,eb,l⟩
 ·subst ey
  obtain⟨z,hd,vs,rel,dd⟩:=Zhc I.hok e
  refine call_meetsIn PySem.F.slot_dict_get dd.typeIs PySem.F.entry_dict_get (PySem.F.args_dict_get_2 _ _) (meets_dict_get (Zat X.prog X.w) a (Zhe ry) hd) ⟨_,dd.mapOf,h _ _ (I.tok _) ?_⟩
  rw[l]
  exact(rel.val k).getD rfl
 subst ey
 cases (show u=Value.ref b from ry)
 obtain⟨z,hd,xs,rel,dd⟩:=Zjs I.hok e
 refine call_meetsIn PySem.F.slot_dict_get dd.typeIs PySem.F.entry_dict_get (PySem.F.args_dict_get_2 _ _) (meetsH_dict_get (tupleKind (Zat X.prog X.w)) a b hd) ⟨tupleKind_room_in1 hu,k,xs,Zg6 I.hok eb,dd,h _ _ (I.tok _) ?_⟩
 rw[l]
 exact(rel.val k).getD rfl
theorem d_get2 {Q:Value→Shared→Prop}(hu:A.units + 1 < cLine) (I:Inv X pins σ H s) (g:DGet H a y o) (ry:RelV y u) (rd:RelV d r) (h:∀w' s',Inv X pins σ H s'→RelV (o.getD d) w'→Q w' s') :
  wpAny (model X.prog X.w) A (call (.builtin "dict.get") [.ref a,u,r]) Q E s:=by
 rcases g with⟨kvs,k,e,ey,l⟩ | ⟨kvs,k,b,e,ey,eb,l⟩
 ·subst ey
  obtain⟨z,hd,vs,rel,dd⟩:=Zhc I.hok e
  refine call_meetsIn PySem.F.slot_dict_get dd.typeIs PySem.F.entry_dict_get (PySem.F.args_dict_get_3 _ _ _) (meets_dict_get_default (Zat X.prog X.w) a (Zhe ry) hd r) ⟨_,dd.mapOf,h _ _ (I.tok _) ?_⟩
  rw[l]
  exact(rel.val k).getD rd
 subst ey
 cases (show u=Value.ref b from ry)
 obtain⟨z,hd,xs,rel,dd⟩:=Zjs I.hok e
 refine call_meetsIn PySem.F.slot_dict_get dd.typeIs PySem.F.entry_dict_get (PySem.F.args_dict_get_3 _ _ _) (meetsH_dict_get_default (tupleKind (Zat X.prog X.w)) a b hd r) ⟨tupleKind_room_in1 hu,k,xs,Zg6 I.hok eb,dd,h _ _ (I.tok _) ?_⟩
 rw[l]
 exact(rel.val k).getD rd
end
noncomputable def tDGet1 (td ty:TE):TE:=λσ H Q=>td σ H λx H1=>∃a,x=.ref a∧IsD H1 a∧ty σ H1 λy H2=>∃o,DGet H2 a y o∧Q (o.getD .non) H2
noncomputable def tDGet2 (td ty tx:TE):TE:=λσ H Q=>td σ H λx H1=>∃a,x=.ref a∧IsD H1 a∧ty σ H1 λy H2=>tx σ H2 λz H3=>∃o,DGet H3 a y o∧Q (o.getD z) H3
section
variable {X:Cx}{o e f:Expr}{apos cpos:Pos}{td ty tx:TE}
theorem pe_dget1 (hu:X.A.units + 1 < cLine) (ho:PE X o td) (he:PE X e ty) (m:M1 X o "get" apos e cpos):PE X (.Call (.Attribute o "get" apos) [e] [] cpos) (tDGet1 td ty):=by
 intro pins s σ H Q I h
 refine wpAny_Call_method m.base m.few m.line PySem.F.plainAttrs_dict PySem.F.slot_dict_get PySem.F.type_dict_get (thn (ho pins s σ H _ I h) λu s1 hp0=>?_)
 obtain⟨x,H1,I1,rx,a,ex,d,q1⟩:=hp0
 subst ex
 obtain rfl:u=Value.ref a:=rx
 obtain⟨t1,t2,_⟩:=Zmj I1 d
 refine⟨t1,t2,?_⟩
 rw[m.trees]
 refine Calls.callWith_builtin rfl (Calls.evalArgs_plain (Calls.spliced_cons (thn (he pins s1 σ H1 _ I1 q1) λiv s2 hp0=>?_)))
 obtain⟨y,H2,I2,ry,ov,g,q2⟩:=hp0
 refine Calls.spliced_nil ?_
 exact d_get1 hu I2 g ry λw' s3 I3 rw'=>⟨_,H2,I3,rw',q2⟩
theorem Zkn (hu:X.A.units + 1 < cLine) (ho:PE X o td) (he:PE X e ty) (hf:PE X f tx) (m:M2 X o "get" apos e f cpos):PE X (.Call (.Attribute o "get" apos) [e,f] [] cpos) (tDGet2 td ty tx):=by
 intro pins s σ H Q I h
 refine wpAny_Call_method m.base m.few m.line PySem.F.plainAttrs_dict PySem.F.slot_dict_get PySem.F.type_dict_get (thn (ho pins s σ H _ I h) λu s1 hp0=>?_)
 obtain⟨x,H1,I1,rx,a,ex,d,q1⟩:=hp0
 subst ex
 obtain rfl:u=Value.ref a:=rx
 obtain⟨t1,t2,_⟩:=Zmj I1 d
 refine⟨t1,t2,?_⟩
 rw[m.trees]
 refine Calls.callWith_builtin rfl (Calls.evalArgs_plain (Calls.spliced_cons (thn (he pins s1 σ H1 _ I1 q1) λiv s2 ⟨y,H2,I2,ry,q2⟩=>
  Calls.spliced_cons (thn (hf pins s2 σ H2 _ I2 q2) λfv s3 ⟨z,H3,I3,rz,ov,g,q3⟩=>Calls.spliced_nil ?_))))
 exact d_get2 hu I3 g ry rz λw' s4 I4 rw'=>⟨_,H3,I4,rw',q3⟩
end
end L2
namespace Att
open PySem PySem.W PySem.Calls PyProof.Rows
theorem ints_of_wellAll {P:Params}{h:Heap}:∀(ns:List Int) (vs:List Value),WellAll P h vs (ns.map WData.int)→IntsAre vs ns:=by
 intro ns
 induction ns with
 | nil=>
  intro vs w
  rw[map_nil]at w
  cases w
  exact .nil
 | cons n ns ih=>
  intro vs w
  rw[map_cons]at w
  cases w with
  | cons a b=>
   cases a
   exact .cons _ _ (ih _ b)
theorem script_of {l:OpenLaw}{n:Nat}(hn:l.most=some n) {P:Params}{h:Heap}{args:List WData}{vals:List Value}
  (hpre:l.row.toRowW.claim.pre args=true) (hwl:WellAll P h vals args) :
  ∃a vs ns,vals=[Value.ref a]∧args=[WData.list (ns.map WData.int)]∧h.get? a=some { cls:=.type "list",data:=.seq vs.toArray }∧IntsAre vs ns∧ns.length≤n:=by
 have hsh:WShape.hasAll [] args [.list .int]=true:=(pre_splitW hpre).1
 have hc:l.pre.holds [] { args:=args } = true:=(pre_splitW hpre).2
 obtain⟨d,r,rfl,h1,h2⟩:=hasAllW_cons hsh
 obtain rfl:=hasAllW_nil h2
 obtain⟨xs,rfl,h3⟩:=hasW_list h1
 obtain⟨ns,rfl⟩:=items_int h3
 have hlen:ns.length≤n:=by
  unfold OpenLaw.pre at hc
  have h4:(WTm.not (.lt (.lit (.int (n:Int))) (.len (.arg 0)))).holds [] { args:=[.list (ns.map .int)] } = true:=by
   have h4:=(holds_andW hc).1
   rw[hn]at h4
   exact h4
  have h5:=condW_of h4 (w_not (w_lt w_lit (w_len_list (w_arg rfl))))
  rw[length_map]at h5
  refine le_of_not_lt λq=>?_
  have q':(n:Int) < ((ns.length:Nat):Int):=by lia
  first
   | (rw[decide_eq_true q']at h5; exact absurd h5 (by decide))
   | (simp at h5; lia)
 cases hwl with
 | cons w1 w2=>
  cases w2
  cases w1 with
  | list ho hall=>exact⟨_,_,ns,rfl,rfl,ho,ints_of_wellAll ns _ hall,hlen⟩
theorem post_true (l:OpenLaw) (args:List WData):l.row.toRowW.claim.post args (.bool true) args=true:=
 postW_of (r:=l.row.toRowW) (X:=(true == true))
  (show WShape.has [] (.bool true) .bool=true by first | rfl | decide | simp[WShape.has,WShape.arms,WShape.armsAll])
  (show(WTm.eq .res (.lit (.bool true))).value [] { args:=args,res:=some (.bool true),after:=args } = some (.bool (true == true)) from w_eq_bool (w_res rfl) w_lit) rfl
theorem attach_call {l:OpenLaw}{n:Nat}{q:Program}{loose:List Str}{XP:(Str→Option Value)→Heap→Prop}{YP:World→Heap→Prop}{d:DefRec}
  (hn:l.most=some n) (hdf:d.params.defaults=[])
  (call:∀(w:World) (s₀ s₁:Shared) (mg mb:Str→Option Value) (fa:Addr) (o:Obj) (pm cd doc:Value) (a:Addr) (vs:List Value) (ns:List Int),
   Ground q loose [] XP w s₀ mg mb s₁.heap→YP w s₁.heap →
   s₁.heap.get? fa=some o→o.data=.func (docDef d.name d.params d.body d.scope pm cd doc)→s₁.heap.CodeRec cd d.name→mg d.name=some (.ref fa) →
   s₁.heap.get? a=some { cls:=.type "list",data:=.seq vs.toArray }→IntsAre vs ns→ns.length≤n→s₁.gens=#[] →
   codeAny (model l.prog w) callerA (.call (.ref fa) ⟨[.ref a],[]⟩) (λr s'=>r=.ok (.ret (.bool true))∧OldK s₁.heap s'.heap∧s'.os=s₁.os∧AllBare s'.gens) s₁) :
  WalkO q loose XP YP l.row.toRowW d [] (λf vs=>PySem.call f vs):=by
 intro w s₀ s₁ mg mb G Y fa o pm cd doc dV kV ho hd hcd hD hmg hg args vals as hpre hlay hrd hwl hlo
 obtain rfl:dV=.none:=Dflts.none hD hdf
 obtain rfl:kV=.none:=Dflts.noKw hD
 obtain⟨a,vs,ns,rfl,rfl,hobj,hints,hlen⟩:=script_of hn hpre hwl
 refine enter_call (codeAny_mono (call w s₀ s₁ mg mb fa o pm cd doc a vs ns G Y ho (fd_plain hd) hcd hmg hobj hints hlen hg) λr s' hq=>?_)
 obtain⟨rfl,h2,h3,h4⟩:=hq
 exact⟨.inl ⟨.bool true,.bool true,[],rfl,λ_=>rfl,.bool true,post_true l _,λ_=>⟨List.Pairwise.nil,λ_ hm=>(nomatch hm)⟩⟩,h2,h3,h4⟩
end Att
namespace L2
open PySem PySem.Spec PyProof.Rows
theorem Zi3:∀{vs:List Value}{ns:List Int},IntsAre vs ns→Vals (ns.map V.int) vs
 | _,_,.nil=>.nil
 | _,_,.cons n t h=>.cons ⟨t,rfl⟩ (Zi3 h)
noncomputable def Only (H:Hp):Prop:=∀b,H b=none∨∃o xs,H b=some (.frz o (.lst xs))
theorem law_call {P:Program}{w:World}{K:W.Frag}{mg mb:Str→Option Value}{CX:CXT}{k:Nat}{fa a:Addr}{fd:FuncData}{x:Str}{sp:Sp}{s₁:Shared}{vs:List Value}{ns:List Int}
  (KX:K.In s₁.heap) (hns:s₁.heap.Ns mainGlobals mg) (hb:s₁.heap.Ns builtinsNs mb) (hbb:∀x:Str,x ≠ "__name__" → mb x=bootBuiltins x) (hlim:s₁.heap.NoLimit) (hg:s₁.gens=#[])
  (ha:s₁.heap.get? a=some { cls:=.type "list",data:=.seq vs.toArray }) (hi:IntsAre vs ns) (hl:ns.length≤sizeLine) (hr:Room k callerA)
  (F:∀base:Heap,K.In base→base.Ns mainGlobals mg→FnOk P w K mg base CX k fa fd [x] sp) (hbind:∀(s:Shared) (u:Value),BindsTo s fd ⟨[u],[]⟩ [(x,u)])
  (hsp:∀H:Hp,Only H→SqL K H a (ns.map V.int)→sp [.ref a] H (λv _=>v=.bl true) λ_ _ _=>False)
  (hCX:∀H e s',CX [] H s₁ (λ_ _ _=>False) e s'→False) :
  codeAny (model P w) callerA (.call (.ref fa) ⟨[.ref a],[]⟩) (λr s'=>r=.ok (.ret (.bool true))∧OldK s₁.heap s'.heap∧s'.os=s₁.os∧AllBare s'.gens) s₁:=by
 have rv:=Zi3 hi
 have lenV:=hi.length
 -- from an abstract heap in which nothing but the script may be tracked
 have core:∀H:Hp,Only H→SqL K H a (ns.map V.int)→HOk P w H s₁.heap→(∀b,H b≠none→b=a)→(H a≠none→K.lookup a=none) →
   codeAny (model P w) callerA (.call (.ref fa) ⟨[.ref a],[]⟩) (λr s'=>r=.ok (.ret (.bool true))∧OldK s₁.heap s'.heap∧s'.os=s₁.os∧AllBare s'.gens) s₁:=by
  intro H hO hS hok hA hK
  have base_of:∀{b:Addr}{o:Obj},s₁.heap.get? b=some o→H b=none→(hidT s₁.heap H).get? b=some o:=λe n=>hidT_get e n
  have noA:∀{b:Addr}{o:Obj}{es:Array DictEntry}{ep:Nat},s₁.heap.get? b=some o→o.data=.dict es ep→H b=none:=λ{b o es ep} e d=>by
   cases q:H b with
   | none=>rfl
   | some u=>
    have e':b=a:=hA b (by rw[q]; simp)
    subst e'
    rw[ha]at e; cases e
    have d':Data.seq vs.toArray _=Data.dict es ep:=d
    cases d'
  have nsK:∀{b:Addr}{m:Str→Option Value},s₁.heap.Ns b m→(hidT s₁.heap H).Ns b m:=λ{b m} ⟨o,es,ep,e,d,r⟩=>⟨o,es,ep,base_of e (noA e d),d,r⟩
  have hKb:K.In (hidT s₁.heap H):=λb o e=>base_of (KX b o e) (by
   cases q:H b with
   | none=>rfl
   | some u=>
    have e':b=a:=hA b (by rw[q]; simp)
    subst e'
    rw[hK (by rw[q]; simp)]at e; cases e)
  have hM:Mod K mg (hidT s₁.heap H):=⟨hKb,nsK hns,⟨mb,nsK hb,hbb⟩,let ⟨mc,h1,h2⟩:=hlim; ⟨mc,nsK h1,h2⟩⟩
  have e0:Env0 P w K mg (hidT s₁.heap H) callerA [] s₁ H:=⟨rfl,hM,λb o e=>of_hidT e,le_of_eq (hidT_size _ _),trivial,λb hb=>absurd (show b∈([]:List Addr) from hb) (by simp),hok,.of_eq hg⟩
  refine codeAny_mono ((F _ hKb (nsK hns)).run callerA [] s₁ H ⟨[.ref a],[]⟩ [.ref a] [.ref a] _ _ hr e0 (hbind s₁ (.ref a)) (.cons rfl .nil) (hsp H hO hS)) λr s' h=>?_
  cases r with
  | error e=>exact(hCX H e s' h).elim
  | ok fl=>
   cases fl with
   | next=>exact False.elim h
   | brk=>exact False.elim h
   | cont=>exact False.elim h
   | ret u=>
    obtain⟨v,H',os,bare,un,hok',r',q⟩:=h
    have q':v=.bl true:=q
    subst q'
    obtain rfl:u=Value.bool true:=r'
    refine⟨rfl,OldK.of_keep λb o e=>?_,os,bare⟩
    cases q:H b with
    | none=>exact un.keep b o e q (by intro z; exact absurd (show b∈([]:List Addr) from z) (by simp)) (by simp)
    | some u=>
     rcases hO b with z | ⟨ob,xs,z⟩
     ·rw[q]at z; cases z
     have z2:=un.frzs b ob _ z
     obtain⟨e1,_⟩:=hok b _ z
     obtain⟨e2,_⟩:=hok' b _ z2
     rw[e]at e1; cases e1
     exact e2
 cases hk:K.lookup a with
 | some o=>
  -- the script is one of the module's own objects
  have e:=KX a o hk
  rw[ha]at e
  cases e
  refine core (λ_=>none) (λ_=>.inl rfl) (.inr ⟨_,vs.toArray,_,hk,rfl,rfl,rfl,by rw[size_toArray,lenV]; exact hl,by simpa using rv⟩) (λb u z=>by have z':(none:Option HO)=some u:=z; cases z') (λb z=>absurd rfl z) λz=>absurd rfl z
 | none=>
  refine core (λb=>if b=a then some (.frz { cls:=.type "list",data:=.seq vs.toArray } (.lst (ns.map V.int)))else none) (λb=>?_) (.inl (.inr ⟨{ cls:=.type "list",data:=.seq vs.toArray },if_pos rfl⟩)) (λb u z=>?_) (λb z=>?_) λ_=>hk
  ·by_cases hb:b=a
   ·exact .inr ⟨_,_,if_pos hb⟩
   exact .inl (if_neg hb)
  ·by_cases hb:b=a
   ·have z':=(if_pos hb).symm.trans z
    cases z'
    subst hb
    exact⟨ha,by rw[length_map]; exact hl,vs,_,rv,ha⟩
   have z':=(if_neg hb).symm.trans z
   cases z'
  by_cases hb:b=a
  ·exact hb
  exact absurd (if_neg hb) z
end L2
namespace L2
open PySem PySem.Spec PyProof.Rows
theorem walk_of {l:PySem.W.OpenLaw}{n k:Nat}{q:Program}{loose:List Str}{XP:(Str→Option Value)→Heap→Prop}{YP:World→Heap→Prop}{d:DefRec}{K:Params→W.Frag}{CX:World→CXT}{sp:World→Sp}{x:Str}
  (hn:l.most=some n) (hn2:n≤sizeLine) (hdf:d.params.defaults=[]) (hr:Room k callerA)
  (hY:∀(w:World) (h:Heap),YP w h→(K w.params).In h)
  (F:∀(w:World) (mg:Str→Option Value) (fa:Addr) (h:Heap),(K w.params).In h→h.Ns mainGlobals mg→mg d.name=some (.ref fa) →
   ∃fd:FuncData,(∀(s:Shared) (u:Value),BindsTo s fd ⟨[u],[]⟩ [(x,u)]) ∧
    ∀base:Heap,(K w.params).In base→base.Ns mainGlobals mg→FnOk l.prog w (K w.params) mg base (CX w) k fa fd [x] (sp w))
  (hsp:∀(w:World) (H:Hp) (a:Addr) (ns:List Int),ns.length≤n→Only H→SqL (K w.params) H a (ns.map V.int)→sp w [.ref a] H (λv _=>v=.bl true) λ_ _ _=>False)
  (hCX:∀(w:World) (H:Hp) (s:Shared) (e:Value) (s':Shared),CX w [] H s (λ_ _ _=>False) e s'→False) :
  PySem.W.WalkO q loose XP YP l.row.toRowW d [] (λf vs=>PySem.call f vs):=by
 refine Att.attach_call hn hdf λw s₀ s₁ mg mb fa o pm cd doc a vs ns G Y ho hd hcd hmg hobj hints hlen hg=>?_
 have KX:=hY w _ Y
 obtain⟨fd,hb,hF⟩:=F w mg fa _ KX G.T.g hmg
 exact law_call KX G.T.g G.T.b G.T.builtins G.T.nolimit hg hobj hints (le_trans hlen hn2) hr hF hb (λH hO hS=>hsp w H a ns hlen hO hS) λH e s'=>hCX w H s₁ e s'
end L2
namespace L2
open PySem PySem.Spec PyProof.Rows
noncomputable def Zbt (s:Stmt) (j:Nat):Stmt:=match s with
 | .ClassDef _ _ _ body _ _ _ _ _ _ _=>body.getD j (.Pass ⟨0,0,0,0⟩)
 | _=>.Pass ⟨0,0,0,0⟩
noncomputable def Zal (s:Stmt):Arguments:=match s with
 | .FunctionDef _ a _ _ _ _ _ _ _ _=>a
 | _=>{ posonlyargs:=[],args:=[],vararg:=none,kwonlyargs:=[],kw_defaults:=[],kwarg:=none,defaults:=[] }
noncomputable def Zak (s:Stmt):List Stmt:=match s with
 | .FunctionDef _ _ b _ _ _ _ _ _ _=>b
 | _=>[]
noncomputable def Zab (s:Stmt):Scope:=match s with
 | .FunctionDef _ _ _ _ _ _ sc _ _ _=>sc
 | _=>{ kind:=.function,names:=[],isGenerator:=false,isCoroutine:=false }
noncomputable abbrev CX0:CXT:=λ_ _ _ _ _ _=>False
noncomputable abbrev E0:XK:=λ_ _ _=>False
theorem Zap {X:Cx}:Zdu CX0 X E0:=λ_ _ _ _ _ _ _ h=>h.elim
structure Fun (K:W.Frag) (x qual:Str) (st:Stmt) (f:Addr) (fd:FuncData):Prop where
 ex:∃(oc:Value) (od:Option Addr) (kV doc pm:Value) (an:Option Addr) (cdv ct:Value) (osl:Array (Option Value)),
  fd=PySem.W.fnOf x qual (Zal st) (Zak st) (Zab st) .none kV doc pm an cdv ct∧K.lookup f=some ⟨oc,od,.func fd,osl⟩∧PySem.W.codeIn K cdv qual=true
 kp:PySem.W.keepIn K (.ref f)=true
section
variable {P:Program}{w:World}{K:W.Frag}{mg:Str→Option Value}{base:Heap}
theorem Fun.ok {x qual:Str}{st:Stmt}{f:Addr}{fd:FuncData}{N ps:List Str}{k:Nat}{sp:Sp}(F:Fun K x qual st f fd) (S:FnScope N ps (Zab st)) (len:∀vs H Q E,sp vs H Q E→vs.length=ps.length)
  (hbody:∀(cdv:Value) (A:Around) (outer:List Env) (s:Shared) (H:Hp) (vs:List V) (Q:VK) (E:XK),Room k (A.deeper (envOfC qual (Zab st) s.heap.objs.size f cdv))→sp vs H Q E →
   ∃t,PSs (cxOf CX0 P w K mg base N qual (Zab st) f cdv A outer s H E).nox (Zak st) t∧t { nx:=λ_ H'=>Q .non H',rt:=Q } (Zgx N vs) H):FnOk P w K mg base CX0 (k + 1) f fd ps sp:=by
 obtain⟨oc,od,kV,doc,pm,an,cdv,ct,osl,rfl,lk,hcd⟩:=F.ex
 refine Znb lk hcd S len λA outer s H vs Q E hr hsp=>?_
 obtain⟨t,h,q⟩:=hbody cdv A outer s H vs Q E hr hsp
 exact⟨t,h.nox,q⟩
theorem Fun.binds {x qual:Str}{st:Stmt}{f:Addr}{fd:FuncData}{ps:List Str}(F:Fun K x qual st f fd)
  (h:∀(kV doc pm:Value) (an:Option Addr) (cdv ct:Value) (us:List Value),us.length=ps.length→bindArgs (PySem.W.fnOf x qual (Zal st) (Zak st) (Zab st) .none kV doc pm an cdv ct) ⟨us,[]⟩=pure (ps.zip us)):Binds K fd ps []:=by
 obtain⟨oc,od,kV,doc,pm,an,cdv,ct,osl,rfl,lk,hcd⟩:=F.ex
 exact .all (h kV doc pm an cdv ct)
theorem Zaq {x qual:Str}{st:Stmt}{f:Addr}{oc:Value}{od an:Option Addr}{osl:Array (Option Value)}{kV doc pm cdv ct:Value}(l:K.lookup f=some ⟨oc,od,.func (PySem.W.fnOf x qual (Zal st) (Zak st) (Zab st) .none kV doc pm an cdv ct),osl⟩)
  (c:PySem.W.codeIn K cdv qual=true) (k:PySem.W.keepIn K (.ref f)=true):Fun K x qual st f (PySem.W.fnOf x qual (Zal st) (Zak st) (Zab st) .none kV doc pm an cdv ct):=⟨⟨oc,od,kV,doc,pm,an,cdv,ct,osl,rfl,l,c⟩,k⟩
end
theorem Zdr {A:Around}{k:Nat}(hr:Room k A):A.units + 1 < cLine:=lt_of_le_of_lt (Nat.add_le_add_left (by decide:1≤64) _) hr.units
section
variable {X:Cx}
theorem pv (i:Nat) {x:Str}{pos:Pos}(hN:X.N[i]? = some x:=by rfl) (hv:Vis X.env.scope x:=by first | exact Or.inl rfl | exact Or.inr (Or.inl rfl) | exact Or.inr (Or.inr rfl)) (hd:(x == ("__debug__" : Str))=false:=by decide)
  (hcd:(x == ("__classdict__" : Str))=false:=by decide):PE X (.Name x pos) (tVar i):=pe_var hN hv hd hcd
theorem call_lenD:Zcy X (.builtin "len") (λxs H Q=>∃a kvs,xs=[V.ref a]∧H a=some (.dK kvs)∧Q (.int kvs.length) H):=by
 intro pins s σ H xs us Q I r h
 obtain⟨a,kvs,rfl,ha,q⟩:=h
 obtain⟨u,rfl,ru⟩:=Zdd r
 cases ru
 exact d_len I (.inl ha) λt s' I'=>⟨.int kvs.length,H,I',⟨t,rfl⟩,q⟩
end
theorem iteF {A B:Prop}(h:B):if false=true then A else B:=by
 rw[if_neg Bool.false_ne_true]
 exact h
theorem iteT {A B:Prop}(h:A):if true=true then A else B:=by
 rw[if_pos rfl]
 exact h
theorem ite2 {c A B:Prop} [Decidable c] (h1:c→A) (h2:¬c→B):if c then A else B:=by
 by_cases h:c
 ·rw[if_pos h]
  exact h1 h
 rw[if_neg h]
 exact h2 h
noncomputable def Same (H H':Hp):Prop:=∀b o,H b=some o→H' b=some o
theorem Same.refl (H:Hp):Same H H:=λ_ _ h=>h
theorem Same.trans {H H1 H2:Hp}(a:Same H H1) (b:Same H1 H2):Same H H2:=λc o h=>b c o (a c o h)
theorem Same.free {H H':Hp}(e:Same H H') {l:Addr}(h:H' l=Option.none):H l=Option.none:=by
 cases q:H l with
 | none=>rfl
 | some o=>
  rw[e l o q]at h
  cases h
theorem Same.seq {K:W.Frag}{H H':Hp}{a:Addr}{xs:List V}(e:Same H H') (h:SqL K H a xs):SqL K H' a xs:=by
 rcases h with(h | ⟨o,h⟩) | h
 ·exact .inl (.inl (e _ _ h))
 ·exact .inl (.inr ⟨o,e _ _ h⟩)
 exact .inr h
section
variable {κ:Type} [DecidableEq κ]
theorem Zgh {kvs:List (κ×V)}{k:κ}(h:valV kvs k=none):¬k∈kvs.map (·.1):=by
 intro m
 obtain⟨p,hp,e⟩:=mem_map.mp m
 have q:(kvs.any λkv=>decide (kv.1=k))=true:=any_eq_true.mpr ⟨p,hp,decide_eq_true e⟩
 rw[Zci,h]at q
 exact absurd q (by simp)
theorem Zhx {kvs:List (κ×V)}{k:κ}{v:V}(h:valV kvs k=some v):k∈kvs.map (·.1):=by
 have q:(kvs.any λkv=>decide (kv.1=k))=true:=by
  rw[Zci,h]
  all_goals rfl
 obtain⟨p,hp,e⟩:=any_eq_true.mp q
 exact mem_map.mpr ⟨p,hp,of_decide_eq_true e⟩
theorem Zil:∀{l:List κ}{k:κ},l.Nodup→¬k∈l→(l ++ [k]).Nodup
 | [],k,_,_=>by simp
 | a :: r,k,h,hk=>by
  obtain⟨h1,h2⟩:=nodup_cons.mp h
  show(a :: (r ++ [k])).Nodup
  refine nodup_cons.mpr ⟨λm=>?_,Zil h2 λm=>hk (mem_cons.mpr (Or.inr m))⟩
  rcases(mem_append.mp m)with q | q
  ·exact h1 q
  exact hk (mem_cons.mpr (Or.inl (mem_singleton.mp q).symm))
end
end L2
namespace L2
open PySem PySem.Spec PyProof.Rows
noncomputable def clos (cells:List (Str×Addr)):List (Str×NameKind)→List (Str×Addr)→List (Str×Addr)
 | [],cs=>cs
 | (n,k) :: r,cs=>clos cells r (if k == NameKind.free then(n,(cells.lookup n).getD 0) :: cs else cs)
theorem Zmy {env:Env}:∀(ns:List (Str×NameKind)) (cs:List (Str×Addr)),(∀y∈ns,y.2=NameKind.free→(env.cells.lookup y.1).isSome=true) →
  (forIn ns cs λ(p:Str×NameKind) (r:List (Str×Addr))=>
   if (p.2 == NameKind.free)=true then(do let a ← cellOf env p.1; pure (ForInStep.yield ((p.1,a) :: r)):Sem _)else pure (ForInStep.yield r))=(pure (clos env.cells ns cs):Sem _)
 | [],cs,_=>by simp[clos]
 | (n,k) :: r,cs,h=>by
  have ih:=λcs'=>Zmy r cs' λy hy=>h y (mem_cons_of_mem _ hy)
  rw[List.forIn_cons]
  by_cases hk:k=NameKind.free
  ·subst hk
   have hs:=h (n,NameKind.free) mem_cons_self rfl
   cases e:env.cells.lookup n with
   | none=>rw[e]at hs; cases hs
   | some c=>
    have e1:cellOf env n=pure c:=by unfold cellOf; rw[e]
    have e2:clos env.cells ((n,NameKind.free) :: r) cs=clos env.cells r ((n,c) :: cs):=by simp[clos,e]
    rw[e2,← ih ((n,c) :: cs)]
    (simp only[beq_self_eq_true,if_true])
    rw[e1]
    rfl
  have hb:(k == NameKind.free)=false:=by simpa using hk
  have e2:clos env.cells ((n,k) :: r) cs=clos env.cells r cs:=by simp[clos,hb]
  rw[e2,← ih cs]
  (simp only[hb,false_eq_true,if_false])
  rfl
theorem Zfa {scope:Scope}{env:Env}(h:∀y∈scope.names,y.2=NameKind.free→(env.cells.lookup y.1).isSome=true):closureFor scope env=pure (clos env.cells scope.names []):=by
 have e:=Zmy (env:=env) scope.names [] h
 unfold closureFor
 simp only[bind_pure]
 exact e
theorem Zli {cells:List (Str×Addr)}{x:Str}{c:Addr}:∀{ns:List (Str×NameKind)}{cs:List (Str×Addr)},(∀y∈ns,y.2=NameKind.free→(cells.lookup y.1).isSome=true)→(cs.lookup x=some c→cells.lookup x=some c) →
  (clos cells ns cs).lookup x=some c→cells.lookup x=some c
 | [],_,_,h,e=>h e
 | (n,k) :: r,cs,hn,h,e=>by
  refine Zli (ns:=r) (λy hy=>hn y (mem_cons_of_mem _ hy)) ?_ e
  by_cases hk:k=NameKind.free
  ·subst hk
   (simp only[beq_self_eq_true,if_true])
   intro q
   rw[lookup_cons]at q
   by_cases hx:x=n
   ·subst hx
    have hs:=hn (x,NameKind.free) mem_cons_self rfl
    simp only[beq_self_eq_true]at q
    cases e1:cells.lookup x with
    | none=>rw[e1]at hs; cases hs
    | some d=>rw[e1]at q; exact q
   have hb:(x == n)=false:=by simpa using hx
   rw[hb]at q
   exact h q
  have hb:(k == NameKind.free)=false:=by simpa using hk
  (simp only[hb,false_eq_true,if_false])
  exact h
theorem Zjw {cells:List (Str×Addr)}{x:Str}:∀{ns:List (Str×NameKind)}{cs:List (Str×Addr)},(cs.lookup x).isSome=true→((clos cells ns cs).lookup x).isSome=true
 | [],_,h=>h
 | (n,k) :: r,cs,h=>by
  refine Zjw (ns:=r) ?_
  split
  ·rw[lookup_cons]
   split
   ·rfl
   exact h
  exact h
theorem Ziv {cells:List (Str×Addr)}{x:Str}:∀{ns:List (Str×NameKind)}{cs:List (Str×Addr)},(x,NameKind.free)∈ns→((clos cells ns cs).lookup x).isSome=true
 | [],_,h=>nomatch h
 | (n,k) :: r,cs,h=>by
  rcases(mem_cons.mp h)with e | e
  ·cases e
   refine Zjw (ns:=r) ?_
   simp
  exact Ziv (ns:=r) e
theorem Zef {env:Env}{x:Str}{k:NameKind}:∀{ns:List (Str×NameKind)},(∀y∈ns,y.2≠NameKind.cell)→k=NameKind.cell∨k=NameKind.free →
  (ns.map λ(p:Str×NameKind)=>if (p.2 == NameKind.free && env.scope.kind == .function && env.kindOf p.1 == some .cell)then(p.1,NameKind.cell)else(p.1,p.2)).lookup x=some k→(x,NameKind.free)∈ns
 | [],_,_,e=>by simp at e
 | (n,j) :: r,hn,hk,e=>by
  rw[map_cons]at e
  by_cases hx:x=n
  ·subst hx
   have hj:j=NameKind.free:=by
    by_cases hc:(j == NameKind.free && env.scope.kind == .function && env.kindOf x == some .cell)=true
    ·simp only[and_eq_true,beq_iff_eq]at hc
     exact hc.1.1
    simp only[hc]at e
    simp at e
    subst e
    rcases hk with q | q
    ·exact absurd q (hn (x,j) mem_cons_self)
    exact q
   subst hj
   exact mem_cons_self
  refine mem_cons_of_mem _ (Zef (env:=env) (λy hy=>hn y (mem_cons_of_mem _ hy)) hk ?_)
  by_cases hc:(j == NameKind.free && env.scope.kind == .function && env.kindOf n == some .cell)=true
  ·simp only[hc,if_true]at e
   rw[lookup_cons]at e
   have hb:(x == n)=false:=by simpa using hx
   rw[hb]at e
   exact e
  simp only[hc]at e
  simp at e
  rw[lookup_cons]at e
  have hb:(x == n)=false:=by simpa using hx
  rw[hb]at e
  simpa using e
noncomputable def lcCx (X:Cx) (N:List Str) (scope:Scope) (C:Addr) (s:Shared) (H:Hp) (fp:List Addr):Cx where
 prog:=X.prog
 w:=X.w
 K:=X.K
 mg:=X.mg
 base:=X.base
 A:=X.A
 N:=N
 s₀:=s
 H₀:=H
 env:=compEnvC scope (clos X.env.cells scope.names []) C X.env
 outer:=X.stack
 stack:=X.stack
 ex:=fp
 fn:=λ_=>false
 calm:=X.calm
 pn:=[]
 xe:=λ_ _=>False
noncomputable def caps (n:Nat) (js:List Nat) (σ:St):St:=replicate n none ++ js.map λj=>(σ[j]?).getD none
structure LcOk (X:Cx) (N:List Str) (sc scope:Scope) (own:List Str) (fr:List Str) (js:List Nat):Prop where
 around:X.env.scope=sc
 names:N=own ++ fr
 kind:scope.kind=.function
 okind:sc.kind=.function
 nocell:∀y∈scope.names,y.2≠NameKind.cell
 free:∀y∈scope.names,y.2=NameKind.free→sc.names.lookup y.1=some NameKind.cell
 loc:∀y∈scope.names,y.2=NameKind.local→scope.names.lookup y.1=some NameKind.local
 at':js.map (λj=>X.N[j]?)=fr.map some
 cap:∀x∈fr,sc.names.lookup x=some NameKind.cell∧scope.names.lookup x=some NameKind.free
theorem Zhl {env:Env}{x:Str}(hk:env.scope.kind=.function) (hx:env.kindOf x=some NameKind.cell):∀{ns:List (Str×NameKind)},ns.lookup x=some NameKind.free →
  (ns.map λ(p:Str×NameKind)=>if (p.2 == NameKind.free && env.scope.kind == .function && env.kindOf p.1 == some .cell)then(p.1,NameKind.cell)else(p.1,p.2)).lookup x=some NameKind.cell
 | [],e=>by simp at e
 | (n,j) :: r,e=>by
  rw[map_cons]
  rw[lookup_cons]at e
  by_cases hn:x=n
  ·subst hn
   simp only[beq_self_eq_true]at e
   cases e
   have hc:(NameKind.free == NameKind.free && env.scope.kind == .function && env.kindOf x == some .cell)=true:=by rw[hk,hx]; rfl
   simp only[hc,if_true]
   rw[lookup_cons]
   simp
  have hb:(x == n)=false:=by simpa using hn
  rw[hb]at e
  have ih:=Zhl hk hx (ns:=r) e
  by_cases hc:(j == NameKind.free && env.scope.kind == .function && env.kindOf n == some .cell)=true
  ·simp only[hc,if_true]
   rw[lookup_cons,hb]
   exact ih
  rw[if_neg hc,lookup_cons,hb]
  exact ih
theorem LcOk.cellAt {X:Cx}{N:List Str}{sc scope:Scope}{own fr:List Str}{js:List Nat}(L:LcOk X N sc scope own fr js) (ok:X.Ok):∀y∈scope.names,y.2=NameKind.free→(X.env.cells.lookup y.1).isSome=true:=λy hy hf=>by
 obtain⟨c,e⟩:=ok.has y.1 (.inl (show X.env.scope.names.lookup y.1=_ by rw[L.around]; exact L.free y hy hf))
 rw[e]
 rfl
theorem LcOk.sub {X:Cx}{N:List Str}{sc scope:Scope}{own fr:List Str}{js:List Nat}(L:LcOk X N sc scope own fr js) (ok:X.Ok) {x:Str}{c:Addr}(e:(clos X.env.cells scope.names []).lookup x=some c):X.env.cells.lookup x=some c:=
 Zli (L.cellAt ok) (λz=>by simp at z) e
theorem LcOk.len {X:Cx}{N:List Str}{sc scope:Scope}{own fr:List Str}{js:List Nat}(L:LcOk X N sc scope own fr js):js.length=fr.length:=by
 have:=congrArg List.length L.at'
 simpa using this
theorem lc_ctx {X:Cx}{N:List Str}{sc scope:Scope}{own fr:List Str}{js:List Nat}{pins:List (Addr×Obj)}{σ:St}{H:Hp}{s:Shared}{fp:List Addr}(L:LcOk X N sc scope own fr js) (I:Inv X pins σ H s) (hf:∀b∈fp,FpOk X pins H b)
  (ho:∀b∈fp,b < s.heap.objs.size) {C:Addr}(hC:s.heap.objs.size≤C):(lcCx X N scope C s H fp).Ok where
 mod:=I.mod
 kind:=L.kind
 glob:=I.ok.glob
 blt:=I.ok.blt
 above:=hC
 inj:=λx y c e1 e2=>I.ok.inj x y c (L.sub I.ok e1) (L.sub I.ok e2)
 has:=λx hx=>by
  have hm:(x,NameKind.free)∈scope.names:=by
   rcases hx with q | q
   ·exact Zef L.nocell (.inl rfl) q
   exact Zef L.nocell (.inr rfl) q
  have:=Ziv (cells:=X.env.cells) (cs:=[]) hm
  cases e:(clos X.env.cells scope.names []).lookup x with
  | none=>rw[e]at this; cases this
  | some c=>exact⟨c,e⟩
 cab:=λ_ _ z _=>nomatch z
 hd:=I.ok.hd
 frames:=I.ok.frames
 stk:=.inl rfl
 exf:=λb hb=>⟨ne_of_lt (lt_of_lt_of_le (ho b hb) hC),λx c e=>(hf b hb).2.2.2.2.1 x c (L.sub I.ok e)⟩
 bs:=I.bs
 bsz:=le_trans I.ok.bsz I.sz
 noex:=λb o e hb=>by
  rcases(hf b hb).2.2.2.1 with q | q
  ·exact I.ok.noex b o e q
  exact absurd (lt_of_lt_of_le (Heap.lt_size (I.ok.bs b o e).1) q) (lt_irrefl _)
 exfs:=λb hb hs=>by
  rcases mem_cons.mp (I.stkSub b hs)with q | q
  ·exact(hf b hb).2.1 q
  exact(hf b hb).2.2.1 q
 funs:=I.stack
 frf:=I.stkFree
theorem getD_none {o:Option (Option V)}{v:V}(h:o.getD none=some v):o=some (some v):=by
 cases o with
 | none=>cases h
 | some u=>cases u with
  | none=>cases h
  | some w=>cases h; rfl
theorem caps_get {n:Nat}{js:List Nat}{σ:St}{i:Nat}{v:V}(e:(caps n js σ)[i]? = some (some v)):∃k j,i=n + k∧js[k]? = some j∧σ[j]? = some (some v):=by
 unfold caps at e
 by_cases hi:i < n
 ·rw[getElem?_append_left (by simpa using hi)]at e
  rw[getElem?_replicate]at e
  split at e <;> cases e
 rw[getElem?_append_right (by simpa using hi)]at e
 simp only[length_replicate,getElem?_map]at e
 cases q:js[i - n]? with
 | none=>rw[q]at e; cases e
 | some j=>
  rw[q]at e
  exact⟨i - n,j,by lia,q,getD_none (Option.some.inj e)⟩
theorem lc_start {X:Cx}{N:List Str}{sc scope:Scope}{own fr:List Str}{js:List Nat}{pins:List (Addr×Obj)}{σ:St}{H:Hp}{s:Shared}{fp:List Addr}(L:LcOk X N sc scope own fr js) (I:Inv X pins σ H s) (hf:∀b∈fp,FpOk X pins H b)
  (ho:∀b∈fp,b < s.heap.objs.size) {h':Heap}{m:Str→Option Value}{tk:Nat}(hn:h'.Ns (s.heap.objs.size + 1) m) (hk:∀b o,s.heap.get? b=some o→h'.get? b=some o)
  (hl:h'.get? s.heap.objs.size=some { cls:=.type "list",data:=.seq ([]:List Value).toArray }) :
  Inv (lcCx X N scope (s.heap.objs.size + 1) s H fp) [] (caps own.length js σ) (upd H s.heap.objs.size (.lst [])) { s with heap:=h',toks:=tk }:=by
 have fresh:∀a,s.heap.objs.size≤a→H a=none:=λa ha=>I.hok.fresh ha
 have cellAt:∀x c,(clos X.env.cells scope.names []).lookup x=some c→∃v,s.heap.IsCell c v:=λx c e=>I.cell x c (L.sub I.ok e)
 refine⟨lc_ctx L I hf ho (le_succ _),rfl,I.bare,Un.laid hk (Nat.le_refl _) (fresh _ (Nat.le_refl _)),⟨m,hn,λi x v e1 e2 e3=>?_⟩,λx c e=>?_,?_,λx c e=>?_,λp hp=>?_,I.hok.laid hk (Nat.le_refl _) ?_,?_⟩
 ·obtain⟨k,j,rfl,hj,hv⟩:=caps_get e2
  have hN:(own ++ fr)[own.length + k]? = some x:=by
   have e1':N[own.length + k]? = some x:=e1
   rw[L.names]at e1'
   exact e1'
  rw[getElem?_append_right (by lia),Nat.add_sub_cancel_left]at hN
  have hx:x∈fr:=mem_of_getElem? hN
  have hjx:X.N[j]? = some x:=by
   have:=congrArg (λl=>l[k]?) L.at'
   simp only[getElem?_map,hj,hN,map_some]at this
   exact Option.some.inj this
  obtain⟨kc',kr'⟩:=L.cap x hx
  have kc:X.env.kindOf x=some NameKind.cell:=by show X.env.scope.names.lookup x=_; rw[L.around]; exact kc'
  have kr:(relabel scope X.env).names.lookup x=some NameKind.cell:=Zhl (by rw[L.around]; exact L.okind) kc kr'
  obtain⟨m0,_,hl0⟩:=I.loc
  obtain⟨u,r,l⟩:=hl0 j x v hjx hv (.inr (.inl kc))
  refine⟨u,r,.inr ⟨.inl kr,?_⟩⟩
  rcases l with⟨kk,_⟩ | ⟨_,c,hc,z⟩
  ·rw[kc]at kk; cases kk
  have hs:((clos X.env.cells scope.names []).lookup x).isSome=true:=Ziv (Zef L.nocell (.inl rfl) kr)
  cases e:(clos X.env.cells scope.names []).lookup x with
  | none=>rw[e]at hs; cases hs
  | some d=>
   have ed:=L.sub I.ok e
   rw[hc]at ed
   cases ed
   obtain⟨o,ho',hd⟩:=z
   exact⟨c,e,o,hk c o ho',hd⟩
 ·obtain⟨v,o,ho',hd⟩:=cellAt x c e
  exact⟨v,o,hk c o ho',hd⟩
 ·show upd H s.heap.objs.size _ (s.heap.objs.size + 1)=none
  rw[Zaj (Nat.succ_ne_self _)]
  exact fresh _ (le_succ _)
 ·obtain⟨v,o,ho',hd⟩:=cellAt x c e
  rw[Zaj (ne_of_lt (Heap.lt_size ho'))]
  exact I.freeC x c (L.sub I.ok e)
 ·exact nomatch hp
 ·exact⟨zero_le _,[],0,.nil,hl⟩
 show(caps own.length js σ).length=N.length
 rw[L.names]
 simp[caps,L.len]
noncomputable def PIf (X:Cx) (ifs:List Expr) (t:TT):Prop:=
 ∀(pins:List (Addr×Obj)) (s:Shared) (σ:St) (H:Hp) (Q:Bool→Hp→Prop),Inv X pins σ H s→t σ H Q →
  wpAny (model X.prog X.w) X.A (forIn ifs true λc r=>if r=true then do let ok ← isTrue c X.env (eval c X.env); pure (ForInStep.yield ok)else pure (ForInStep.yield r)) (TP X pins σ Q) X.xe s
noncomputable def tYes:TT:=λ_ H Q=>Q true H
theorem Zbs {X:Cx}:PIf X [] tYes:=λ_ _ _ H _ I h=>wpAny_tests_nil ⟨H,I,h⟩
theorem Zet {X:Cx}{c:Expr}{t:TT}(h:PT X c t):PIf X [c] t:=λpins s σ H Q I q=>wpAny_tests_one (h pins s σ H Q I q)
theorem lc_loop {prog:Program}{w:World}{A:Around}{R:Result→Shared→Prop}{s:Shared}{elt tg iter:Expr}{ifs:List Expr}{scope:Scope}{pos:Pos}{it acc:Value}{env:Env}(J:Nat→Shared→Prop)
  (turn:∀n s,J n s→wpAny (model prog w) A (pyNext it) (λr s1=>match r with
   | none=>R (.ok .next) s1
   | some v=>wpAny (model prog w) A (letOwnedTupleGo tg it v) (λ_ s2=>wpAny (model prog w) A (assign tg env v) (λ_ s3=>
     wpAny (model prog w) A (forIn ifs true λc r=>if r=true then do let ok ← isTrue c env (eval c env); pure (ForInStep.yield ok)else pure (ForInStep.yield r)) (λok s4=>
      if ok=true then wpAny (model prog w) A (eval elt env) (λx s5=>wpAny (model prog w) A (call (.builtin "list.append") [acc,x]) (λ_ s6=>∃m,m < n∧J m s6) (λ_ _=>False) s5) (λ_ _=>False) s4
      else ∃m,m < n∧J m s4) (λ_ _=>False) s3) (λ_ _=>False) s2) (λ_ _=>False) s1) (λ_ _=>False) s)
  (n:Nat) (h:J n s):codeAny (model prog w) A (.compLoop (.ListComp elt [⟨tg,iter,ifs,0⟩] scope pos) 0 it acc env) R s:=by
 refine codeAny_loop rfl J (λn s hJ=>?_) n h
 show wpAny _ A ((compTurn (.ListComp elt [⟨tg,iter,ifs,0⟩] scope pos) 0 it acc env).onRaise (λx=>do noteFrame x env; theTreesLotGoes x)) _ _ s
 refine wpAny_noted ?_
 rw[compTurn_list]
 refine wpAny_bind (wpAny_standAt (wpAny_bind (wpAny_mono (turn n s hJ) (λr s1 h1=>?_) λ_ _ f=>f.elim)))
 cases r with
 | none=>exact wpAny_pure h1
 | some v=>
  refine wpAny_bind (wpAny_mono h1 (λ_ s2 h2=>wpAny_bind (wpAny_mono h2 (λ_ s3 h3=>wpAny_bind (wpAny_mono h3 (λok s4 h4=>?_) λ_ _ f=>f.elim)) λ_ _ f=>f.elim)) λ_ _ f=>f.elim)
  cases ok with
  | false=>exact wpAny_pure ⟨rfl,h4⟩
  | true=>
   exact wpAny_bind (wpAny_bind (wpAny_mono h4 (λx s5 h5=>wpAny_bind (wpAny_mono h5 (λ_ s6 h6=>wpAny_pure (wpAny_pure ⟨rfl,h6⟩)) λ_ _ f=>f.elim)) λ_ _ f=>f.elim))
noncomputable def tLcB (J:It) (D:Addr) (σ0:St) (g:TG) (tc:TT) (te:TE) (fin:Hp→Prop) (W:Nat→Nat→List V→Hp→Prop):Prop:=
 ∀i m ys H,W i m ys H→(J.stop i H∧fin H)∨(J.go i H∧∃N:List V→Hp→Prop,(∀ys' H',N ys' H'→∃m',m' < m∧W (i + 1) m' ys' H') ∧
  ∀x H1,J.yld i H x H1→g x σ0 H1 λσ2 H2=>(σ2.length=σ0.length∧∀(i:Nat) v,σ0[i]? = some (some v)→σ2[i]? = some (some v)) ∧
   tc σ2 H2 λb H3=>if b=true then te σ2 H3 λy H4=>∃zs,H4 D=some (.lst zs)∧zs.length < sizeLine∧N (zs ++ [y]) (upd H4 D (.lst (zs ++ [y])))else N ys H3)
theorem Zk6 {X:Cx}{N:List Str}{sc scope:Scope}{own fr:List Str}{js:List Nat}{pins:List (Addr×Obj)}{σ:St}{H:Hp}{s:Shared}{fp:List Addr}{tg iter elt:Expr}{ifs:List Expr}{pos:Pos}{J:It}{it:Addr}{tn:Nat→Heap→Prop}
  {g:TG}{tc:TT}{te:TE}{RR:Value→Addr→Result→Shared→Prop}{E:Value→Shared→Prop}{fin:Addr→Hp→Prop}
  (L:LcOk X N sc scope own fr js) (hc:X.calm=true) (I:Inv X pins σ H s) (T:Turn X.prog X.w X.K tg J fp it tn) (st:tn 0 s.heap) (hf:∀b∈fp,FpOk X pins H b)
  (hg:∀C s H fp,PG (lcCx X N scope C s H fp) tg g) (hi:∀C s H fp,PIf (lcCx X N scope C s H fp) ifs tc) (he:∀C s H fp,PE (lcCx X N scope C s H fp) elt te)
  (h:∀D,H D=none→∃W:Nat→Nat→List V→Hp→Prop,(∃m,W 0 m [] (upd H D (.lst [])))∧tLcB J D (caps own.length js σ) g tc te (fin D) W)
  (hRR:∀D C s' H',(∃m,s'.heap.Ns C m)→Inv X pins σ H' s'→FpOk X pins H' C→fin D H'→RR (.ref D) C (.ok .next) s') :
  wpAny (model X.prog X.w) X.A (newList []) (λacc s3=>wpAny (model X.prog X.w) X.A (newFunctionEnv scope X.env.globals (clos X.env.cells scope.names []) [] X.env.qual none .none (some X.env)) (λcenv s4=>
   codeAny (model X.prog X.w) X.A (.compStart (.ListComp elt [⟨tg,iter,ifs,0⟩] scope pos) 0 (.ref it) acc { cenv with scope:=relabel scope X.env }) (RR acc cenv.locals) s4) E s3) E s:=by
 have hlt:∀b∈fp,b < s.heap.objs.size:=λb hb=>by
  obtain⟨o,e,_⟩:=T.obj 0 _ st b hb
  exact Heap.lt_size e
 refine wpAny_newObj_type (wpAny_newFunctionEnv L.nocell (λ_ z=>nomatch z) (λh1 n1 b1=>?_) L.kind)
 dsimp only at n1 b1 ⊢
 have hsz:(s.heap.push { cls:=.type "list",dict:=none,data:=.seq ([]:List Value).toArray }).objs.size=s.heap.objs.size + 1:=Heap.size_push ..
 rw[hsz]at n1 b1
 rw[hsz]
 have kept:∀b o,s.heap.get? b=some o→h1.get? b=some o:=λb o e=>b1.extBut b o (ne_of_lt (lt_succ_of_lt (Heap.lt_size e))) (Heap.get?_push_of_some _ (Heap.get?_push_of_some _ e))
 have isl:h1.get? s.heap.objs.size=some { cls:=.type "list",data:=.seq ([]:List Value).toArray }:=b1.extBut _ _ (ne_of_lt (lt_succ_self _)) (Heap.get?_push_of_some _ (Heap.get?_push_size _ rfl))
 have IY:=lc_start (tk:=s.toks + ([]:List (Str×Value)).length) L I hf hlt n1 kept isl
 have fresh:H s.heap.objs.size=none:=I.hok.fresh (Nat.le_refl _)
 obtain⟨W,⟨m0,w0⟩,turn⟩:=h s.heap.objs.size fresh
 -- the iterator's records through the loop
 have stat:∀{H':Hp},(∀b∈fp,H' b=none)→∀b∈fp,FpOk (lcCx X N scope (s.heap.objs.size + 1) s H fp) [] H' b:=λhn b hb=>
  ⟨hn b hb,ne_of_lt (lt_succ_of_lt (hlt b hb)),λz=>by
   rcases mem_cons.mp (I.stkSub b z)with q | q
   ·exact(hf b hb).2.1 q
   exact(hf b hb).2.2.1 q,.inl hb,λx c e=>(hf b hb).2.2.2.2.1 x c (L.sub I.ok e),λ_ z=>nomatch z⟩
 have st1:tn 0 h1:=T.keep 0 _ _ st λb _ o e=>kept b o e
 have loop:∀s2:Shared,s2={ s with heap:=h1,toks:=s.toks + ([]:List (Str×Value)).length } →
   codeAny (model X.prog X.w) X.A (.compLoop (.ListComp elt [⟨tg,iter,ifs,0⟩] scope pos) 0 (.ref it) (.ref s.heap.objs.size) (lcCx X N scope (s.heap.objs.size + 1) s H fp).env) (RR (.ref s.heap.objs.size) (s.heap.objs.size + 1)) s2:=by
  rintro s2 rfl
  refine lc_loop (λn s'=>∃i ys H',Inv (lcCx X N scope (s.heap.objs.size + 1) s H fp) [] (caps own.length js σ) H' s'∧tn i s'.heap∧(∀b∈fp,H' b=none)∧W i n ys H') ?_ m0
   ⟨0,[],_,IY,st1,λb hb=>by rw[Zaj (ne_of_lt (hlt b hb))]; exact(hf b hb).1,w0⟩
  rintro n s3 ⟨i,ys,H3,I3,st3,fr3,w3⟩
  rcases turn i n ys H3 w3 with⟨stop,qn⟩ | ⟨go,Nx,hN,step⟩
  ·refine thn (T.done (lcCx X N scope (s.heap.objs.size + 1) s H fp) rfl rfl rfl hc i [] s3 _ H3 _ I3 (stat fr3) st3 stop) λr s4 hp0=>?_
   obtain⟨hr,I4⟩:=hp0
   subst hr
   have IX:Inv X pins σ H3 s4:=I.call' (ch:=fp) I4.os I4.base I4.hok I4.bare λb hb=>⟨(hf b hb).2.2.2.1,(hf b hb).2.1,(hf b hb).2.2.2.2.1,(hf b hb).2.2.2.2.2⟩
   obtain⟨m,hm,_⟩:=I4.loc
   exact hRR _ _ s4 H3 ⟨m,hm⟩ IX (I.fpOk (le_succ _) I4.free) qn
  refine thn (T.item (lcCx X N scope (s.heap.objs.size + 1) s H fp) rfl rfl rfl hc i [] s3 _ H3 _ I3 (stat fr3) st3 go) λr s4 hp0=>?_
  obtain⟨u,hr,h4⟩:=hp0
  subst hr
  refine thn h4 λ_ s5 hp0=>?_
  obtain⟨x,H5,I5,r5,y5,st5,fr5⟩:=hp0
  have I5':=I5.pinned (stat fr5) (T.obj _ _ st5)
  refine thn (hg _ _ _ _ _ s5 _ H5 x u _ I5' r5 (step x H5 y5)) λ_ s6 hp0=>?_
  obtain⟨σ6,H6,I6,⟨hl6,hs6⟩,q6⟩:=hp0
  have next:∀{s7:Shared}{H7:Hp}{zs:List V},Inv (lcCx X N scope (s.heap.objs.size + 1) s H fp) ([] ++ Zjd fp s5.heap) σ6 H7 s7→Nx zs H7 →
    ∃m,m < n∧∃i ys H',Inv (lcCx X N scope (s.heap.objs.size + 1) s H fp) [] (caps own.length js σ) H' s7∧tn i s7.heap∧(∀b∈fp,H' b=none)∧W i m ys H':=λ{s7 H7 zs} I7 n7=>by
   obtain⟨m',hm,w7⟩:=hN zs H7 n7
   refine⟨m',hm,i + 1,zs,H7,I7.unpinned.weak hl6.symm hs6,T.keep _ _ _ st5 λb hb o e=>(I7.pin (b,o) (mem_append_right _ (mem_append_right _ (Zen hb e)))).1,λb hb=>?_,w7⟩
   obtain⟨o,e,d⟩:=T.obj _ _ st5 b hb
   exact(I7.pin (b,o) (mem_append_right _ (mem_append_right _ (Zen hb e)))).2.1
  refine thn (hi _ _ _ _ _ s6 σ6 H6 _ I6 q6) λok s7 hp0=>?_
  obtain⟨H7,I7,q7⟩:=hp0
  cases ok with
  | false=>
   rw[if_neg Bool.false_ne_true]at q7
   exact next I7 q7
  | true=>
   rw[if_pos rfl]at q7
   rw[if_pos rfl]
   refine thn (he _ _ _ _ _ s7 σ6 H7 _ I7 q7) λy s8 hp0=>?_
   obtain⟨v8,H8,I8,r8,zs,hz,hzl,q8⟩:=hp0
   refine thn (Zbi _ s8 σ6 H8 (.ref s.heap.objs.size) [v8] _ [y] (λ_ H9=>Nx (zs ++ [v8]) H9) I8 rfl (.cons r8 .nil) ⟨_,zs,v8,rfl,rfl,hz,hzl,q8⟩) λ_ s9 hp0=>?_
   obtain⟨_,H9,I9,_,q9⟩:=hp0
   exact next I9 q9
 exact codeAny_compStart_list (loop _ rfl) (T.self X.A 0 _ _ _ st1 (loop _ rfl))
noncomputable def tLc (wi:TI) (n:Nat) (js:List Nat) (g:TG) (tc:TT) (te:TE):TE:=λσ H Q=>wi σ H λJ H1=>∀D,H1 D=none →
 ∃W:Nat→Nat→List V→Hp→Prop,(∃m,W 0 m [] (upd H1 D (.lst [])))∧tLcB J D (caps n js σ) g tc te (λH2=>Q (.ref D) H2) W
theorem Zdv {X:Cx}{N:List Str}{sc scope:Scope}{own fr:List Str}{js:List Nat}{tg iter elt:Expr}{ifs:List Expr}{pos:Pos}{wi:TI}{g:TG}{tc:TT}{te:TE}
  (L:LcOk X N sc scope own fr js) (hc:X.calm=true) (hI:PI X tg iter wi)
  (hg:∀C s H fp,PG (lcCx X N scope C s H fp) tg g) (hi:∀C s H fp,PIf (lcCx X N scope C s H fp) ifs tc) (he:∀C s H fp,PE (lcCx X N scope C s H fp) elt te)
  (hs:∀x,foldedSetIterable iter X.env x=pure x:=by intro _; rfl):PE X (.ListComp elt [⟨tg,iter,ifs,0⟩] scope pos) (tLc wi own.length js g tc te):=by
 intro pins s σ H Q I h
 rw[eval_ListComp]
 refine wpAny_comprehension_free (use:=none) rfl hs (Zfa (L.cellAt I.ok)) L.kind L.loc ?_
 refine thn (hI pins s σ H _ I h) λv s1 h1=>thn h1 λitv s2 h2=>?_
 obtain⟨it,fp,tn,J,H2,e,I2,T,st,f2,q⟩:=h2
 subst e
 refine Zk6 (RR:=λacc C=>compPost (model X.prog X.w) X.A X.xe none (EP X pins σ Q) acc C) (fin:=λD H'=>Q (.ref D) H') L hc I2 T st f2 hg hi he q ?_
 intro D C s' H' hm IX fC q'
 obtain⟨m,hm⟩:=hm
 obtain⟨f0,f1,_,f3,f4,f5⟩:=fC
 exact⟨m,hm,λh' sb=>⟨.ref D,H',IX.turned (t':=s'.toks) (λb o hb e=>(sb.2 b hb).trans e) f0 f1 f3 f4 f5,rfl,q'⟩⟩
noncomputable def tLcS (i:Nat) (wi:TI) (n:Nat) (js:List Nat) (g:TG) (tc:TT) (te:TE):TS:=λE σ H=>wi σ H λJ H1=>∀D,H1 D=none →
 ∃W:Nat→Nat→List V→Hp→Prop,(∃m,W 0 m [] (upd H1 D (.lst [])))∧tLcB J D (caps n js σ) g tc te (λH2=>E.nx (σ.set i (some (.ref D))) H2) W
theorem Zm5 {X:Cx}{N:List Str}{sc scope:Scope}{own fr:List Str}{js:List Nat}{tg iter elt:Expr}{ifs:List Expr}{pos spos py:Pos}{wi:TI}{g:TG}{tc:TT}{te:TE}{i:Nat}{y:Str}
  (hN:X.N.Nodup) (hy:X.N[i]? = some y) (hl:X.env.scope.names.lookup y=some .local)
  (L:LcOk X N sc scope own fr js) (hc:X.calm=true) (hI:PI X tg iter wi)
  (hg:∀C s H fp,PG (lcCx X N scope C s H fp) tg g) (hi:∀C s H fp,PIf (lcCx X N scope C s H fp) ifs tc) (he:∀C s H fp,PE (lcCx X N scope C s H fp) elt te)
  (hw:swapsWith (.ListComp elt [⟨tg,iter,ifs,0⟩] scope pos) (some (.Name y py)) spos.line X.env=pure true:=by rfl)
  (hs:∀x,foldedSetIterable iter X.env x=pure x:=by intro _; rfl):PS X (.Assign [.Name y py] (.ListComp elt [⟨tg,iter,ifs,0⟩] scope pos) spos) (tLcS i wi own.length js g tc te):=by
 intro pins s σ H E I h
 rw[exec_Assign_Name_used _ _ _ _ hw]
 (refine wpAny_bind (wpAny_standAt (wpAny_bind ?_)))
 show wpAny _ X.A (do let _ ← comprehension (.ListComp elt [⟨tg,iter,ifs,0⟩] scope pos) scope X.env _ (newList []) false (eval iter X.env) (some (assign (.Name y py) X.env))) _ _ s
 refine wpAny_bind (wpAny_mono (wpAny_comprehension_free (use:=some (assign (.Name y py) X.env)) (Q:=λ_ s'=>SP X pins E .next s') rfl hs (Zfa (L.cellAt I.ok)) L.kind L.loc ?_) (λ_ s' q=>wpAny_pure (wpAny_pure q)) λ_ _ e=>e)
 refine thn (hI pins s σ H _ I h) λv s1 h1=>thn h1 λitv s2 h2=>?_
 obtain⟨it,fp,tn,J,H2,e,I2,T,st,f2,q⟩:=h2
 subst e
 refine Zk6 (RR:=λacc C=>compPost (model X.prog X.w) X.A X.xe (some (assign (.Name y py) X.env)) (λ_ s'=>SP X pins E .next s') acc C) (fin:=λD H'=>E.nx (σ.set i (some (.ref D))) H') L hc I2 T st f2 hg hi he q ?_
 intro D C s' H' hm IX fC q'
 obtain⟨m,hm⟩:=hm
 obtain⟨f0,f1,_,f3,f4,f5⟩:=fC
 show wpAny _ X.A (assign (.Name y py) X.env (.ref D)) _ _ s'
 refine wpAny_assign_Name (Zi7 IX hN hy (.inl hl) (v:=.ref D) rfl (λs3 I3 ha=>?_) (.inr hl))
 obtain⟨a,sb,ha⟩:=ha
 have hCa:C≠a:=by
  rcases ha with z | z
  ·rw[z]; exact f1
  exact λq=>f4 y a z q.symm
 refine⟨m,hm.sameBut sb hCa,λh' sb'=>⟨_,H',I3.turned (t':=s3.toks) (λb o hb e=>(sb'.2 b hb).trans e) f0 f1 f3 f4 f5,q'⟩⟩
end L2
namespace L2
open PySem PySem.Spec PyProof.Rows
section
variable {X:Cx}
theorem Zlk:Zcy X (.builtin "isinstance") (λxs H Q=>∃i T,xs=[.int i,.ty T]∧((T = "int" ∧ Q (.bl true) H)∨(T = "bool" ∧ Q (.bl false) H))):=by
 intro pins s σ H xs us Q I r h
 obtain⟨i,T,rfl,h⟩:=h
 obtain⟨u1,u2,rfl,⟨t,rfl⟩,r2⟩:=Zlo r
 cases r2
 rcases h with⟨rfl,q⟩ | ⟨rfl,q⟩
 ·exact PySem.IsiPair.int_int ⟨.bl true,H,I,rfl,q⟩
 exact PySem.IsiPair.int_bool ⟨.bl false,H,I.tok _,rfl,q⟩
end
mutual
inductive RdV (H:Hp):V→PyData→Prop
 | non:RdV H .non .none
 | int (i:Int):RdV H (.int i) (.int i)
 | str (x:Str):RdV H (.str x) (.str x)
 | tup {a:Addr}{xs:List V}{ds:List PyData}:H a=some (.tup xs)→RdVs H xs ds→RdV H (.ref a) (.tuple ds)
inductive RdVs (H:Hp):List V→List PyData→Prop
 | nil:RdVs H [] []
 | cons {x:V}{d:PyData}{xs:List V}{ds:List PyData}:RdV H x d→RdVs H xs ds→RdVs H (x :: xs) (d :: ds)
end
mutual
theorem RdV.reads {P:Program}{w:World}{H:Hp}{h:Heap}(ok:HOk P w H h):∀{x:V}{d:PyData}{u:Value},RdV H x d→RelV x u→∃as,Reads h u d as
 | _,_,_,.non,r=>by cases r; exact⟨_,.none⟩
 | _,_,_,.int i,r=>by obtain⟨t,rfl⟩:=r; exact⟨_,.int i t⟩
 | _,_,_,.str x,r=>by obtain⟨t,rfl⟩:=r; exact⟨_,.str x t⟩
 | _,_,_,.tup (a:=a) e rs,r=>by
  cases r
  obtain⟨z,its,rv,o,ho,hc,n,hd⟩:=ok a _ e
  obtain⟨as,ra⟩:=RdVs.reads ok rs rv
  exact⟨as,.tuple ho hc hd (by simpa using ra)⟩
theorem RdVs.reads {P:Program}{w:World}{H:Hp}{h:Heap}(ok:HOk P w H h):∀{xs:List V}{ds:List PyData}{us:List Value},RdVs H xs ds→Vals xs us→∃as,ReadsAll h us ds as
 | _,_,_,.nil,r=>by cases r; exact⟨_,.nil⟩
 | _,_,_,.cons a b,r=>by
  cases r with
  | cons r1 r2=>
   obtain⟨as,h1⟩:=RdV.reads ok a r1
   obtain⟨bs,h2⟩:=RdVs.reads ok b r2
   exact⟨_,.cons h1 h2⟩
end
end L2
namespace ZT
open PySem PyProof.Rows
section
variable {prog:Program}{w:World}{A:Around}{E:Value→Shared→Prop}{s:Shared}
theorem next_item {p t:Addr}{k:Nat}{items:Array Value}{v:Value}{Q:Value→Shared→Prop}(hp:s.heap.IsTupleIter p t k) (ht:s.heap.IsTuple t items) (hv:items[k]? = some v)
  (q:∀h',h'.IsTupleIter p t (k + 1)→Heap.SameBut p s.heap h'→Q v { s with heap:=h' }):wpAny (model prog w) A (Builtin.SmallTypes.nextOf (.ref p)) Q E s:=by
 obtain⟨o,ho,c1,c2⟩:=id hp
 obtain⟨ot,hot,_,nt,dt⟩:=ht
 (unfold Builtin.SmallTypes.nextOf)
 refine wpAny_bind (wpAny_callSpecial?_slot (name:=Str.ofString "__next__") hp.typeIs F.slot_tuple_iterator_next (wpAny_call_entry F.slot_tuple_iterator_next hp.typeIs F.entry_tuple_iterator_next ?_ (F.args_tuple_iterator_next_1 _)))
 show wpAny _ _ (field (.ref p) 0 >>= _) _ _ s
 refine wpAny_bind (wpAny_field ho c2 (x:=.ref t) rfl ?_)
 (show wpAny _ _ (if (Value.ref t == Value.none)=true then _ else _) _ _ s)
 rw[if_neg (by exact Bool.false_ne_true)]
 show wpAny _ _ (field (.ref p) 1 >>= _) _ _ s
 refine wpAny_bind (wpAny_field ho c2 (x:=.int k 0) rfl ?_)
 (show wpAny _ _ (seqItems? (.ref t) >>= _) _ _ s)
 refine wpAny_bind (wpAny_seqItems hot dt ?_)
 simp only[toNat_natCast,hv]
 refine wpAny_bind (wpAny_setField ho c2 (by simp) (wpAny_pure ⟨v,rfl,wpAny_pure (q _ ?_ (Heap.SameBut.update ..))⟩))
 refine⟨_,Heap.get?_update_self _ ho (Obj.isFreed_of_fields (Obj.data_mapFields c2 _)),(Obj.cls_mapFields ..).trans c1,?_⟩
 rw[Obj.data_mapFields c2]
 simp[rawInt]
theorem next_end {p t:Addr}{k:Nat}{items:Array Value}{Q:Value→Shared→Prop}(hh:A.handled=none) (hp:s.heap.IsTupleIter p t k) (ht:s.heap.IsTuple t items) (hv:items[k]? = none)
  (q:∀h' e,Heap.ExtBut p s.heap h'→(∃o,h'.get? e=some o∧o.cls=.type "StopIteration")→E (.ref e) { s with heap:=h' }):wpAny (model prog w) A (Builtin.SmallTypes.nextOf (.ref p)) Q E s:=by
 obtain⟨o,ho,c1,c2⟩:=id hp
 obtain⟨ot,hot,_,nt,dt⟩:=ht
 (unfold Builtin.SmallTypes.nextOf)
 refine wpAny_bind (wpAny_callSpecial?_slot (name:=Str.ofString "__next__") hp.typeIs F.slot_tuple_iterator_next (wpAny_call_entry F.slot_tuple_iterator_next hp.typeIs F.entry_tuple_iterator_next ?_ (F.args_tuple_iterator_next_1 _)))
 show wpAny _ _ (field (.ref p) 0 >>= _) _ _ s
 refine wpAny_bind (wpAny_field ho c2 (x:=.ref t) rfl ?_)
 (show wpAny _ _ (if (Value.ref t == Value.none)=true then _ else _) _ _ s)
 rw[if_neg (by exact Bool.false_ne_true)]
 show wpAny _ _ (field (.ref p) 1 >>= _) _ _ s
 refine wpAny_bind (wpAny_field ho c2 (x:=.int k 0) rfl ?_)
 (show wpAny _ _ (seqItems? (.ref t) >>= _) _ _ s)
 refine wpAny_bind (wpAny_seqItems hot dt ?_)
 simp only[toNat_natCast,hv]
 refine wpAny_bind (wpAny_rule (wpAny_bind (wpAny_setField ho c2 (by simp) ?_)))
 (show wpAny _ _ (newExc (.type "StopIteration") [] >>= _) _ _ _)
 refine wpAny_bind ?_
 simp only[newExc,newTuple]
 (refine wpAny_bind (wpAny_newObj_type ?_ (by size_fits)))
 (refine wpAny_bind (m:=firstArgMember _ _) (wpAny_of_eq (a:=Value.none) (by first | rfl | (simp only[firstArgMember]; rfl)) ?_))
 (refine wpAny_newObj_type ?_ (by size_fits))
 simp only[raiseNew]
 (refine wpAny_bind (wpAny_handled ?_))
 (first | rw[show A.in1.handled=none from hh] | rw[hh])
 (refine wpAny_bind (wpAny_pure (wpAny_throw ?_)))
 exact q _ _ (((Heap.SameBut.update ..).extBut.push _).push _) ⟨_,Heap.get?_push_size _ rfl,rfl⟩
end
noncomputable abbrev zI (t:Addr):Obj:={ cls:=.type "tuple_iterator",data:=.fields #[.ref t,.int 0 0] }
end ZT
namespace L2
open PySem PySem.Spec PyProof.Rows
section
variable {X:Cx}{pins:List (Addr×Obj)}{σ:St}{H:Hp}{s:Shared}{h':Heap}
theorem FpOk.not {ch:List Addr}(hf:∀b∈ch,FpOk X pins H b) {b:Addr}{o:HO}(e:H b=some o):b∉ch:=λz=>by
 have:=(hf b z).1
 rw[e]at this
 cases this
theorem Inv.fpT {t:Addr}{zs:List V}(I:Inv X pins σ H s) (ht:SqT X.K H t zs) (f:FpOk X pins H t):False:=by
 rcases ht with hr | ⟨o,_,_,hk,_⟩
 ·rcases hr with hr | ⟨o,hr⟩
  ·rw[f.1]at hr; cases hr
  rw[f.1]at hr; cases hr
 have e:=I.mod.kin t o hk
 rcases f.2.2.2.1 with q | q
 ·exact I.ok.noex t o e q
 exact absurd (lt_of_lt_of_le (Heap.lt_size (I.ok.bs t o e).1) q) (lt_irrefl _)
theorem Inv.stepL {t':Nat}{ch:List Addr}(I:Inv X pins σ H s) (hf:∀b∈ch,FpOk X pins H b) (k:∀b o,b∉ch→s.heap.get? b=some o→h'.get? b=some o):Inv X pins σ H { s with heap:=h',toks:=t' }:=by
 refine I.step (g':=s.gens) (d':=s.drawn) (ch:=ch) (λb hb=>⟨(hf b hb).2.2.2.1,(hf b hb).2.1,(hf b hb).2.2.2.2.1,(hf b hb).2.2.2.2.2⟩) (λb o _ _ hc e _=>k b o hc e) (λb o _ _ hc e _=>⟨o.slots,k b o hc e⟩) (λ_ _ _ _ n=>n)
  (λb o hc e=>⟨o,k b o hc e⟩) (λ_ _ e=>e) (λ_ _ _ e=>e) (λb ps e=>⟨#[],by rw[e]; simp⟩) (λm hm=>?_) (λb u e=>?_) I.bare
 ·obtain⟨o,es,ep,ho,r⟩:=hm
  exact⟨o,es,ep,k _ o (λz=>(hf _ z).2.1 rfl) ho,r⟩
 refine(I.hok b u e).stay (λc v hc q=>k c v ?_ q) (λ_ q=>q) λ_ _ q=>q
 rcases hc with z | z
 ·rw[z]; exact FpOk.not hf e
 exact FpOk.not hf z
theorem Inv.stepN {t':Nat}{ch:List Addr}{ob:HO}(I:Inv X pins σ H s) (hf:∀b∈ch,FpOk X pins H b) (k:∀b o,b∉ch→s.heap.get? b=some o→h'.get? b=some o)
  (new:ObjOk X.prog X.w (upd H s.heap.objs.size ob) h' s.heap.objs.size ob):Inv X pins σ (upd H s.heap.objs.size ob) { s with heap:=h',toks:=t' }:=by
 have fr:H s.heap.objs.size=none:=I.hok.fresh (Nat.le_refl _)
 have fz:FpOk X pins H s.heap.objs.size:=I.fpOk (Nat.le_refl _) fr
 have hf':∀b∈s.heap.objs.size :: ch,FpOk X pins H b:=λb hb=>by
  rcases(mem_cons.mp hb)with e | e
  ·rw[e]; exact fz
  exact hf b e
 have k':∀b o,b∉s.heap.objs.size :: ch→s.heap.get? b=some o→h'.get? b=some o:=λb o hb e=>k b o (λz=>hb (mem_cons_of_mem _ z)) e
 have ne:∀b o,s.heap.get? b=some o→b≠s.heap.objs.size:=λb o e=>ne_of_lt (Heap.lt_size e)
 refine I.step (g':=s.gens) (d':=s.drawn) (ch:=s.heap.objs.size :: ch) (λb hb=>⟨(hf' b hb).2.2.2.1,(hf' b hb).2.1,(hf' b hb).2.2.2.2.1,(hf' b hb).2.2.2.2.2⟩) (λb o _ _ hc e _=>k' b o hc e) (λb o _ _ hc e _=>⟨o.slots,k' b o hc e⟩)
  (λb o _ e n=>by rw[Zaj (ne b o e)]; exact n) (λb o hc e=>⟨o,k' b o hc e⟩) (λb xs e=>by rw[Zaj (Zag e fr)]; exact e) (λb o xs e=>by rw[Zaj (Zag e fr)]; exact e)
  (λb ps e=>⟨#[],by rw[Zaj (Zag e fr),e]; simp⟩) (λm hm=>?_) (λb u e=>?_) I.bare
 ·obtain⟨o,es,ep,ho,r⟩:=hm
  exact⟨o,es,ep,k _ o (λz=>(hf _ z).2.1 rfl) ho,r⟩
 by_cases hb:b=s.heap.objs.size
 ·subst hb
  rw[Zac]at e
  cases e
  exact new
 rw[Zaj hb]at e
 refine(I.hok b u e).stay (λc v hc q=>k c v ?_ q) (λc q=>by rw[Zaj (Zag q fr)]; exact q) λc xs q=>by rw[Zaj (Zag q fr)]; exact q
 rcases hc with z | z
 ·rw[z]; exact FpOk.not hf e
 exact FpOk.not hf z
end
end L2
namespace L2
open PySem PySem.Spec PyProof.Rows
theorem Same.new {H:Hp}{l:Addr}{o:HO}(h:H l=none):Same H (upd H l o):=λb u e=>by
 rw[Zaj (Zag e h)]
 exact e
theorem Same.put {H H':Hp}{l:Addr}{o:HO}(s:Same H H') (h:H l=none):Same H (upd H' l o):=λb u e=>by
 rw[Zaj (Zag e h)]
 exact s b u e
structure Df (K:W.Frag) (mg:Str→Option Value) (x:Str) (st:Stmt) (ps:List Str) (f:Addr) (fd:FuncData):Prop where
 F:Fun K x x st f fd
 m:mg x=some (.ref f)
 b:Binds K fd ps []
theorem lcJ {J:It}{n:Nat}{D:Addr}{ρ:St}{tc:TT}{te:TE}{fin:Hp→Prop}{H0:Hp}(Pv:Nat→List V→Hp→Prop) (h0:Pv 0 [] (upd H0 D (.lst [])))
  (go:∀i ys H,i < n→Pv i ys H→J.go i H) (stop:∀ys H,Pv n ys H→J.stop n H)
  (hs:∀i ys H x H1,i < n→Pv i ys H→J.yld i H x H1→tc (some x :: ρ) H1 λb H3=>if b=true then te (some x :: ρ) H3 λy H4=>∃zs,H4 D=some (.lst zs)∧zs.length < sizeLine∧Pv (i + 1) (zs ++ [y]) (upd H4 D (.lst (zs ++ [y])))else Pv (i + 1) ys H3)
  (hd:∀ys H,Pv n ys H→fin H):∃W:Nat→Nat→List V→Hp→Prop,(∃m,W 0 m [] (upd H0 D (.lst [])))∧tLcB J D (none :: ρ) (Zhf 0) tc te fin W:=by
 refine⟨λi m ys H=>m=n - i∧i≤n∧Pv i ys H,⟨n,rfl,zero_le _,h0⟩,?_⟩
 rintro i m ys H ⟨rfl,hi,p⟩
 by_cases hlt:i < n
 ·refine .inr ⟨go i ys H hlt p,Pv (i + 1),λys' H' p'=>⟨n - (i + 1),by lia,rfl,hlt,p'⟩,λx H1 y=>⟨⟨rfl,λj v e=>?_⟩,hs i ys H x H1 hlt p y⟩⟩
  cases j with
  | zero=>cases e
  | succ j=>exact e
 have e:i=n:=by lia
 subst e
 exact .inl ⟨stop ys H p,hd ys H p⟩
theorem Zce {σ:St}{H:Hp}{A B:Hp→Prop}(h:A H):tYes σ H λb H3=>if b=true then A H3 else B H3:=by
 show if true=true then A H else B H
 rw[if_pos rfl]
 exact h
theorem sub_nones {ρ:St}{x y:V}:(some x :: some y :: ρ:St).length=(none :: none :: ρ:St).length∧∀(i:Nat) v,(none :: none :: ρ:St)[i]? = some (some v)→(some x :: some y :: ρ:St)[i]? = some (some v):=
 ⟨rfl,λj v e=>by
  match j,e with
  | 0,e=>cases e
  | 1,e=>cases e
  | j + 2,e=>exact e⟩
section
variable {X:Cx}
theorem Zez (K:W.Frag) (h:X.K=K):IxR X (rIxT K):=by
 subst h
 exact Za6
theorem Zmm {e:Expr}{n:Nat}{t:TGs}(K:W.Frag) (h:X.K=K) (hp:PG X e (gTup X.K n t)):PG X e (gTup K n t):=by
 subst h
 exact hp
end
theorem Ziw:bootBuiltins "tuple" = some (.type "tuple"):=by decide +kernel
theorem bt_int:bootBuiltins "int" = some (.type "int"):=by decide +kernel
theorem bt_bool:bootBuiltins "bool" = some (.type "bool"):=by decide +kernel
theorem Zlm:bootBuiltins "isinstance" = some (.builtin "isinstance"):=by decide +kernel
end L2
namespace Tx
open PySem L2 PyProof.Rows
open PySem.PyData (strOk)
theorem ok_of {x:Str}(h:∀c∈x.cps.toList,c < 0x110000):strOk x=true:=by
 unfold strOk
 rw[Array.all_eq_true']
 intro c hc
 exact decide_eq_true (h c (by simpa using hc))
end Tx
namespace Rk
open PySem
noncomputable def cs (x:Str):List Nat:=x.cps.toList
theorem Zjv (x y:Str):cs (x ++ y)=cs x ++ cs y:=by
 show(x.cps ++ y.cps).toList=_
 rw[Array.toList_append]
 rfl
theorem Znu {x y:Str}(h:cs x=cs y):x=y:=by
 cases x with | mk a=>
 cases y with | mk b=>
 have:a=b:=Array.toList_inj.mp h
 rw[this]
theorem Zlg (x:Str):(cs x).length=x.length:=by
 show x.cps.toList.length=x.cps.size
 exact Array.length_toList
end Rk
namespace Rk
open PySem
end Rk
namespace Rk
open PySem PyProof.Rows L2 Tx
end Rk
namespace Rk
open PySem PySem.Spec PyProof.Rows L2 Tx
end Rk
namespace SK
open PySem PyProof.Rows
noncomputable def dd {κ:Type} [DecidableEq κ] (val:Nat→κ):Nat→List κ
 | 0=>[]
 | i + 1=>if val i∈dd val i then dd val i else dd val i ++ [val i]
section
variable {κ:Type} [DecidableEq κ] {val:Nat→κ}
theorem dd_le:∀i:Nat,(dd val i).length≤i
 | 0=>Nat.le_refl _
 | i + 1=>by
  have ih:=dd_le i
  show(if val i∈dd val i then dd val i else dd val i ++ [val i]).length≤i + 1
  split
  ·lia
  rw[length_append]
  show(dd val i).length + 1≤i + 1
  lia
theorem Zmv:∀{i:Nat}{x:κ},x∈dd val i→∃j,j < i∧x=val j
 | 0,_,h=>nomatch h
 | i + 1,x,h=>by
  have h':x∈(if val i∈dd val i then dd val i else dd val i ++ [val i]):=h
  split at h'
  ·obtain⟨j,hj,e⟩:=Zmv h'
   exact⟨j,by lia,e⟩
  rcases mem_append.mp h' with z | z
  ·obtain⟨j,hj,e⟩:=Zmv z
   exact⟨j,by lia,e⟩
  exact⟨i,by lia,mem_singleton.mp z⟩
theorem dd_full {n:Nat}(inj:∀i j,i < n→j < n→val i=val j→i=j):∀i:Nat,i≤n→(dd val i).length=i
 | 0,_=>rfl
 | i + 1,h=>by
  have ih:=dd_full inj i (by lia)
  show(if val i∈dd val i then dd val i else dd val i ++ [val i]).length=i + 1
  rw[if_neg,length_append,ih]
  ·rfl
  intro z
  obtain⟨j,hj,e⟩:=Zmv z
  have:=inj i j (by lia) (by lia) e
  lia
theorem dd_step (i:Nat) (x:κ):decide (x∈dd val (i + 1))=(decide (x∈dd val i) || decide (x=val i)):=by
 show decide (x∈(if val i∈dd val i then dd val i else dd val i ++ [val i]))=_
 by_cases h:val i∈dd val i
 ·rw[if_pos h]
  by_cases e:x=val i
  ·subst e; simp[h]
  simp[e]
 rw[if_neg h]
 simp[mem_append]
theorem dd_size (i:Nat):(dd val (i + 1)).length=if decide (val i∈dd val i)=true then(dd val i).length else(dd val i).length + 1:=by
 show(if val i∈dd val i then dd val i else dd val i ++ [val i]).length=_
 by_cases h:val i∈dd val i
 ·rw[if_pos h,if_pos (decide_eq_true h)]
 rw[if_neg h,if_neg (by simpa using h),length_append]
 rfl
end
section
variable {prog:Program}{w:World}{κ:Type} [DecidableEq κ] {knd:KeyKind prog w κ}{A:Around}{R:Result→Shared→Prop}{I:Addr}{fp wr:List Addr}{G:Array GenState→Array GenState→Prop}{n:Nat}{P:Nat→Value→Prop}{St:Nat→Shared→Prop}
theorem kept {S:Addr}{h h':Heap}{f:κ→Bool}{m:Nat}(q:h.SetOf knd S f m) (e:∀o,h.get? S=some o→h'.get? S=some o):h'.SetOf knd S f m:=by
 obtain⟨o,es,ep,t,ho,r⟩:=q
 exact⟨o,es,ep,t,e o ho,r⟩
theorem Zlh {S:Addr}{h:Heap}{f g:κ→Bool}{m k:Nat}(q:h.SetOf knd S f m) (e:∀x,f x=g x) (em:m=k):h.SetOf knd S g k:=by
 have:f=g:=funext e
 subst this em
 exact q
theorem fill (W:WalksS prog w A.in1 I fp wr G n P St) (S:Addr) (nS:S∉fp) (val:Nat→κ) (hv:∀i v,P i v→knd.is (val i) v=true∧v.scannable=true) (hb:n + 1 < scanBound) :
  ∀(k i:Nat) (s:Shared),n - i=k→i≤n→St i s→s.heap.SetOf knd S (λx=>decide (x∈dd val i)) (dd val i).length →
   (∀s',Moved (S :: wr) G s s'→s'.heap.SetOf knd S (λx=>decide (x∈dd val n)) (dd val n).length→R (.ok (.ret .none)) s') →
   (codeAny (model prog w) A (.builtin "set.update.loop" ⟨[.ref S,.ref I],[]⟩) R s):=by
 have nw:S∉wr:=λh=>nS (W.sub _ h)
 have sub:∀b∈wr,b∈S :: wr:=λb z=>mem_cons_of_mem _ z
 intro k
 induction k with
 | zero=>
  intro i s hk hi st hS fin
  obtain rfl:i=n:=by lia
  refine codeAny_builtin PyProof.Rows.F.entry_set_update_loop ?_
  rw[Around.under_plainId PyProof.Rows.F.plain_set_update_loop _]
  refine wpAny_bind (m:=pyNext (.ref I)) (W.done s _ _ st λs1 hm=>?_)
  exact wpAny_pure (fin s1 (hm.mono sub) (kept hS λo e=>hm.heap S o nw e))
 | succ k ih=>
  intro i s hk hi st hS fin
  have lt:i < n:=by lia
  refine codeAny_builtin PyProof.Rows.F.entry_set_update_loop ?_
  rw[Around.under_plainId PyProof.Rows.F.plain_set_update_loop _]
  refine wpAny_bind (m:=pyNext (.ref I)) (W.item i s _ _ lt st λv s1 hP st1 hm=>?_)
  obtain⟨key,sc⟩:=hv i v hP
  refine wpAny_bind (m:=holding [v] (setAdd S v)) (wpAny_holding ?_)
  unfold setAdd
  refine wpAny_holding (wpAny_bind (knd.pyHash (k:=val i) key ?_))
  have room:(dd val i).length + 1 < scanBound:=by have:=dd_le (val:=val) i; lia
  refine wpAny_setAddHashed_of (knd:=knd) (s:={ s1 with toks:=s1.toks + 1 }) key sc (kept hS λo e=>hm.heap S o nw e) room λh2 sb hS2=>?_
  have hS3:h2.SetOf knd S (λx=>decide (x∈dd val (i + 1))) (dd val (i + 1)).length:=Zlh hS2 (λx=>(dd_step i x).symm) (dd_size i).symm
  have oth:∀b o,b≠S→s1.heap.get? b=some o→h2.get? b=some o:=λb o z e=>(sb.2 b z).trans e
  refine wpAny_pure ⟨plainId_quiet PyProof.Rows.F.plain_set_update_loop _,ih (i + 1) _ (by lia) lt (W.frame _ s1 h2 (s1.toks + 1) st1 (le_succ _) λb hb o e=>oth b o (λz=>nS (z ▸ hb)) e) hS3 λs2 hm2 q=>?_⟩
  refine fin s2 (Moved.trans W.gtrans ((hm.mono sub).then_heap (le_succ _) λb o hb e=>oth b o (λz=>hb (z ▸ mem_cons_self)) e) hm2) q
end
section
variable {prog:Program}{w:World}{κ:Type} [DecidableEq κ] {knd:KeyKind prog w κ}{A:Around}{E:Value→Shared→Prop}{s:Shared}
noncomputable abbrev fset (led:Bool):Obj:={ cls:=.type "set",dict:=none,data:=.set #[] 0 (.fresh 0 0 led) }
set_option maxHeartbeats 3300000 in
theorem make {l:Addr}{items:Array Value}{val:Nat→κ}{Q:Value→Shared→Prop}(hh:A.handled=none) (hl:s.heap.IsList l items) (hv:∀i v,items[i]? = some v→knd.is (val i) v=true∧v.scannable=true) (hb:items.size + 1 < scanBound)
  (q:∀(h':Heap) (tk:Nat),h'.SetOf knd s.heap.objs.size (λx=>decide (x∈dd val items.size)) (dd val items.size).length→(∀b o,s.heap.get? b=some o→h'.get? b=some o)→Q (.ref s.heap.objs.size) { s with heap:=h',toks:=tk }) :
  (wpAny (model prog w) A (call (.type "set") [.ref l]) Q E s):=by
 obtain⟨c,tl,hmro⟩:=PySem.F.called_set.mro
 have hmade:=PySem.F.called_set.made
 have hsub:=PySem.F.called_set.sub
 refine wpAny_call (codeAny_of_tree (show wpAny _ _ (callAny (.type "set") _) _ _ _ from ?_))
 refine wpAny_pure ⟨Code.quiet_builtin _ (by decide +kernel),codeAny_builtin PySem.F.entry_type_call ?_⟩
 (rw[Around.under_plain (weight_type_call_type "set" [.ref l] []) rfl])
 have h1:=PySem.F.called_set.notType
 have h2:=PySem.F.called_set.canCreate
 have hct:=PySem.F.typeCall_set_1 (.ref l)
 (repeat (any_goals (first | assumption | wp_step)))
 refine codeAny_mono (code_set_new_1 (.ref l) (E:=E) (Q₁:=λob s1=>∃led:Bool,ob=.ref s.heap.objs.size∧s1={ s with heap:=s.heap.push { cls:=.type "set",dict:=none,data:=.set #[] 0 (.fresh 0 0 led) } }) λled=>⟨led,rfl,rfl⟩) λr s1 hr=>?_
 cases r with
 | error e=>exact hr
 | ok fl=>
  cases fl with
  | ret ob=>
   obtain⟨led,rfl,rfl⟩:=hr
   have hS:(s.heap.push (fset led)).get? s.heap.objs.size=some (fset led):=Heap.get?_push_size _ rfl
   have hT:Shared.TypeIs { s with heap:=s.heap.push (fset led) } (.ref s.heap.objs.size) "set" := ⟨_,hS,rfl⟩
   have hli:=PySem.F.called_set.init.lookup
   have hbi:=PySem.F.called_set.init.bind (.ref s.heap.objs.size)
   (repeat (any_goals (first | assumption | wp_step)))
   refine codeAny_mono (codeAny_call_builtin (R:=wants (λr s2=>r=.none∧∃h' tk,s2={ s with heap:=h',toks:=tk }∧h'.SetOf knd s.heap.objs.size (λx=>decide (x∈dd val items.size)) (dd val items.size).length ∧
     (∀b o,s.heap.get? b=some o→h'.get? b=some o)) E) PySem.F.called_set.init.plain PySem.F.entry_set_init (check_set_init_1 hT ?_)) λr2 s2 hr2=>?_
   ·obtain⟨⟨ocls,odict,odata,oslots⟩,hol,hcl,nl,hdl⟩:=hl
    simp only at hcl hdl
    subst hcl hdl
    have hol':(s.heap.push (fset led)).get? l=some { cls:=.type "list",dict:=odict,data:=.seq items nl,slots:=oslots }:=Heap.get?_push_of_some _ hol
    have x1:=PySem.F.sub_list_set
    have x2:=PySem.F.sub_list_frozenset
    have x3:(Value.type "list" == Value.type "dict")=false:=by decide
    have hl1:(s.heap.push (fset led)).IsList l items:=⟨_,hol',rfl,nl,rfl⟩
    (unfold Builtin.«set.__init__» noKeywords Builtin.Frozenset.updateFrom)
    generalize hPI:pyIter=PI
    wp_walk
    subst hPI
    (refine wpAny_pyIter_list hl1 ?_)
    (refine wpAny_bind (wpAny_runValue ?_))
    have lt:l < s.heap.objs.size:=Heap.lt_size hol
    have sz:(s.heap.push (fset led)).objs.size=s.heap.objs.size + 1:=Heap.size_push ..
    (have hh3:A.in1.in1.in1.handled=none:=by simp[hh])
    have ne1:l≠(s.heap.push (fset led)).objs.size:=by rw[sz]; exact ne_of_lt (lt_succ_of_lt lt)
    have nS:s.heap.objs.size∉[(s.heap.push (fset led)).objs.size,l]:=by
     rw[sz]
     simp only[mem_cons,not_mem_nil,or_false,not_or]
     exact⟨ne_of_lt (lt_succ_self _),ne_of_gt lt⟩
    refine fill (knd:=knd) ((Walks.list hh3 _ l ne1 items).toS) s.heap.objs.size nS val hv hb (items.size - 0) 0 _ (by lia) (zero_le _) ⟨⟨_,Heap.get?_push_size _ rfl,rfl,rfl⟩,hl1.push _⟩ ?_ λs3 hm q3=>?_
    ·have g:=Heap.get?_push_of_some ({ cls:=.type "list_iterator",data:=.fields #[.ref l,.int 0 0] }:Obj) hS
     exact Zlh ((PyProof.Rows.setObjOf_fresh (knd:=knd) led).setOf g (by unfold scanBound; lia)) (λx=>by simp[dd]) rfl
    obtain⟨h3,g3,d3,tk3,os3⟩:=s3
    obtain⟨m1,m2,m3,m4,m5⟩:=hm
    have eg:g3=s.gens:=m2
    have ed:d3=s.drawn:=m3
    have es:os3=s.os:=m4
    subst eg ed es
    refine wpAny_pure (wpAny_pure ⟨rfl,h3,tk3,rfl,q3,λb o e=>m1 b o ?_ (Heap.get?_push_of_some _ (Heap.get?_push_of_some _ e))⟩)
    have lb:b < s.heap.objs.size:=Heap.lt_size e
    rw[sz]
    simp only[mem_cons,not_mem_nil,or_false,not_or]
    exact⟨ne_of_lt lb,ne_of_lt (lt_succ_of_lt lb)⟩
   cases r2 with
   | error e=>exact hr2
   | ok fl2=>
    cases fl2 with
    | ret r=>
     obtain⟨rfl,h',tk,rfl,a1,a2⟩:=hr2
     (repeat (any_goals (first | assumption | wp_step)))
     exact q _ _ a1 a2
    | _=>exact hr2.elim
  | _=>exact hr.elim
end
end SK
namespace L2
open PySem PySem.Spec PyProof.Rows
theorem Zlu:∀{xs:List V}{us:List Value},xs.length=us.length→(∀(i:Nat) x u,xs[i]? = some x→us[i]? = some u→RelV x u)→Vals xs us
 | [],[],_,_=>.nil
 | [],_ :: _,h,_=>by(simp at h)
 | _ :: _,[],h,_=>by(simp at h)
 | x :: xs,u :: us,h,r=>.cons (r 0 x u rfl rfl) (Zlu (by simpa using h) λi y v hy hv=>r (i + 1) y v (by simpa using hy) (by simpa using hv))
theorem KV.get:∀{kvs:List (Key×V)}{vs:List (Key×Value)}{i:Nat}{k:Key}{u:Value},KV kvs vs→vs[i]? = some (k,u)→∃v,kvs[i]? = some (k,v)∧RelV v u
 | _,_,_,_,_,.nil,e=>by simp at e
 | _,_,0,_,_,.cons (a:=p) r _,e=>by
  simp at e
  subst e
  obtain⟨e1,e2⟩:=r
  obtain⟨p1,p2⟩:=p
  cases e1
  exact⟨p2,rfl,e2⟩
 | _,_,i + 1,_,_,.cons _ t,e=>by
  obtain⟨v,h1,h2⟩:=KV.get (i:=i) t (by simpa using e)
  exact⟨v,by simpa using h1,h2⟩
section
variable {X:Cx}
theorem Zhu (hc:X.calm=true):Zcy X (.type "list") (λxs H Q=>∃p kvs,xs=[.ref p]∧Rd H p (.dK kvs)∧∀l,H l=none→Q (.ref l) (upd H l (.lst (kvs.map λkv=>kV kv.1)))):=by
 intro pins s σ H xs us Q I r h
 obtain⟨p,kvs,rfl,hp,q⟩:=h
 obtain⟨u,rfl,ru⟩:=Zdd r
 cases ru
 obtain⟨hz,hm,vs,hkv,hd⟩:=Zhc I.hok hp
 obtain⟨ep,hat⟩:=hd.dictAt
 have hl:=hkv.length
 refine PySem.W.kdl_call (PySem.W.kdl_dict (knd:=Zat X.prog X.w) (kvs:=vs) (ep:=ep) hm) (I.ok.hd hc) hat (by lia) λh' tk acc c hk hS hacc=>?_
 refine⟨.ref _,_,I.laid (a:=s.heap.objs.size) (o:=.lst (kvs.map λkv=>kV kv.1)) hk (Nat.le_refl _) ⟨by rw[length_map]; exact hz,acc.toList,c,Zlu ?_ λi x u hx hu=>?_,hS⟩,rfl,q _ (I.hok.fresh (Nat.le_refl _))⟩
 ·have el:acc.toList.length=acc.size:=by simp
  rw[length_map,el,hacc.1,hl]
 obtain⟨k,z,e1,e2⟩:=hacc.2 i u (by simpa using hu)
 obtain⟨v,e3,_⟩:=KV.get hkv e1
 rw[getElem?_map,e3]at hx
 have hx':x=kV k:=(Option.some.inj hx).symm
 subst hx'
 rcases Zax (show Ze8 k u=true from e2)with⟨j,t,rfl,rfl⟩ | ⟨y,t,rfl,rfl⟩
 ·exact⟨t,rfl⟩
 exact⟨t,rfl⟩
theorem Zll (hc:X.calm=true):Zcy X (.builtin "all") (λxs H Q=>∃(p:Addr) (bs:List Bool),xs=[.ref p]∧SqL X.K H p (bs.map V.bl)∧Q (.bl (bs.all λb=>b)) H):=by
 intro pins s σ H xs us Q I r h
 obtain⟨p,bs,rfl,hp,q⟩:=h
 obtain⟨u,rfl,ru⟩:=Zdd r
 cases ru
 obtain⟨its,rv,pl,hz⟩:=I.list hp
 have hlen:=rv.length
 rw[length_map]at hlen
 have hlt:p < s.heap.objs.size:=by
  obtain⟨o,n,e,_⟩:=pl
  exact Heap.lt_size e
 refine call_all_walk (wpAny_pyIter_list pl.isList ⟨s.heap.objs.size,_,_,_,_,_,λi=>bs.getD i true,rfl,Walks.list (show X.A.in1.handled=none from I.ok.hd hc) _ p (ne_of_lt hlt) its.toArray,⟨⟨_,Heap.get?_push_size _ rfl,rfl,rfl⟩,pl.isList.push _⟩,λi v s2 Q2 E2 hP hQ=>?_,λh' tk hk=>?_⟩)
 ·have hi:its[i]? = some v:=by simpa using hP
  have hib:i < bs.length:=by
   have:=(List.getElem?_eq_some_iff.mp hi).1
   lia
  obtain⟨u',hu',ru⟩:=rv.get (i:=i) (x:=.bl bs[i]) (by simp[hib])
  rw[hi]at hu'
  cases hu'
  cases ru
  refine wpAny_truthy_bool ?_
  have e:bs.getD i true=bs[i]:=by simp[List.getD,hib]
  rw[← e]
  exact hQ
 refine⟨.bl _,H,I.kept (t':=tk) (λb o e=>hk b o ?_ (Heap.get?_push_of_some _ e)),rfl,?_⟩
 ·intro z
  rw[mem_singleton]at z
  exact absurd (Heap.lt_size e) (by rw[z]; exact lt_irrefl _)
 have e:(List.range its.toArray.size).all (λi=>bs.getD i true)=bs.all λb=>b:=by
  rw[size_toArray,← hlen]
  (rw[Bool.eq_iff_iff,all_eq_true,all_eq_true])
  constructor
  ·intro a b hb
   (obtain⟨i,hi,rfl⟩:=List.getElem_of_mem hb)
   have:=a i (mem_range.mpr hi)
   simpa [List.getD,hi] using this
  intro a i hi
  (have hi':=mem_range.mp hi)
  have:=a bs[i] (getElem_mem hi')
  simpa [List.getD,hi'] using this
 rw[e]
 exact q
noncomputable def setO (P:Program) (w:World) (a:Addr) (n:Nat):HO:=.ext λh=>∃S,h.SetOf (Zat P w) a S n
noncomputable def kAt (ks:List Key) (i:Nat):Key:=ks.getD i (.inl 0)
theorem call_setK (hc:X.calm=true):Zcy X (.type "set") (λxs H Q=>∃p ks,xs=[.ref p]∧SqL X.K H p (ks.map kV)∧ks.length≤1000∧∀a,H a=none→Q (.ref a) (upd H a (setO X.prog X.w a (SK.dd (kAt ks) ks.length).length))):=by
 intro pins s σ H xs us Q I r h
 obtain⟨p,ks,rfl,hp,hk,q⟩:=h
 obtain⟨u,rfl,ru⟩:=Zdd r
 cases ru
 obtain⟨its,rv,pl,hz⟩:=I.list hp
 have hlen:=rv.length
 rw[length_map]at hlen
 refine SK.make (knd:=Zat X.prog X.w) (val:=kAt ks) (I.ok.hd hc) pl.isList (λi v hv=>?_) (by rw[size_toArray]; unfold scanBound; lia) λh' tk hS kp=>?_
 ·have hi:its[i]? = some v:=by simpa using hv
  have hib:i < ks.length:=by
   have:=(List.getElem?_eq_some_iff.mp hi).1
   lia
  obtain⟨u',hu',ru⟩:=rv.get (i:=i) (x:=kV ks[i]) (by simp[hib])
  rw[hi]at hu'
  cases hu'
  have e:kAt ks i=ks[i]:=by simp[kAt,List.getD,hib]
  rw[e]
  refine⟨Zhe ru,?_⟩
  cases hkk:ks[i]with
  | inl j=>rw[hkk]at ru; obtain⟨t,rfl⟩:=ru; rfl
  | inr y=>rw[hkk]at ru; obtain⟨t,rfl⟩:=ru; rfl
 have es:its.toArray.size=ks.length:=by simp[hlen]
 rw[es]at hS
 refine⟨.ref _,_,I.laid (a:=s.heap.objs.size) (o:=setO X.prog X.w s.heap.objs.size (SK.dd (kAt ks) ks.length).length) kp (Nat.le_refl _) ⟨⟨_,hS⟩,?_,λh1 h2 f1 e=>?_⟩,rfl,q _ (I.hok.fresh (Nat.le_refl _))⟩
 ·obtain⟨o,_,_,_,e,_⟩:=hS
  exact⟨o,e⟩
 obtain⟨S,z⟩:=f1
 exact⟨S,SK.kept z e⟩
theorem call_lenS:Zcy X (.builtin "len") (λxs H Q=>∃a n,xs=[.ref a]∧H a=some (setO X.prog X.w a n)∧Q (.int n) H):=by
 intro pins s σ H xs us Q I r h
 obtain⟨a,n,rfl,ha,q⟩:=h
 obtain⟨u,rfl,ru⟩:=Zdd r
 cases ru
 obtain⟨⟨S,o,es,ep,t,ho,ex,hd,_,_,hb,hf,hn⟩,_,_⟩:=I.hok a _ ha
 refine call_len_set ho ex hd hf (by unfold scanBound at hb; lia) ⟨.int n,H,I.tok _,⟨_,by rw[hn]⟩,q⟩
end
noncomputable def Its (x:Str):It:=⟨λi _=>i < x.cps.size,λi H v H'=>H'=H∧∃c,x.cps[i]? = some c∧v=.str ⟨#[c]⟩,λi _=>x.cps.size≤i⟩
theorem turn_str {P:Program}{w:World}{K:W.Frag}{tg:Expr}(it:Addr) (x:Str) (t:Tok):Turn P w K tg (Its x) [it] it (λi h=>h.IsStrIter it "str_ascii_iterator" x t i) where
 mem:=by simp
 obj:=λi h st b hb=>by
  have e:b=it:=by simpa using hb
  subst e
  obtain⟨o,e,c,d⟩:=st
  exact⟨o,e,λv z=>by rw[d]at z; cases z⟩
 keep:=λi h h' st k=>by
  obtain⟨o,e,r⟩:=st
  exact⟨o,k it (by simp) o e,r⟩
 item:=by
  intro X hP hw hK hc i pins s σ H E I hf st hg
  subst hP hw hK
  obtain⟨f0,f1,f2,f3,f4,f5⟩:=hf it (by simp)
  have hi:i < x.cps.size:=hg
  refine wpAny_pyNext_ascii_item st (c:=x.cps[i]) (by simp[hi]) λh' st' sb=>?_
  have I1:Inv X pins σ H { s with heap:=h',toks:=s.toks + 1 }:=I.turned (λb o hb e=>(sb.2 b hb).trans e) f0 f1 f3 f4 f5
  obtain⟨o,e,c,d⟩:=id st'
  exact⟨_,rfl,Zmo (s:={ s with heap:=h',toks:=s.toks + 1 }) e c d (by decide) ⟨.str ⟨#[x.cps[i]]⟩,H,I1,⟨_,rfl⟩,⟨rfl,_,by simp[hi],rfl⟩,st',λb hb=>(hf b hb).1⟩⟩
 done:=by
  intro X hP hw hK hc i pins s σ H E I hf st hg
  subst hP hw hK
  obtain⟨f0,f1,f2,f3,f4,f5⟩:=hf it (by simp)
  have hi:x.cps.size≤i:=hg
  exact wpAny_pyNext_ascii_end (I.ok.hd hc) st (by simp[hi]) λh' eb=>⟨rfl,I.turned (t':=s.toks) (λb o hb e=>eb b o hb e) f0 f1 f3 f4 f5⟩
 self:=λ_ _ _ _ _ st h=>wpAny_pyIter_striter_ascii st h
noncomputable def iStr (tl:TE):TI:=λσ H R=>tl σ H λv H1=>∃x,v=.str x∧x.cps.all (· < 128)=true∧R (Its x) H1
theorem pi_str {X:Cx}{tg l:Expr}{tl:TE}(hl:PE X l tl):PI X tg l (iStr tl):=by
 intro pins s σ H R I h
 refine thn (hl pins s σ H _ I h) λv s1 hp0=>?_
 obtain⟨y,H1,I1,r1,q1⟩:=hp0
 obtain⟨x,e,ha,q⟩:=q1
 subst e
 obtain⟨t,rfl⟩:=r1
 refine wpAny_pyIter_ascii ha ⟨s1.heap.objs.size,[s1.heap.objs.size],_,_,H1,rfl,I1.kept (t':=s1.toks) λb o e=>Heap.get?_push_of_some _ e,turn_str _ x t,⟨_,Heap.get?_push_size _ rfl,rfl,rfl⟩,λb hb=>?_,q⟩
 have e:b=s1.heap.objs.size:=by simpa using hb
 subst e
 exact I1.fpOk (Nat.le_refl _) (I1.hok.fresh (Nat.le_refl _))
end L2
namespace ZN
open PySem PyProof.Rows
end ZN
namespace ZN
open PySem PyProof.Rows
end ZN
namespace L2
open PySem PySem.Spec PyProof.Rows
end L2
namespace L2
open PySem PySem.Spec PyProof.Rows
theorem KV.get2:∀{kvs:List (Key×V)}{vs:List (Key×Value)}{i:Nat}{k:Key}{v:V},KV kvs vs→kvs[i]? = some (k,v)→∃u,vs[i]? = some (k,u)∧RelV v u
 | _,_,_,_,_,.nil,e=>by simp at e
 | _,_,0,_,_,.cons (b:=p) r _,e=>by
  simp at e
  subst e
  obtain⟨e1,e2⟩:=r
  obtain⟨p1,p2⟩:=p
  cases e1
  exact⟨p2,rfl,e2⟩
 | _,_,i + 1,_,_,.cons _ t,e=>by
  obtain⟨v,h1,h2⟩:=KV.get2 (i:=i) t (by simpa using e)
  exact⟨v,by simpa using h1,h2⟩
section
variable {X:Cx}
theorem Inv.freeze {pins:List (Addr×Obj)}{σ:St}{H:Hp}{s:Shared}{a:Addr}{kvs:List (Key×V)}{o:Obj}(I:Inv X pins σ H s) (ha:H a=some (.dK kvs)) (ho:s.heap.get? a=some o):Inv X pins σ (upd H a (.frz o (.dK kvs))) s:=by
 have hne:∀b,H b=none→b≠a:=λb e z=>by rw[z,ha]at e; cases e
 have keep:∀b u,H b=some u→u≠.dK kvs→upd H a (.frz o (.dK kvs)) b=some u:=λb u e d=>by rw[Zaj (Zb4 e ha d)]; exact e
 have st:Inv X pins σ (upd H a (.frz o (.dK kvs))) { s with heap:=s.heap,gens:=s.gens,drawn:=s.drawn,toks:=s.toks }:=by
  refine I.step (g':=s.gens) (t':=s.toks) (d':=s.drawn) (ch:=[]) (λb hb=>nomatch hb) (λb o _ _ _ e _=>e) (λb o _ _ _ e _=>⟨o.slots,e⟩) (λb o _ e n=>by rw[Zaj (hne b n)]; exact n) (λb o _ e=>⟨o,e⟩)
   (λb xs e=>keep b _ e (by intro z; cases z)) (λb o u e=>keep b _ e (by intro z; cases z)) (λb ps e=>⟨#[],by rw[keep b _ e (by intro z; cases z)]; simp⟩) (λm hm=>hm) (λb u e=>?_) I.bare
  by_cases hb:b=a
  ·subst hb
   rw[Zac]at e
   cases e
   exact⟨ho,I.hok _ _ ha⟩
  rw[Zaj hb]at e
  exact(I.hok b u e).stay (λc v _ q=>q) (λc q=>keep c _ q (by intro z; cases z)) λc xs q=>keep c _ q (by intro z; cases z)
 exact st
end
theorem Ziu {X:Cx}{pins:List (Addr×Obj)}{σ:St}{H:Hp}{s:Shared}{a:Addr}{o:Obj}{kvs:List (Key×V)}{es:Array DictEntry}{ep:Nat}(I:Inv X pins σ H s) (ha:H a=some (.frz o (.dK kvs))) (hd:o.data=.dict es ep) :
  ∃vs,KV kvs vs∧s.heap.DictAt (Zat X.prog X.w) a vs ep:=by
 obtain⟨ho,hz,hm,vs,hkv,o',es',ep',ho',ex,hd',r⟩:=I.hok a _ ha
 rw[ho]at ho'
 cases ho'
 rw[hd]at hd'
 cases hd'
 exact⟨vs,hkv,o,es,ho,ex,hd,r⟩
theorem Zg0 {u:Value}{v:V}(h:absV u=some v):RelV v u:=by
 cases u with
 | none=>cases h; rfl
 | bool b=>cases h; rfl
 | int i t=>cases h; exact⟨t,rfl⟩
 | str x t=>cases h; exact⟨t,rfl⟩
 | bytes b t=>cases h; exact⟨t,rfl⟩
 | float b t=>cases h; exact⟨t,rfl⟩
 | ref a=>cases h; rfl
 | type n=>cases h; rfl
 | _=>cases h
section
variable {X:Cx}
theorem Zjr (x:Str):Str.empty ++ x=x:=by
 cases x with | mk a=>
 show Str.mk (#[] ++ a)=Str.mk a
 rw[Array.empty_append]
theorem Zhi:∀{ys:List Str}{us:List Value},Vals (ys.map V.str) us→StrsAre us ys
 | [],_,h=>by cases h; exact .nil
 | y :: ys,_,h=>by
  cases h with
  | cons r t=>
   obtain⟨tk,rfl⟩:=r
   exact .cons y tk (Zhi t)
theorem mt_join:MtR X "str.join" (λx xs H Q=>∃a p ys,x=.str a∧xs=[.ref p]∧SqL X.K H p (ys.map V.str)∧(ys.map (·.length)).sum + ys.length * a.length≤16777216∧Q (.str (Txt.join a ys)) H):=by
 intro pins s σ H x xs v us Q I rx rv h
 obtain⟨a,p,ys,rfl,rfl,hp,hz,q⟩:=h
 obtain⟨t,rfl⟩:=rx
 obtain⟨u,rfl,ru⟩:=Zdd rv
 cases ru
 obtain⟨its,r,pl,_⟩:=I.list hp
 exact join_list pl.isList (by simpa using Zhi r) hz λt' k=>⟨.str _,H,I.tok k,⟨t',rfl⟩,q⟩
end
theorem Zcx:bootBuiltins "list" = some (.type "list"):=by decide +kernel
theorem Zmz:bootBuiltins "set" = some (.type "set"):=by decide +kernel
theorem Znw:bootBuiltins "all" = some (.builtin "all"):=by decide +kernel
end L2
namespace ZN
open PySem PyProof.Rows
end ZN
namespace L2
open PySem PySem.Spec PyProof.Rows
end L2
namespace ZN
open PySem PyProof.Rows
end ZN
namespace L2
open PySem PySem.Spec PyProof.Rows
section
variable {X:Cx}
theorem Zi1:∀{ys:List Str}{us:List Value},StrsAre us ys→Vals (ys.map V.str) us
 | _,_,.nil=>.nil
 | _,_,.cons y tk t=>.cons ⟨tk,rfl⟩ (Zi1 t)
theorem Zfc:bootBuiltins "sorted" = some (.builtin "sorted"):=by decide +kernel
end
end L2
namespace L2
open PySem PySem.Spec PyProof.Rows
end L2
namespace L2
open PySem PySem.Spec PyProof.Rows PySem.W
section
variable {P:Program}{w:World}
theorem ObjOk.there {H:Hp}{h:Heap}{a:Addr}{o:HO}(x:ObjOk P w H h a o):∃ob,h.get? a=some ob:=by
 cases o with
 | lst xs=>obtain⟨_,_,_,_,e⟩:=x; exact⟨_,e⟩
 | tup xs=>obtain⟨_,_,_,ob,e,_⟩:=x; exact⟨_,e⟩
 | dK kvs=>obtain⟨_,_,_,_,o,_,_,e,_⟩:=x; exact⟨_,e⟩
 | dT kvs=>obtain⟨_,_,_,_,o,_,_,e,_⟩:=x; exact⟨_,e⟩
 | set S n=>obtain⟨o,_,_,_,e,_⟩:=x; exact⟨_,e⟩
 | ins C dx fs=>obtain⟨_,_,_,e,_⟩:=x; exact⟨_,e⟩
 | own y=>exact x
 | xd fs=>obtain⟨_,⟨_,_,_,e,_⟩,_⟩:=x; exact⟨_,e⟩
 | rng lo hi=>obtain⟨_,_,_,e⟩:=x; exact⟨_,e⟩
 | frz ob u=>obtain⟨e,_⟩:=x; exact⟨_,e⟩
 | tbl ps=>exact⟨_,x⟩
 | met f y=>exact⟨_,x⟩
 | ext φ=>obtain⟨_,e,_⟩:=x; exact e
structure Fly (P:Program) (w:World) (outer:List Env) (H:Hp) (s:Shared) (a:Addr) (H':Hp) (B:Heap) (s':Shared):Prop where
 os:s'.os=s.os
 bare:AllBare s'.gens
 un:Un (frs outer) [] H H' s.heap s'.heap
 hok:HOk P w H' s'.heap
 funs:s'.heap.FunFrames B outer
 new:H' a=none
 fresh:s.heap.get? a=none
 k1:∀b o,s.heap.get? b=some o→H b=none→b∉frs outer→B.get? b=some o
 k2:∀c v,H' c≠none→s'.heap.get? c=some v→B.get? c=some v
 k3:∀b o,s.heap.get? b=some o→b∉frs outer→∃o',B.get? b=some o'
noncomputable def CXe (P:Program) (w:World):CXT:=λouter H s E e s'=>∃(a C t:Addr) (H':Hp) (B:Heap),e=.ref a∧Fly P w outer H s a H' B s'∧Heap.FlyingW B outer a (.ref C) (.ref t) s'.heap∧E e (some C) H'
theorem Zjp {X:Cx}{pins:List (Addr×Obj)}{σ:St}{H H':Hp}{s s':Shared}{a C:Addr}{B h':Heap}{env:Env}{outer:List Env}(I:Inv X pins σ H s) (hex:X.ex=[]) (hst:X.stack=env :: outer) (hout:X.outer=outer) (hf:env.frame=some X.env.locals)
  (F:Fly X.prog X.w X.stack H s a H' B s') {t:Addr}(hfl:Heap.FlyingW B outer a (.ref C) (.ref t) h') (ups:s'.heap.UpToSlots h'):Fly X.prog X.w outer X.H₀ X.s₀ a H' B { s' with heap:=h' }:=by
 subst hout
 have hsub:∀b,b∈X.fs→b∈frs X.stack:=λb hb=>by
  rw[hst]
  unfold frs
  rw[filterMap_cons,hf]
  exact mem_cons_of_mem _ hb
 have hmem:∀b,b∈frs X.stack→b=X.env.locals∨b∈X.fs:=λb hb=>by
  rw[hst]at hb
  unfold frs at hb
  rw[filterMap_cons,hf]at hb
  exact mem_cons.mp hb
 have hold:∀b o,X.s₀.heap.get? b=some o→b≠X.env.locals:=λb o e z=>by
  have h1:=Heap.lt_size e
  rw[z]at h1
  exact absurd (lt_of_lt_of_le h1 I.ok.above) (lt_irrefl _)
 have nex:∀b:Addr,b∉X.ex:=λb z=>by rw[hex]at z; cases z
 have hout2:∀b o,X.s₀.heap.get? b=some o→b∉X.fs→b∉frs X.stack:=λb o e hb z=>by
  rcases hmem b z with q | q
  ·exact hold b o e q
  exact hb q
 have k1:∀b o,X.s₀.heap.get? b=some o→X.H₀ b=none→b∉X.fs→B.get? b=some o:=λb o e n hb=>
  F.k1 b o (I.base.keep b o e n hb (nex b)) (I.base.free b o e n (nex b)) (hout2 b o e hb)
 have hok:HOk X.prog X.w H' h':=λb u e=>(F.hok b u e).stay (λc v hc q=>hfl.1 c v (F.k2 c v (by
  rcases hc with z | z
  ·rw[z,e]; intro z; cases z
  rw[z]; intro z; cases z) q)) (λ_ q=>q) λ_ _ q=>q
 have slot:∀b o,X.s₀.heap.get? b=some o→X.H₀ b=none→b∈X.fs→∃sl,h'.get? b=some { o with slots:=sl }:=λb o e n hb=>by
  obtain⟨sl,e1⟩:=I.base.slot b o e n hb (nex b)
  obtain⟨sl2,e2⟩:=F.un.slot b _ e1 (I.base.free b o e n (nex b)) (hsub b hb) (by simp)
  obtain⟨_,o',ho',hd⟩:=F.funs.mem (hsub b hb)
  rw[e2]at ho'
  cases ho'
  obtain⟨sl3,e3⟩:=ups b _ e2 hd
  exact⟨sl3,e3⟩
 have free:∀b o,X.s₀.heap.get? b=some o→X.H₀ b=none→H' b=none:=λb o e n=>by
  obtain⟨sl,e1⟩:=I.base.any e n (nex b)
  exact F.un.free b _ e1 (I.base.free b o e n (nex b)) (by simp)
 have there:∀b o,X.s₀.heap.get? b=some o→∃o',h'.get? b=some o':=λb o e=>by
  by_cases hb:b∈X.fs
  ·have n:=I.ok.frf b hb
   obtain⟨sl,q⟩:=slot b o e n hb
   exact⟨_,q⟩
  obtain⟨o1,e1⟩:=I.base.there b o e (nex b)
  obtain⟨o2,e2⟩:=F.k3 b o1 e1 (hout2 b o e hb)
  exact⟨o2,hfl.1 b o2 e2⟩
 refine⟨F.os.trans I.os,F.bare,⟨λb o e n hb _=>hfl.1 b o (k1 b o e n hb),λb o e n hb _=>slot b o e n hb,λb o e n _=>free b o e n,λb o e _=>there b o e,λb xs q=>F.un.tups b xs (I.base.tups b xs q),λb o u q=>F.un.frzs b o u (I.base.frzs b o u q),λb ps q=>?_⟩,hok,hfl.2.2.1,F.new,?_,k1,λc v hc q=>?_,λb o e hb=>?_⟩
 ·obtain⟨m1,q1⟩:=I.base.tbls b ps q
  obtain⟨m2,q2⟩:=F.un.tbls b _ q1
  exact⟨m1 ++ m2,by rw[q2,Array.append_assoc]⟩
 ·cases z:X.s₀.heap.get? a with
  | none=>rfl
  | some o=>
   obtain⟨o',e'⟩:=I.base.there a o z (nex a)
   rw[F.fresh]at e'
   cases e'
 ·cases hu:H' c with
  | none=>exact absurd hu hc
  | some u=>
   obtain⟨v',hv'⟩:=(F.hok c u hu).there
   have hB:=F.k2 c v' hc hv'
   have q':h'.get? c=some v:=q
   rw[hfl.1 c v' hB]at q'
   cases q'
   exact hB
 obtain⟨o1,e1⟩:=I.base.there b o e (nex b)
 exact F.k3 b o1 e1 (hout2 b o e hb)
theorem Zmc {P:Program}{w:World}{K:W.Frag}{mg:Str→Option Value}{base:Heap}{N:List Str}{qual:Str}{scope:Scope}{f:Addr}{cd:Value}{A:Around}{outer:List Env}{s0:Shared}{H0:Hp}{E:XK} :
  Zdu (CXe P w) (cxOf (CXe P w) P w K mg base N qual scope f cd A outer s0 H0 E) E:=by
 intro pins σ H s e s' I h
 obtain⟨a,C,t,H',B,rfl,F,hfl,q⟩:=h
 exact wpAny_leaves_onW I.ok.frames rfl hfl λh' hfl' ups=>⟨a,C,t,H',B,rfl,Zjp I rfl rfl rfl rfl F hfl' ups,hfl',q⟩
noncomputable def ExcAt (h:Heap) (C:Addr) (bmB:List Value) (newId:String) (bm:List Value):Prop:=
 ∃(N:Addr) (nm qn:Str) (bs:List Value) (hdct:Bool) (sn:List Str) (sub:List Value) (ab:Bool) (col:Option Bool) (dd:Option Addr) (k0 k1 k2 k3 k5:Option Value) (mN:Str→Option Value),
  h.get? C=some (excClassObj nm qn C N bs bm hdct sn sub ab col dd k0 k1 k2 k3 k5 newId)∧h.Ns N mN∧mN "__init__" = none∧OwnTail h bmB bm
theorem own_in {K:Frag}{h:Heap}{C:Addr}{bmB:List Value}{newId:String}(X:K.In h) (g:excIn K C bmB newId=true):∃bm,ExcAt h C bmB newId bm:=by
 unfold excIn at g
 split at g
 ·rename_i dict0 cls0 slots0 at0
  split at g
  ·rename_i first0 tail0 a0 a1 a2 a3 new0 a5 mro0 list0
   have g':=g
   simp only[and_eq_true,beq_iff_eq,not_eq_true']at g'
   obtain⟨⟨⟨⟨⟨r1,r2⟩,r3⟩,r4⟩,r5⟩,r6⟩:=g'
   subst r1 r2
   obtain⟨c1,c2,c3,c4,c5,c6,c7,c8,c9,c10,c11⟩:=cls0
   dsimp only at mro0 r3 r5 r6
   subst mro0 r3
   have slots1:slots0=#[a0,a1,a2,a3,some (.builtin new0),a5]:=Array.toList_inj.mp list0
   subst slots1
   exact⟨tail0,c4,c1,c5,c2,c6,c7,c8,c9,c10,dict0,a0,a1,a2,a3,a5,_,X _ _ at0,.of_isNs (isNs_of_in X r5),nsMap_none_of_in X r5 r6,tail_of_in X r4⟩
  cases g
 cases g
abbrev bmV:List Value:=[.type "ValueError",.type "Exception",.type "BaseException",.type "object"]
noncomputable def tRaise (t:TA) (E:XK) (C:Addr):TS:=λ_ σ H=>t σ H λvs H1=>vs.length≤1000∧∀a,H1 a=none→E (.ref a) (some C) H1
theorem Zh1 {P:Program}{w:World}{K:W.Frag}{mg:Str→Option Value}{base:Heap}{N:List Str}{qual:Str}{scope:Scope}{f:Addr}{cd:Value}{A:Around}{outer:List Env}{s0:Shared}{H0:Hp}{E:XK}{C:Addr}{x:Str}{np cpos pos:Pos}{e₀:Expr}{es:List Expr}{t:TA}
  (ow:excIn K C bmV "ValueError.__new__" = true) (hg:Gl (cxOf (CXe P w) P w K mg base N qual scope f cd A outer s0 H0 E) x) (hm:mg x=some (.ref C)) (ha:PA (cxOf (CXe P w) P w K mg base N qual scope f cd A outer s0 H0 E) (e₀ :: es) t)
  (he:starEach (e₀ :: es) (envOfC qual scope s0.heap.objs.size f cd)=(false,eval e₀ (envOfC qual scope s0.heap.objs.size f cd)) :: starEach es (envOfC qual scope s0.heap.objs.size f cd):=by rfl)
  (hpl:(backTo cpos (starEach es (envOfC qual scope s0.heap.objs.size f cd))).any (·.1)=false:=by rfl) (hdb:(x == ("__debug__" : Str))=false:=by decide) :
  PS (cxOf (CXe P w) P w K mg base N qual scope f cd A outer s0 H0 E) (.Raise (some (.Call (.Name x np) (e₀ :: es) [] cpos)) none pos) (tRaise t E C):=by
 intro pins s σ H D I hw
 obtain⟨bm,NN,nm,qn,bs,hdct,sn,sub,ab,col,dd,k0,k1,k2,k3,k5,mN,hC,hN,hni,TL⟩:=own_in I.ok.mod.kin ow
 refine wpAny_Raise_call_subT (C:=C) (nm:=nm) (q:=qn) (N:=NN) (bs:=bs) (bm:=bm) (hdct:=hdct) (sn:=sn) (sub:=sub) (ab:=ab) (col:=col) (dd:=dd) (k0:=k0) (k1:=k1) (k2:=k2) (k3:=k3) (k5:=k5)
  F.excBase_ValueError (mN:=mN) (TL.hasType F.excBase_ValueError.hasBase) (I.ok.hd rfl) ?_ hni (Zfo I hg hm ⟨rfl,?_⟩ hdb)
 ·show(backTo cpos (starEach (e₀ :: es) (envOfC qual scope s0.heap.objs.size f cd))).any (·.1)=false
  rw[he]
  show(false || (backTo cpos (starEach es (envOfC qual scope s0.heap.objs.size f cd))).any (·.1))=false
  rw[hpl]
  rfl
 have h0:=ha cpos pins s σ H _ I hw
 show wpAny (model P w) _ (evalArgs (.ref C) true (backTo cpos (starEach (e₀ :: es) (envOfC qual scope s0.heap.objs.size f cd))) []) _ _ s
 have h1:wpAny (model P w) (A.deeper (envOfC qual scope s0.heap.objs.size f cd)) (spliced (backTo cpos (starEach (e₀ :: es) (envOfC qual scope s0.heap.objs.size f cd)))) _ _ s:=h0
 rw[he]at h1 ⊢
 refine Calls.evalArgs_plain (wpAny_mono h1 (λus s2 hp0=>?_) λ_ _ y=>y)
 obtain⟨vs,H1,I1,r,hz,q⟩:=hp0
 have hus:=r.length
 have hsl:sizeLine=16777216:=sizeLine_eq
 refine⟨rfl,by show us.length≤sizeLine; lia,I1.bk _ _ hC,hN.keeps I1.bk,TL.keeps I1.bk,λh' e hx=>?_⟩
 -- it leaves the frame
 have hin:∀env∈(envOfC qual scope s0.heap.objs.size f cd :: outer),∀b,env.frame=some b→b∈frs (envOfC qual scope s0.heap.objs.size f cd :: outer):=λenv hm b hb=>mem_filterMap.mpr ⟨env,hm,hb⟩
 have funs:s2.heap.FunFrames (hideAll s2.heap (frs (envOfC qual scope s0.heap.objs.size f cd :: outer))) (envOfC qual scope s0.heap.objs.size f cd :: outer):=funFrames_hide I1.stack hin
 have hfree:=I1.stkFree
 have hnew:H1 e=none:=by
  cases z:H1 e with
  | none=>rfl
  | some u=>
   obtain⟨ob,q⟩:=(I1.hok e u z).there
   rw[hx.new]at q
   cases q
 refine wpAny_leaves_madeW I1.ok.frames rfl (λb o q=>of_hideAll _ q) funs hx λh'' t' hfl htup hnt ups=>?_
 refine⟨e,C,t',H1,_,rfl,Zjp (s':={ s2 with heap:=h' }) I1 rfl rfl rfl rfl ⟨rfl,I1.bare,Un.kept hx.keeps,I1.hok.kept hx.keeps,funs.of_keeps (λb o hb _=>⟨o,hx.keeps b o hb,rfl⟩),hnew,hx.new,λb o q _ hb=>hideAll_get _ q hb,λc v hc q=>?_,λb o q hb=>⟨o,hideAll_get _ q hb⟩⟩ hfl ups,hfl,q e hnew⟩
 cases z:H1 c with
 | none=>exact absurd z hc
 | some u=>
  obtain⟨ob,q2⟩:=(I1.hok c u z).there
  have q3:h'.get? c=some v:=q
  rw[hx.keeps c ob q2]at q3
  cases q3
  exact hideAll_get _ q2 λhb=>by
   have:=hfree c hb
   rw[z]at this
   cases this
end
end L2
namespace L2
open PySem PySem.Spec PyProof.Rows PySem.W
noncomputable def mroIn (K:Frag) (C G:Addr):Bool:=match K.lookup C with
 | some ⟨_,_,.cls cd,_⟩=>(cd.mro.drop 1).contains (.ref G)
 | _=>false
end L2
namespace L2
open PySem PySem.Spec PyProof.Rows PySem.W
section
variable {X:Cx}
theorem Zh5 {a:Str}{j:Nat}{p p2 pos:Pos}{e:Expr}{te:TE}(he:PE X e te) (ha:a.length≤1000) :
  PE X (.JoinedStr [.Constant (.str a) j p,.FormattedValue e 114 none p2] pos) (λσ H Q=>te σ H λv H1=>∃x,v=.str x∧(reprText x).length≤100000∧Q (.str (a ++ reprText x)) H1):=by
 intro pins s σ H Q I h
 have hs:sizeLine=16777216:=sizeLine_eq
 refine JoinedStr_many (joinParts_cons (thn (Zf5 (X:=X) (x:=a) (j:=j) (pos:=p) pins s σ H (λv H1=>v=.str a∧H1=H) I ⟨rfl,rfl⟩) λu s1 hp0=>?_))
 obtain⟨v,H1,I1,r1,e1,e2⟩:=hp0
 subst e1 e2
 obtain⟨t,rfl⟩:=r1
 have l1:(Str.empty ++ a).length≤sizeLine:=by rw[Zjr]; lia
 refine⟨l1,joinParts_cons (wpAny_FormattedValue_repr (thn (he pins s1 σ H1 _ I1 h) λu2 s2 hp0=>?_))⟩
 obtain⟨v2,H2,I2,r2,x,e3,lx,q⟩:=hp0
 subst e3
 obtain⟨t2,rfl⟩:=r2
 have la:(a ++ reprText x).length=a.length + (reprText x).length:=by
  show(a.cps ++ (reprText x).cps).size=_
  rw[Array.size_append]
  rfl
 refine wpAny_pyReprObj_str ?_ (by lia)
 refine formatField_str (λt' tk=>?_) (by lia)
 have e4:Str.empty ++ a ++ reprText x=a ++ reprText x:=by rw[Zjr]
 refine⟨by rw[e4]; lia,joinParts_nil ⟨.str (a ++ reprText x),H2,(I2.tok _),⟨_,by rw[e4]⟩,q⟩ (by rw[e4]; lia)⟩
theorem call_isiL:Zcy X (.builtin "isinstance") (λxs H Q=>∃a ys,xs=[.ref a,.ty "list"]∧H a=some (.lst ys)∧Q (.bl true) H):=by
 intro pins s σ H xs us Q I r h
 obtain⟨a,ys,rfl,ha,q⟩:=h
 obtain⟨u1,u2,rfl,r1,r2⟩:=Zlo r
 cases r1
 cases r2
 obtain⟨z2,its2,n2,r2,ho⟩:=I.hok a _ ha
 exact PySem.IsiPair.list_list ho rfl ⟨.bl true,H,I,rfl,q⟩
theorem Fun.okE {P:Program}{w:World}{K:W.Frag}{mg:Str→Option Value}{base:Heap}{x qual:Str}{st:Stmt}{f:Addr}{fd:FuncData}{N ps:List Str}{k:Nat}{sp:Sp}(F:Fun K x qual st f fd) (S:FnScope N ps (Zab st)) (len:∀vs H Q E,sp vs H Q E→vs.length=ps.length)
  (hbody:∀(cdv:Value) (A:Around) (outer:List Env) (s:Shared) (H:Hp) (vs:List V) (Q:VK) (E:XK),Room k (A.deeper (envOfC qual (Zab st) s.heap.objs.size f cdv))→sp vs H Q E →
   ∃t,PSs (cxOf (CXe P w) P w K mg base N qual (Zab st) f cdv A outer s H E) (Zak st) t∧t { nx:=λ_ H'=>Q .non H',rt:=Q } (Zgx N vs) H):FnOk P w K mg base (CXe P w) (k + 1) f fd ps sp:=by
 obtain⟨oc,od,kV,doc,pm,an,cdv,ct,osl,rfl,lk,hcd⟩:=F.ex
 exact Znb lk hcd S len λA outer s H vs Q E hr hsp=>hbody cdv A outer s H vs Q E hr hsp
theorem Zkp {P:Program}{w:World}:Zdu (CXe P w) X E0:=λ_ _ _ _ _ _ _ ⟨_,_,_,_,_,_,_,_,q⟩=>q.elim
end
end L2
namespace L2
open PySem PySem.Spec PyProof.Rows
end L2
namespace L2
open PySem PySem.Spec PyProof.Rows
end L2
namespace L2
open PySem PySem.Spec PyProof.Rows
end L2
namespace SK
end SK
namespace L2
open PySem
theorem set_len {ps:List Str}(h:ps.Nodup):(SK.dd (kAt (ps.map (Sum.inr:Str→Key))) (ps.map (Sum.inr:Str→Key)).length).length=ps.length:=by
 have hk:(ps.map (Sum.inr:Str→Key)).length=ps.length:=length_map ..
 rw[SK.dd_full (n:=ps.length) (λi j hi hj e=>?_) _ (by lia),hk]
 have ei:kAt (ps.map (Sum.inr:Str→Key)) i=Sum.inr ps[i]:=by simp[kAt,List.getD,hi]
 have ej:kAt (ps.map (Sum.inr:Str→Key)) j=Sum.inr ps[j]:=by simp[kAt,List.getD,hj]
 rw[ei,ej]at e
 exact(getElem_inj h).mp (Sum.inr.inj e)
end L2
namespace HT
open PySem PySem.Spec PyProof.Rows
end HT
namespace L2
open PySem PySem.Spec PyProof.Rows
section
variable {X:Cx}
theorem Zkk {P:Program}{w:World}{H:Hp}{h:Heap}(ok:HOk P w H h) {a:Addr}{us:List V}{ds:List PyData}(e:H a=some (.lst us)) (r:RdVs H us ds):∃as,Reads h (.ref a) (.list ds) as:=by
 obtain⟨z,its,n,rv,ho⟩:=ok a _ e
 obtain⟨as,ra⟩:=RdVs.reads ok r rv
 exact⟨_,.list ho rfl rfl (by simpa using ra)⟩
end
end L2
namespace ZT
open PySem PyProof.Rows
end ZT
namespace F17
open PySem
end F17
namespace L2
open PySem PySem.Spec PyProof.Rows
section
variable {X:Cx}{pins:List (Addr×Obj)}{σ:St}{H:Hp}{s:Shared}
theorem Inv.trackF {S:Addr}{ob:HO}(I:Inv X pins σ H s) (hf:FpOk X pins H S) (new:ObjOk X.prog X.w (upd H S ob) s.heap S ob):Inv X pins σ (upd H S ob) s:=by
 refine I.step (H':=upd H S ob) (h':=s.heap) (g':=s.gens) (t':=s.toks) (d':=s.drawn) (ch:=[S]) (λb hb=>?_) (λb o _ _ _ e _=>e) (λb o _ _ _ e _=>⟨o.slots,e⟩) (λb o hc _ n=>?_) (λb o _ e=>⟨o,e⟩)
  (λb xs e=>by rw[Zaj (Zag e hf.1)]; exact e) (λb o xs e=>by rw[Zaj (Zag e hf.1)]; exact e) (λb ps e=>⟨#[],by rw[Zaj (Zag e hf.1),e]; simp⟩) (λm hm=>hm) (λb u e=>?_) I.bare
 ·rw[mem_singleton]at hb
  subst hb
  exact⟨hf.2.2.2.1,hf.2.1,hf.2.2.2.2.1,hf.2.2.2.2.2⟩
 ·rw[Zaj (λz=>hc (mem_singleton.mpr z))]
  exact n
 by_cases hb:b=S
 ·subst hb
  rw[Zac]at e
  cases e
  exact new
 rw[Zaj hb]at e
 exact(I.hok b u e).stay (λc v _ q=>q) (λc q=>by rw[Zaj (Zag q hf.1)]; exact q) λc xs q=>by rw[Zaj (Zag q hf.1)]; exact q
theorem Zhz {H:Hp}{r:Addr}{o:HO}(h:H r=none):Same H (upd H r o):=λb u e=>by rw[Zaj (Zag e h)]; exact e
end
end L2
namespace SG
open PySem
noncomputable def Rs (xs:Array Nat):Prop:=∀(i j:Nat) (a b:Nat),i < j→xs[i]? = some a→xs[j]? = some b→a < b
theorem search {xs:Array Nat}(r:Rs xs) (v:Nat):∀(f lo hi:Nat),hi - lo≤f→lo≤hi→hi≤xs.size→(∀(i a:Nat),i < lo→xs[i]? = some a→a < v)→(∀(i a:Nat),hi≤i→xs[i]? = some a→v≤a) →
  SetTable.below.go xs v f lo hi≤xs.size∧(∀(i a:Nat),i < SetTable.below.go xs v f lo hi→xs[i]? = some a→a < v)∧(∀(i a:Nat),SetTable.below.go xs v f lo hi≤i→xs[i]? = some a→v≤a):=by
 intro f
 induction f with
 | zero=>
  intro lo hi h1 h2 h3 l u
  have e:lo=hi:=by lia
  subst e
  exact⟨h3,l,u⟩
 | succ f ih=>
  intro lo hi h1 h2 h3 l u
  unfold SetTable.below.go
  split
  ·rename_i lt
   have hm:(lo + hi) / 2 < xs.size:=by lia
   have eg:xs.getD ((lo + hi) / 2) v=xs[(lo + hi) / 2]:=by simp[Array.getD,hm]
   have e2:xs[(lo + hi) / 2]? = some xs[(lo + hi) / 2]:=Array.getElem?_eq_getElem hm
   dsimp only
   rw[eg]
   split
   ·rename_i c
    refine ih _ _ (by lia) (by lia) h3 (λi a hi9 e=>?_) u
    rcases lt_or_ge i ((lo + hi) / 2)with z | z
    ·exact lt_trans (r i _ a _ z e e2) c
    have z2:i=(lo + hi) / 2:=by lia
    subst z2
    rw[e2]at e
    cases e
    exact c
   rename_i c
   refine ih _ _ (by lia) (by lia) (by lia) l (λi a hi9 e=>?_)
   rcases lt_or_ge ((lo + hi) / 2) i with z | z
   ·exact le_of_lt (lt_of_le_of_lt (le_of_not_lt c) (r _ i _ a z e2 e))
   have z2:i=(lo + hi) / 2:=by lia
   subst z2
   rw[e2]at e
   cases e
   exact le_of_not_lt c
  rename_i c
  have e:lo=hi:=by lia
  subst e
  exact⟨h3,l,u⟩
theorem place {xs:Array Nat}(r:Rs xs) (v:Nat):SetTable.below xs v≤xs.size∧(∀(i a:Nat),i < SetTable.below xs v→xs[i]? = some a→a < v)∧(∀(i a:Nat),SetTable.below xs v≤i→xs[i]? = some a→v≤a):=
 search r v xs.size 0 xs.size (by lia) (zero_le _) (Nat.le_refl _) (λi a h=>by lia) (λi a h e=>by
  have:=(Array.getElem?_eq_some_iff.mp e).1
  lia)
theorem place_is {xs:Array Nat}(r:Rs xs) {v k:Nat}(hk:k≤xs.size) (l:∀(i a:Nat),i < k→xs[i]? = some a→a < v) (u:∀(i a:Nat),k≤i→xs[i]? = some a→v≤a):SetTable.below xs v=k:=by
 obtain⟨h1,h2,h3⟩:=place r v
 rcases Nat.lt_trichotomy (SetTable.below xs v) k with z | z | z
 ·have hb:SetTable.below xs v < xs.size:=by lia
  have e:=Array.getElem?_eq_getElem hb
  have a1:=l _ _ z e
  have a2:=h3 _ _ (Nat.le_refl _) e
  lia
 ·exact z
 have hb:k < xs.size:=by lia
 have e:=Array.getElem?_eq_getElem hb
 have a1:=h2 _ _ z e
 have a2:=u _ _ (Nat.le_refl _) e
 lia
theorem Zg7 {α:Type}(xs:Array α) {p:Nat}(hp:p≤xs.size) (x:α) (i:Nat):(SetTable.insertAt xs p x)[i]? = if i < p then xs[i]? else if i=p then some x else xs[i - 1]?:=by
 have h:(SetTable.insertAt xs p x).toList=xs.toList.take p ++ x :: xs.toList.drop p:=by
  rw[SetTable.toList_insertAt]
 rw[← Array.getElem?_toList,h,← Array.getElem?_toList,← Array.getElem?_toList]
 have hl:(xs.toList.take p).length=p:=by rw[length_take,Array.length_toList]; lia
 split
 ·rename_i c
  rw[getElem?_append_left (by lia),List.getElem?_take,if_pos c]
 rename_i c
 rw[getElem?_append_right (by lia),hl]
 split
 ·rename_i c2
  subst c2
  simp
 rename_i c2
 obtain⟨d,rfl⟩:∃d,i=p + (d + 1):=⟨i - p - 1,by lia⟩
 rw[show p + (d + 1) - p=d + 1 by lia,List.getElem?_cons_succ,List.getElem?_drop]
 congr 1
theorem rs_ins {xs:Array Nat}(r:Rs xs) {v:Nat}(hn:¬xs[SetTable.below xs v]? = some v):Rs (SetTable.insertAt xs (SetTable.below xs v) v):=by
 obtain⟨h1,h2,h3⟩:=place r v
 have h4:∀(i a:Nat),SetTable.below xs v≤i→xs[i]? = some a→v < a:=by
  intro i a hi e
  rcases lt_or_ge v a with z | z
  ·exact z
  have e2:=h3 i a hi e
  have e3:a=v:=by lia
  subst e3
  rcases Nat.eq_or_lt_of_le hi with q | q
  ·rw[q]at hn; exact absurd e hn
  have hb:SetTable.below xs a < xs.size:=by
   have:=(Array.getElem?_eq_some_iff.mp e).1
   lia
  have e4:=Array.getElem?_eq_getElem hb
  have e5:=r _ _ _ _ q e4 e
  have e6:=h3 _ _ (Nat.le_refl _) e4
  lia
 intro i j a b hij ea eb
 rw[Zg7 _ h1]at ea eb
 split at ea
 ·rename_i c1
  split at eb
  ·exact r i j a b hij ea eb
  split at eb
  ·cases eb
   exact h2 i a c1 ea
  exact r i (j - 1) a b (by lia) ea eb
 split at ea
 ·cases ea
  split at eb
  ·lia
  split at eb
  ·lia
  exact h4 (j - 1) b (by lia) eb
 split at eb
 ·lia
 split at eb
 ·lia
 exact r (i - 1) (j - 1) a b (by lia) ea eb
theorem Zl2 {l:List Nat}(h:l.Pairwise (· < ·)):Rs l.toArray:=by
 intro i j a b hij ea eb
 rw[getElem?_toArray]at ea eb
 obtain⟨hi,rfl⟩:=List.getElem?_eq_some_iff.mp ea
 obtain⟨hj,rfl⟩:=List.getElem?_eq_some_iff.mp eb
 exact pairwise_iff_getElem.mp h i j hi hj hij
theorem Zkg (n:Nat):Rs (Array.range n):=by
 have:Array.range n=(List.range n).toArray:=by simp
 rw[this]
 exact Zl2 pairwise_lt_range
theorem rs_nil:Rs #[]:=λi j a b _ e=>by simp at e
structure Tk (t t':SetTable):Prop where
 rs:Rs t'.place
 led:t'.led=t.led
theorem Zfd (t:SetTable) (n:Nat):Tk t (t.standIn n):=⟨Zkg n,rfl⟩
theorem go_free {t:SetTable}{f:Nat→Int}{h:Int}:∀(n:Nat) (p:SetTable.Probe) (j:Nat) (d:Option Nat),(∀v,p.dummy=some v→¬t.place[SetTable.below t.place v]? = some v)→SetTable.probe.go t f h n p=some (.empty j d) →
  ¬t.place[SetTable.below t.place (d.getD j)]? = some (d.getD j):=by
 intro n
 induction n with
 | zero=>intro p j d _ e; cases e
 | succ n ih=>
  intro p j d hd e
  unfold SetTable.probe.go at e
  split at e
  ·rename_i hs
   cases e
   cases hpd:p.dummy with
   | some v=>exact hd v hpd
   | none=>
    show ¬t.place[SetTable.below t.place p.j]? = some p.j
    intro z
    unfold SetTable.slot at hs
    simp[z]at hs
  ·rename_i hs
   refine ih _ j d (λv hv=>?_) e
   have e3:v=p.j:=by
    unfold SetTable.advance at hv
    split at hv <;> simp at hv <;> exact hv.symm
   subst e3
   intro z
   unfold SetTable.slot at hs
   simp[z]at hs
  split at e
  ·cases e
  refine ih _ j d (λv hv=>hd v ?_) e
  unfold SetTable.advance at hv
  split at hv <;> simpa using hv
theorem lay_ok {t:SetTable}(r:Rs t.place) (es:Array (Int×Value)) (h:Int) (x:Value):Tk t (layNew t es h x).2.1:=by
 unfold layNew
 split
 ·rename_i slot wd hf
  unfold SetTable.freeSlot at hf
  split at hf
  ·rename_i j d hp
   have hn:=go_free _ _ j d (λv hv=>by unfold SetTable.probeStart at hv; simp at hv) hp
   cases hf
   show Tk t ((t.put (d.getD j)).1.orStandIn _)
   unfold SetTable.orStandIn
   split
   ·exact⟨rs_ins r hn,rfl⟩
   exact⟨Zkg _,rfl⟩
  cases hf
 exact Zfd t _
theorem relay_ok {t:SetTable}(es:Array (Int×Value)) (m:Nat):Tk t (relayAll t es m).2.1:=by
 unfold relayAll
 split
 ·rename_i t' order e
  unfold SetTable.relaid SetTable.laid at e
  cases ho:SetTable.layClean (SetTable.sizeAbove m - 1) (es.map (·.1))with
  | none=>rw[ho]at e; cases e
  | some owner=>
   rw[ho]at e
   have e2:some _=some (t',order):=e
   cases e2
   dsimp only
   split
   ·refine⟨?_,rfl⟩
    dsimp only
    refine Zl2 ?_
    have hsub:∀l:List Nat,(List.map (λx=>x.1) (l.filterMap λj=>(owner.getD j none).map (j,·))).Sublist l:=by
     intro l
     induction l with
     | nil=>exact List.Sublist.slnil
     | cons a r ih=>
      rw[filterMap_cons]
      cases hh:owner.getD a none with
      | none=>exact List.Sublist.cons _ ih
      | some v=>exact List.Sublist.cons₂ _ ih
    exact List.Pairwise.sublist (hsub _) pairwise_lt_range
   exact Zfd t _
 exact Zfd t _
theorem perm_of {κ:Type} [DecidableEq κ]:∀{l m:List κ},l.Nodup→(∀x∈l,x∈m)→m.length≤l.length→m.Perm l
 | [],m,_,_,h=>by
  cases m with
  | nil=>exact List.Perm.refl _
  | cons a r=>simp at h
 | a :: l,m,nd,sub,h=>by
  (obtain⟨n1,n2⟩:=nodup_cons.mp nd)
  have ha:=sub a mem_cons_self
  have p1:=List.perm_cons_erase ha
  have p2:(m.erase a).Perm l:=perm_of n2 (λx hx=>(List.mem_erase_of_ne (λ(e:x=a)=>n1 (e ▸ hx))).mpr (sub x (mem_cons_of_mem _ hx))) (by
   have:=p1.length_eq
   rw[length_cons]at this h
   lia)
  exact p1.trans (p2.cons a)
end SG
namespace SG
open PySem
structure Gd (w:World) (t:SetTable):Prop where
 rs:Rs t.place
 led:t.led=!w.params.followText "set-order"
theorem Gd.tk {w:World}{t r:SetTable}(g:Gd w t) (k:Tk t r):Gd w r:=⟨k.rs,k.led.trans g.led⟩
noncomputable abbrev oSet (es:Array (Int×Value)) (ep:Nat) (t:SetTable):Obj:={ cls:=.type "set",dict:=none,data:=.set es ep t,slots:=#[] }
section
variable {prog:Program}{w:World}{κ:Type} [DecidableEq κ] (knd:KeyKind prog w κ)
structure InS (S:κ→Bool) (n:Nat) (es:Array (Int×Value)) (t:SetTable):Prop where
 el:ElemsOf knd es.toList
 me:∀k,S k=true↔∃e∈es.toList,knd.is k e.2=true
 bd:es.size < scanBound
 ft:t.fits es.size=true
 sz:es.size=n
 gd:Gd w t
noncomputable def SetG (h:Heap) (b:Addr) (S:κ→Bool) (n:Nat):Prop:=∃es ep t,h.get? b=some (oSet es ep t)∧InS knd S n es t
variable {knd}{A:Around}{E:Value→Shared→Prop}{s:Shared}
theorem Znk {h:Heap}{b:Addr}{es us:Array (Int×Value)}{ep:Nat}{t r:SetTable}(ho:h.get? b=some (oSet es ep t)):(h.update b (Obj.putSet us r)).get? b=some (oSet us (ep + 1) r):=
 Heap.get?_update_self (Obj.putSet us r) ho rfl
theorem after {g:Bool→Sem Unit}(hg:∀(c:Bool) (z:Shared) (F:Unit→Shared→Prop),F () z→wpAny (model prog w) A (g c) F E z) {b:Addr}{es us:Array (Int×Value)}{ep:Nat}{t r:SetTable}
  (ho:s.heap.get? b=some (oSet es ep t)) {S:κ→Bool}(q:InS knd S us.size us r) {wd:Bool}{Rr:Option Bool→Shared→Prop}
  (fin:∀h',Heap.SameBut b s.heap h'→SetG knd h' b S us.size→Rr (some true) { s with heap:=h' }) :
  wpAny (model prog w) A (do
   storeSet b us r
   if (!wd && r.tooFull)=true then do
     g (relayAll r us (SetTable.grown us.size)).2.2
     storeSet b (relayAll r us (SetTable.grown us.size)).1 (relayAll r us (SetTable.grown us.size)).2.1
     pure (some true)
    else pure (some true)) Rr E s:=by
 refine wpAny_bind (wpAny_storeSet_of ho rfl ?_ (fits_of_scanBound q.bd))
 have o1:=Znk (us:=us) (r:=r) ho
 have b1:=Heap.SameBut.update s.heap b (Obj.putSet us r)
 split
 ·have pm:=relayAll_perm r us (SetTable.grown us.size)
  have fr:=relayAll_fits r us (SetTable.grown us.size)
  have tk:=relay_ok (t:=r) us (SetTable.grown us.size)
  generalize relayAll r us (SetTable.grown us.size)=Z at pm fr tk ⊢
  obtain⟨ys,t3,gv⟩:=Z
  dsimp only at pm fr tk ⊢
  have hz:ys.size=us.size:=by rw[← Array.length_toList,pm.length_eq,Array.length_toList]
  have bd2:ys.size < scanBound:=by rw[hz]; exact q.bd
  refine wpAny_bind (hg _ _ _ (wpAny_bind (wpAny_storeSet_of o1 rfl (wpAny_pure (fin _ (b1.trans (Heap.SameBut.update _ b _)) ⟨ys,_,t3,Znk o1,q.el.perm pm,λk=>(q.me k).trans ⟨?_,?_⟩,bd2,fr,hz,q.gd.tk tk⟩)) (fits_of_scanBound bd2))))
  ·rintro⟨e,he,z⟩
   exact⟨e,pm.mem_iff.mpr he,z⟩
  rintro⟨e,he,z⟩
  exact⟨e,pm.mem_iff.mp he,z⟩
 exact wpAny_pure (fin _ b1 ⟨us,_,r,o1,q⟩)
theorem add {b:Addr}{S:κ→Bool}{n:Nat}{k:κ}{x:Value}{Q:Bool→Shared→Prop}(key:knd.is k x=true) (sc:x.scannable=true) (g:SetG knd s.heap b S n) (room:n + 1 < scanBound)
  (fin:∀h',Heap.SameBut b s.heap h'→SetG knd h' b (λy=>S y || decide (y=k)) (if S k then n else n + 1)→Q (!S k) { s with heap:=h' }) :
  wpAny (model prog w) A (setAddHashed b x (knd.hash k)) Q E s:=by
 obtain⟨es,ep,t,ho,i⟩:=g
 (unfold setAddHashed setAddHashedIn)
 refine wpAny_holding (wpAny_bind (wpAny_setState_of ho rfl i.ft ?_))
 dsimp only
 rw[byScan_of sc i.bd i.el]
 simp only[↓reduceIte]
 unfold setAddByScan
 refine wpAny_bind (wpAny_bind (wpAny_rule (wpAny_bind (wpAny_setScan_of key ho rfl i.ft i.el ?_))))
 cases hfi:List.findIdx? (λe=>knd.is k e.2) es.toList with
 | some j=>
  dsimp only
  obtain⟨hj,pj,_⟩:=List.findIdx?_eq_some_iff_getElem.mp hfi
  have yes:S k=true:=(i.me k).mpr ⟨_,getElem_mem hj,pj⟩
  have z:=fin s.heap (Heap.SameBut.refl b s.heap) ⟨es,ep,t,ho,i.el,λy=>?_,i.bd,i.ft,by rw[yes]; exact i.sz,i.gd⟩
  ·rw[yes]at z
   (exact wpAny_pure (wpAny_pure z))
  rw[← i.me y,Bool.or_eq_true,decide_eq_true_eq]
  exact⟨λc=>c.elim id λe=>e ▸ yes,.inl⟩
 | none=>
  dsimp only
  have no:S k=false:=by
   refine Bool.eq_false_iff.mpr λc=>?_
   obtain⟨e,he,pe⟩:=(i.me k).mp c
   exact Bool.noConfusion ((List.findIdx?_eq_none_iff.mp hfi e he).symm.trans pe)
  have quiet:∀(c:Bool) (z:Shared) (F:Unit→Shared→Prop),F () z→wpAny (model prog w) A (match c with | true=>rule "set.scan.the-table-gave-way" | false=>pure ()) F E z:=λc z F f=>by
   cases c
   ·exact wpAny_pure f
   exact wpAny_rule f
  have pm:=layNew_perm t es (knd.hash k) x
  have fr:=layNew_fits t es (knd.hash k) x
  have tk:=lay_ok i.gd.rs es (knd.hash k) x
  generalize layNew t es (knd.hash k) x=Z at pm fr tk ⊢
  obtain⟨us,t1,wd,gv⟩:=Z
  dsimp only at pm fr tk ⊢
  rw[Array.toList_push]at pm
  have hz:us.size=n + 1:=by rw[← Array.length_toList,pm.length_eq,length_append,Array.length_toList,i.sz]; rfl
  refine wpAny_bind (quiet _ _ _ ?_)
  have iu:∀r:SetTable,r.fits us.size=true→Gd w r→InS knd (λy=>S y || decide (y=k)) us.size us r:=λr h1 h2=>
   ⟨(i.el.push key sc).perm pm,mem_push_iff key i.me pm,by lia,h1,rfl,h2⟩
  have last:∀h',Heap.SameBut b s.heap h'→SetG knd h' b (λy=>S y || decide (y=k)) us.size→Q true { s with heap:=h' }:=λh' c1 c2=>by
   have z:=fin h' c1
   rw[no]at z
   rw[hz]at c2
   exact z c2
  split
  ·refine wpAny_bind ?_
   rw[hashByValue_scannable 8 sc]
   refine wpAny_pure (after (knd:=knd) quiet ho (iu _ ?_ ?_) λh' c1 c2=>wpAny_pure (last h' c1 c2))
   ·split
    ·exact fr
    exact SetTable.fits_plain_off fr
   split
   ·exact i.gd.tk tk
   exact⟨tk.rs,tk.led.trans i.gd.led⟩
  refine wpAny_bind (wpAny_pure (?_:_))
  simp only[↓reduceIte]
  exact after (knd:=knd) quiet ho (iu _ fr (i.gd.tk tk)) λh' c1 c2=>wpAny_pure (last h' c1 c2)
end
end SG
namespace SG
open PySem
open Sem (wp)
theorem sl_next:Slot "set_iterator" "__next__" "set_iterator.__next__" := .of (owner := "set_iterator") (n := "__next__") (by rw[typeLookup_type,builtinLookup_eq_fast]; kernel_rfl)
 (by decide +kernel) (by decide +kernel) (by decide +kernel) (by first | exact .inl (by decide +kernel) | exact .inr (by decide +kernel))
 (by rw[isSubtype_type]; kernel_rfl)
theorem Zmq:entryFor table "set_iterator.__next__" = some Builtin.«set_iterator.__next__»:=entryFor_of_fast (by kernel_rfl)
theorem Zm4 (v:Value):argsOk "set_iterator.__next__" ⟨[v],[]⟩:=by unfold argsOk; kernel_rfl
theorem en_iter:entryFor table "set.__iter__" = some Builtin.«frozenset.__iter__»:=entryFor_alias (id' := "frozenset.__iter__") (by kernel_rfl) rfl (by decide +kernel) (by kernel_rfl)
section
variable {prog:Program}{w:World}{A:Around}{E:Value→Shared→Prop}{s:Shared}
theorem wpAny_choose' {M:Model}{src:Source}{n:Nat}{Q:Nat→Shared→Prop}(h0:n≠0) (q:∀i d,i < n→Q i { s with drawn:=d }):wpAny M A (choose src n) Q E s:=λΓ p _=>by
 show wp M Γ (.choose src n .pure) _ _ p s
 rw[Sem.wp_choose]
 exact⟨h0,q _ _ (mod_lt _ (Nat.pos_of_ne_zero h0))⟩
theorem Zfr {α:Type}:∀{l:List α}{i:Nat}(h:i < l.length),(l[i] :: l.eraseIdx i).Perm l
 | [],i,h=>nomatch h
 | a :: r,0,_=>List.Perm.refl _
 | a :: r,i + 1,h=>((List.Perm.swap a _ _).symm.symm).trans ((Zfr (l:=r) (i:=i) (Nat.lt_of_succ_lt_succ h)).cons a)
theorem Zjt {M:Model}{α:Type}:∀(n:Nat) (xs:List α),xs.length=n→∀(s:Shared) (Q:List α→Shared→Prop),(∀ys d,ys.Perm xs→Q ys { s with drawn:=d })→wpAny M A (drawOrder n xs) Q E s
 | 0,xs,h,s,Q,q=>by
  obtain rfl:=length_eq_zero_iff.mp h
  exact wpAny_pure (q [] s.drawn (List.Perm.refl _))
 | n + 1,[],h,_,_,_=>by cases h
 | n + 1,x :: xs,h,s,Q,q=>by
  show wpAny M A (choose .order (x :: xs).length >>= _) _ _ _
  refine wpAny_bind (wpAny_choose' (by simp) λi d hi=>?_)
  have e:(x :: xs)[i]? = some (x :: xs)[i]:=getElem?_eq_getElem hi
  rw[e]
  dsimp only
  refine wpAny_bind (Zjt n _ (by rw[List.length_eraseIdx_of_lt hi,h]; rfl) _ _ λys d2 p=>wpAny_pure (q _ d2 ?_))
  refine(p.cons _).trans ?_
  exact Zfr hi
noncomputable abbrev oIt (f:Value) (i:Nat) (b:Addr) (n ep:Nat):Obj:={ cls:=.type "set_iterator",dict:=none,data:=.fields #[f,.int i 0,.ref b,.int n 0,.int ep 0],slots:=#[] }
noncomputable abbrev oPl (ps:List Nat):Obj:={ cls:=.type "tuple",dict:=none,data:=.seq (ps.map λ(i:Nat)=>rawInt i).toArray 0,slots:=#[] }
noncomputable def Zgy (t:SetTable):Nat→Nat
 | 0=>0
 | k + 1=>t.place.getD k 0 + 1
theorem Zl8 {α:Type}(f:Nat→Nat):∀(n k:Nat) (xs:List α) (out:Array α),xs.length=n→(pickOrder.go f n k xs out).toList.Perm (out.toList ++ xs)
 | 0,k,xs,out,h=>by
  obtain rfl:=length_eq_zero_iff.mp h
  rw[append_nil]
  exact List.Perm.refl _
 | n + 1,k,xs,out,h=>by
  have hi:f k % xs.length < xs.length:=mod_lt _ (by lia)
  unfold pickOrder.go
  rw[getElem?_eq_getElem hi]
  dsimp only
  refine(Zl8 f n (k + 1) _ _ (by rw[List.length_eraseIdx_of_lt hi,h]; rfl)).trans ?_
  rw[Array.toList_push,append_assoc]
  exact(Zfr hi).append_left _
theorem Zje {α:Type}(f:Nat→Nat) (xs:Array α):(pickOrder f xs).toList.Perm xs.toList:=by
 have:=Zl8 f xs.size 0 xs.toList #[] (by simp)
 rw[List.nil_append]at this
 exact this
inductive Way (w:World) (b:Addr) (es:Array (Int×Value)) (ep:Nat) (t:SetTable):(Nat→Value)→List (Addr×Obj)→List Value→Prop
 | text:w.params.followText "set-order" = true→Way w b es ep t (λ_=>.int 0 0) [] ((pickOrder (w.params.setOrder b ep) es).toList.map (·.2))
 | slots:w.params.followText "set-order" = false→(!t.plain && decide (es.size > 1))=false→Way w b es ep t (λi=>.int (Zgy t i) 0) [] (es.toList.map (·.2))
 | drawn (T:Addr) (ps:List Nat):w.params.followText "set-order" = false→ps.Perm (List.range es.size)→Way w b es ep t (λ_=>.ref T) [(T,oPl ps)] (ps.map λi=>((es[i]?).map (·.2)).getD .none)
theorem Way.perm {b:Addr}{es:Array (Int×Value)}{ep:Nat}{t:SetTable}{f:Nat→Value}{nw:List (Addr×Obj)}{ys:List Value}(y:Way w b es ep t f nw ys):ys.Perm (es.toList.map (·.2)):=by
 cases y with
 | text _=>exact(Zje _ es).map _
 | slots _ _=>exact List.Perm.refl _
 | drawn T ps _ h=>
  refine(h.map _).trans (List.Perm.of_eq ?_)
  refine ext_getElem (by simp) λi h1 h2=>?_
  rw[length_map,length_range]at h1
  simp[h1]
theorem Zgi {b:Addr}{es:Array (Int×Value)}{ep:Nat}{t:SetTable}{Q:Option (Value×Nat)→Shared→Prop}{slot i:Nat}(ho:s.heap.get? b=some (oSet es ep t)) (ft:t.fits es.size=true) :
  (w.params.followText "set-order" = true→Q (((pickOrder (w.params.setOrder b ep) es)[i]?).map λe=>(e.2,slot)) s) →
  (w.params.followText "set-order" = false→(!t.plain && decide (es.size > 1))=false∧t.led=true∧Q (match es[SetTable.below t.place slot]?,t.place[SetTable.below t.place slot]? with | some (_,x),some j=>some (x,j + 1) | _,_=>none) s) →
  wpAny (model prog w) A (setNext b slot i ep) Q E s:=by
 intro h1 h2
 unfold setNext
 refine wpAny_bind (wpAny_setState_of ho rfl ft ?_)
 dsimp only
 unfold setsByText
 (refine wpAny_bind (wpAny_bind (wpAny_askSetting (wpAny_pure ?_))))
 cases hb:w.params.followText "set-order" with
 | true=>
  have e:(model prog w).w.params.followText "set-order" = true:=hb
  simp only[e,↓reduceIte]
  (simp only[bne_self_eq_false,false_eq_true,↓reduceIte])
  refine wpAny_bind ?_
  unfold setWalk setsByText
  refine wpAny_bind (wpAny_setState_of ho rfl ft ?_)
  dsimp only
  (refine wpAny_bind (wpAny_bind (wpAny_askSetting (wpAny_pure ?_))))
  simp only[e,↓reduceIte]
  exact wpAny_bind (wpAny_askSetting (wpAny_pure (wpAny_pure (h1 hb))))
 | false=>
  have e:(model prog w).w.params.followText "set-order" = false:=hb
  obtain⟨a1,a2,a3⟩:=h2 hb
  simp only[e,false_eq_true,↓reduceIte]
  split
  ·rename_i c
   have c2:(!t.plain && decide (es.size > 1))=true:=c
   rw[a1]at c2
   cases c2
  refine wpAny_bind ?_
  show wpAny _ _ (if (!t.led && !es.isEmpty)=true then unsupported "set:maker-not-led" else pure PUnit.unit) _ _ _
  rw[a2]
  exact wpAny_pure (wpAny_pure a3)
theorem Zhk {t:SetTable}(r:Rs t.place) {i:Nat}(h:i≤t.place.size):SetTable.below t.place (Zgy t i)=i:=by
 refine place_is r h (λj a hj e=>?_) (λj a hj e=>?_)
 ·cases i with
  | zero=>lia
  | succ k=>
   have hk:k < t.place.size:=h
   have ek:t.place[k]? = some t.place[k]:=Array.getElem?_eq_getElem hk
   have e3:Zgy t (k + 1)=t.place[k] + 1:=by
    show t.place.getD k 0 + 1=_
    simp[Array.getD,hk]
   rw[e3]
   rcases lt_or_ge j k with z | z
   ·exact lt_succ_of_lt (r j k _ _ z e ek)
   obtain rfl:j=k:=by lia
   rw[ek]at e
   cases e
   exact lt_succ_self _
 cases i with
 | zero=>exact zero_le _
 | succ k=>
  have hk:k < t.place.size:=h
  have ek:t.place[k]? = some t.place[k]:=Array.getElem?_eq_getElem hk
  have e3:Zgy t (k + 1)=t.place[k] + 1:=by
   show t.place.getD k 0 + 1=_
   simp[Array.getD,hk]
  rw[e3]
  exact r k j _ _ hj ek e
theorem stop_iter {α:Type}{Q:α→Shared→Prop}(hh:A.handled=none) (q:∀h' e,(∀b o,s.heap.get? b=some o→h'.get? b=some o)→(∃o,h'.get? e=some o∧o.cls=.type "StopIteration")→E (.ref e) { s with heap:=h' }) :
  wpAny (model prog w) A (newExc (.type "StopIteration") [] >>= λe=>(raiseNew e:Sem α)) Q E s:=by
 refine wpAny_bind ?_
 simp only[newExc,newTuple]
 (refine wpAny_bind (wpAny_newObj_type ?_ (by size_fits)))
 (refine wpAny_bind (m:=firstArgMember _ _) (wpAny_of_eq (a:=Value.none) (by first | rfl | (simp only[firstArgMember]; rfl)) ?_))
 (refine wpAny_newObj_type ?_ (by size_fits))
 simp only[raiseNew]
 (refine wpAny_bind (wpAny_handled ?_))
 rw[hh]
 (refine wpAny_bind (wpAny_pure (wpAny_throw ?_)))
 exact q _ _ (λb o e=>Heap.get?_push_of_some _ (Heap.get?_push_of_some _ e)) ⟨_,Heap.get?_push_size _ rfl,rfl⟩
theorem step_v {b I:Addr}{es:Array (Int×Value)}{ep i:Nat}{t:SetTable}{f:Nat→Value}{nw:List (Addr×Obj)}{ys:List Value}{v:Value}{Q:Option Value→Shared→Prop}(y:Way w b es ep t f nw ys) (g:Gd w t) (ft:t.fits es.size=true)
  (hI:s.heap.get? I=some (oIt (f i) i b es.size ep)) (hb:s.heap.get? b=some (oSet es ep t)) (hn:∀p∈nw,s.heap.get? p.1=some p.2) (hv:ys[i]? = some v)
  (q:∀h',h'.get? I=some (oIt (f (i + 1)) (i + 1) b es.size ep)→Heap.SameBut I s.heap h'→Q (some v) { s with heap:=h' }):wpAny (model prog w) A (pyNext (.ref I)) Q E s:=by
 have ty:s.TypeIs (.ref I) "set_iterator" := ⟨_,hI,rfl⟩
 unfold pyNext
 refine wpAny_bind (wpAny_attempt (wpAny_callSpecial?_slot (name:=Str.ofString "__next__") ty sl_next (wpAny_call_entry sl_next ty Zmq ?_ (Zm4 _))))
 unfold Builtin.«set_iterator.__next__»
 refine wpAny_bind (m:=slotArgs "__next__" 0 _) (wpAny_pure ?_)
 refine wpAny_bind (wpAny_fieldsOf hI rfl ?_)
 dsimp only
 refine wpAny_bind (wpAny_setEntries_of hb rfl ft ?_)
 rw[if_neg (by simp)]
 have hps:t.place.size=es.size:=by
  unfold SetTable.fits at ft
  simp only[and_eq_true,beq_iff_eq]at ft
  exact ft.1
 cases y with
 | text ht=>
  simp only[toNat_natCast]
  rw[getElem?_map,Array.getElem?_toList]at hv
  obtain⟨e,he,rfl⟩:=map_eq_some_iff.mp hv
  refine wpAny_bind (Zgi hb ft (λ_=>?_) (λhf=>by rw[ht]at hf; cases hf))
  rw[he]
  refine wpAny_bind (wpAny_setField_rec hI (by simp) λh1 o1 b1=>wpAny_bind (wpAny_setField_rec o1 (by simp) λh2 o2 b2=>wpAny_pure ⟨e.2,rfl,wpAny_pure (q h2 o2 (b1.trans b2))⟩))
 | slots hf hd=>
  simp only[toNat_natCast]
  rw[getElem?_map,Array.getElem?_toList]at hv
  obtain⟨e,he,rfl⟩:=map_eq_some_iff.mp hv
  have hi:=(Array.getElem?_eq_some_iff.mp he).1
  have ep2:t.place[i]? = some t.place[i]:=Array.getElem?_eq_getElem (by lia)
  refine wpAny_bind (Zgi hb ft (λht=>by rw[ht]at hf; cases hf) (λ_=>⟨hd,by rw[g.led,hf]; rfl,?_⟩))
  rw[Zhk g.rs (by lia),he,ep2]
  refine wpAny_bind (wpAny_setField_rec hI (by simp) λh1 o1 b1=>wpAny_bind (wpAny_setField_rec o1 (by simp) λh2 o2 b2=>wpAny_pure ⟨e.2,rfl,wpAny_pure (q h2 ?_ (b1.trans b2))⟩))
  have e3:Zgy t (i + 1)=t.place[i] + 1:=by
   show t.place.getD i 0 + 1=_
   simp[Array.getD,show i < t.place.size by lia]
  show h2.get? I=some (oIt (.int ((Zgy t (i + 1):Nat):Int) 0) (i + 1) b es.size ep)
  rw[e3]
  exact o2
 | drawn T ps hf hp=>
  simp only[toNat_natCast]
  rw[getElem?_map]at hv
  obtain⟨p,hpi,rfl⟩:=map_eq_some_iff.mp hv
  have hpl:p < es.size:=mem_range.mp (hp.mem_iff.mp (mem_of_getElem? hpi))
  refine wpAny_bind (wpAny_seqItems (hn (T,oPl ps) (mem_singleton.mpr rfl)) rfl ?_)
  dsimp only
  have e1:(ps.map λ(i:Nat)=>rawInt i).toArray[i]? = some (Value.int p 0):=by
   rw[getElem?_toArray,getElem?_map,hpi]
   rfl
  rw[e1]
  dsimp only
  have e2:es[p]? = some es[p]:=Array.getElem?_eq_getElem hpl
  refine wpAny_bind (m:=setNextDrawn b _ _) ?_
  unfold setNextDrawn
  refine wpAny_bind (wpAny_setState_of hb rfl ft ?_)
  dsimp only
  simp only[toNat_natCast,bne_self_eq_false,false_eq_true,↓reduceIte,e2]
  refine wpAny_pure (wpAny_bind (wpAny_setField_rec hI (by simp) λh1 o1 b1=>wpAny_pure ⟨_,rfl,wpAny_pure ?_⟩))
  have z:=q h1 o1 b1
  rw[e2]at z
  exact z
theorem step_0 {b I:Addr}{es:Array (Int×Value)}{ep:Nat}{t:SetTable}{f:Nat→Value}{nw:List (Addr×Obj)}{ys:List Value}{Q:Option Value→Shared→Prop}(hh:A.handled=none) (y:Way w b es ep t f nw ys) (g:Gd w t) (ft:t.fits es.size=true)
  (hI:s.heap.get? I=some (oIt (f es.size) es.size b es.size ep)) (hb:s.heap.get? b=some (oSet es ep t)) (hn:∀p∈nw,s.heap.get? p.1=some p.2)
  (q:∀h',(∀c o,c≠I→s.heap.get? c=some o→h'.get? c=some o)→Q none { s with heap:=h' }):wpAny (model prog w) A (pyNext (.ref I)) Q E s:=by
 have ty:s.TypeIs (.ref I) "set_iterator" := ⟨_,hI,rfl⟩
 unfold pyNext
 refine wpAny_bind (wpAny_attempt (wpAny_callSpecial?_slot (name:=Str.ofString "__next__") ty sl_next (wpAny_call_entry sl_next ty Zmq ?_ (Zm4 _))))
 unfold Builtin.«set_iterator.__next__»
 refine wpAny_bind (m:=slotArgs "__next__" 0 _) (wpAny_pure ?_)
 refine wpAny_bind (wpAny_fieldsOf hI rfl ?_)
 dsimp only
 refine wpAny_bind (wpAny_setEntries_of hb rfl ft ?_)
 rw[if_neg (by simp)]
 have hps:t.place.size=es.size:=by
  unfold SetTable.fits at ft
  simp only[and_eq_true,beq_iff_eq]at ft
  exact ft.1
 have fin:∀(h1:Heap) (F:Fin→Shared→Prop),Heap.SameBut I s.heap h1→wpAny (model prog w) A.in1 (newExc (.type "StopIteration") [] >>= λe=>(raiseNew e:Sem Fin)) F (λe s'=>wpAny (model prog w) A (do
    let c ← isInstance e (Value.type "StopIteration")
    if c=true then pure none else throw e) Q E s') { s with heap:=h1 }:=by
  intro h1 F b1
  refine stop_iter hh λh2 e k2 z=>?_
  obtain⟨o,ho,hc⟩:=z
  exact wpAny_bind (wpAny_isInstance (T := "StopIteration") (b:=true) ⟨o,ho,hc⟩ isSubtype_stop (wpAny_pure (q _ λc o c1 e=>k2 _ _ (b1.extBut _ _ c1 e))))
 cases y with
 | text ht=>
  simp only[toNat_natCast]
  have he:(pickOrder (w.params.setOrder b ep) es)[es.size]? = none:=by
   refine Array.getElem?_eq_none ?_
   have:=(Zje (w.params.setOrder b ep) es).length_eq
   simp only[Array.length_toList]at this
   lia
  refine wpAny_bind (Zgi hb ft (λ_=>?_) (λhf=>by rw[ht]at hf; cases hf))
  rw[he]
  exact wpAny_bind (wpAny_setField_rec hI (by simp) λh1 o1 b1=>fin h1 _ b1)
 | slots hf hd=>
  simp only[toNat_natCast]
  refine wpAny_bind (Zgi hb ft (λht=>by rw[ht]at hf; cases hf) (λ_=>⟨hd,by rw[g.led,hf]; rfl,?_⟩))
  rw[Zhk g.rs (by lia),Array.getElem?_eq_none (Nat.le_refl _)]
  exact wpAny_bind (wpAny_setField_rec hI (by simp) λh1 o1 b1=>fin h1 _ b1)
 | drawn T ps hf hp=>
  simp only[toNat_natCast]
  refine wpAny_bind (wpAny_seqItems (hn (T,oPl ps) (mem_singleton.mpr rfl)) rfl ?_)
  dsimp only
  have e1:(ps.map λ(i:Nat)=>rawInt i).toArray[es.size]? = none:=by
   refine Array.getElem?_eq_none ?_
   have:=hp.length_eq
   simp at this ⊢
   lia
  rw[e1]
  dsimp only
  exact wpAny_bind (wpAny_setField_rec hI (by simp) λh1 o1 b1=>wpAny_bind (wpAny_setField_rec o1 (by simp) λh2 o2 b2=>fin h2 _ (b1.trans b2)))
end
end SG
namespace SG
open PySem
theorem Zl0:Slot "set_iterator" "__iter__" "set_iterator.__iter__" := .of (owner := "set_iterator") (n := "__iter__") (by rw[typeLookup_type,builtinLookup_eq_fast]; kernel_rfl)
 (by decide +kernel) (by decide +kernel) (by decide +kernel) (by first | exact .inl (by decide +kernel) | exact .inr (by decide +kernel))
 (by rw[isSubtype_type]; kernel_rfl)
theorem en_self:entryFor table "set_iterator.__iter__" = some Builtin.«dict_keyiterator.__iter__»:=entryFor_alias (id' := "dict_keyiterator.__iter__") (by kernel_rfl) rfl (by decide +kernel) (by kernel_rfl)
theorem ar_self (v:Value):argsOk "set_iterator.__iter__" ⟨[v],[]⟩:=by unfold argsOk; kernel_rfl
theorem ln_set:typeLookup (.type "set") "__len__" = pure (some (.builtin "set.__len__")):=by rw[typeLookup_type,builtinLookup_eq_fast]; kernel_rfl
section
variable {prog:Program}{w:World}{A:Around}{E:Value→Shared→Prop}{s:Shared}
theorem walks {b I:Addr}{es:Array (Int×Value)}{ep:Nat}{t:SetTable}{f:Nat→Value}{nw:List (Addr×Obj)}{ys:List Value}(hh:A.handled=none) (y:Way w b es ep t f nw ys) (g:Gd w t) (ft:t.fits es.size=true) (hl:ys.length=es.size) (n1:b≠I) (n2:∀p∈nw,p.1≠I) :
  WalksS prog w A I (I :: b :: nw.map (·.1)) [I] (λx z=>x=z) es.size (λi v=>ys[i]? = some v)
   (λi s=>s.heap.get? I=some (oIt (f i) i b es.size ep)∧s.heap.get? b=some (oSet es ep t)∧∀p∈nw,s.heap.get? p.1=some p.2) where
 sub:=λc hc=>by rw[mem_singleton.mp hc]; exact mem_cons_self
 grefl:=λ_=>rfl
 gtrans:=λ_ _ _ a b=>a.trans b
 frame:=λi s h' tk st _ k=>⟨k I mem_cons_self _ st.1,k b (mem_cons_of_mem _ mem_cons_self) _ st.2.1,λp hp=>k p.1 (mem_cons_of_mem _ (mem_cons_of_mem _ (List.mem_map_of_mem hp))) _ (st.2.2 p hp)⟩
 item:=λi s Q E hi st q=>by
  refine step_v (v:=ys[i]'(by lia)) y g ft st.1 st.2.1 st.2.2 (getElem?_eq_getElem _) λh' o1 b1=>?_
  refine q _ _ (getElem?_eq_getElem _) ⟨o1,b1.extBut _ _ n1 st.2.1,λp hp=>b1.extBut _ _ (n2 p hp) (st.2.2 p hp)⟩ ⟨λc o hc e=>b1.extBut _ _ (λz=>hc (by rw[z]; exact mem_singleton.mpr rfl)) e,rfl,rfl,rfl,Nat.le_refl _⟩
 done:=λs Q E st q=>step_0 hh y g ft st.1 st.2.1 st.2.2 λh' k=>q _ ⟨λc o hc e=>k c o (λz=>hc (by rw[z]; exact mem_singleton.mpr rfl)) e,rfl,rfl,rfl,Nat.le_refl _⟩
 self:=λi s Q E st q=>by
  have ty:s.TypeIs (.ref I) "set_iterator" := ⟨_,st.1,rfl⟩
  refine wpAny_pyIter_slot ty Zl0 (wpAny_call_entry Zl0 ty en_self ?_ (ar_self _))
  show wpAny _ _ (ret (.ref I)) _ _ s
  exact wpAny_pure ⟨_,rfl, "set_iterator",_,ty,sl_next.lookup,q⟩
theorem iter_set {b:Addr}{es:Array (Int×Value)}{ep:Nat}{t:SetTable}{Q:Value→Shared→Prop}(g:Gd w t) (ft:t.fits es.size=true) (hz:es.size≤1000) (hb:s.heap.get? b=some (oSet es ep t))
  (q:∀(h':Heap) (d:Drawn) (I:Addr) (f:Nat→Value) (nw:List (Addr×Obj)) (ys:List Value),Way w b es ep t f nw ys→s.heap.objs.size≤I→(∀p∈nw,s.heap.objs.size≤p.1∧p.1≠I∧h'.get? p.1=some p.2)→h'.get? I=some (oIt (f 0) 0 b es.size ep) →
   (∀c o,s.heap.get? c=some o→h'.get? c=some o)→Q (.ref I) { s with heap:=h',drawn:=d }):wpAny (model prog w) A (pyIter (.ref b)) Q E s:=by
 have ty:s.TypeIs (.ref b) "set" := ⟨_,hb,rfl⟩
 refine wpAny_pyIter_slot ty F.slot_set_iter (wpAny_call_entry F.slot_set_iter ty en_iter ?_ (F.args_set_iter_1 _))
 unfold Builtin.«frozenset.__iter__»
 refine wpAny_bind (m:=Builtin.Frozenset.slot0 "__iter__" _) (wpAny_pure ?_)
 refine wpAny_bind (m:=Builtin.Frozenset.sizeOf b) (wpAny_bind (wpAny_setEntries_of hb rfl ft (wpAny_pure ?_)))
 dsimp only
 have made:∀(f:Nat→Value) (nw:List (Addr×Obj)) (ys:List Value) (h1:Heap) (d:Drawn),Way w b es ep t f nw ys→(∀p∈nw,s.heap.objs.size≤p.1∧h1.get? p.1=some p.2)→(∀c o,s.heap.get? c=some o→h1.get? c=some o)→s.heap.objs.size≤h1.objs.size →
   wpAny (model prog w) A.in1 (do
    let z ← setEpoch b
    let u ← newFields "set_iterator" [f 0,rawInt 0,.ref b,rawInt es.size,rawInt z]
    ret u) (λfin s'=>∃v,fin=Fin.done (Flow.ret v)∧∃T' r,s'.TypeIs v T'∧typeLookup (.type T') "__next__" = pure (some r)∧Q v s') E { s with heap:=h1,drawn:=d }:=by
  intro f nw ys h1 d y n1 k le
  refine wpAny_bind (wpAny_setEpoch_of (k _ _ hb) rfl ft ?_)
  refine wpAny_bind (wpAny_newObj_type (wpAny_pure ⟨_,rfl, "set_iterator",_,⟨_,Heap.get?_push_size _ rfl,rfl⟩,sl_next.lookup,?_⟩))
  exact q _ d _ f nw ys y le (λp hp=>⟨(n1 p hp).1,ne_of_lt (Heap.lt_size (n1 p hp).2),Heap.get?_push_of_some _ (n1 p hp).2⟩) (Heap.get?_push_size _ rfl) λc o e=>Heap.get?_push_of_some _ (k c o e)
 refine wpAny_bind (m:=setDrawn b) ?_
 unfold setDrawn setsByText
 refine wpAny_bind (wpAny_setState_of hb rfl ft ?_)
 dsimp only
 refine wpAny_bind (wpAny_bind (wpAny_askSetting (wpAny_pure (wpAny_pure ?_))))
 split
 ·rename_i c
  have c2:(!w.params.followText "set-order" && (!t.plain && decide (es.size > 1)))=true:=c
  have hf:w.params.followText "set-order" = false:=by
   cases hq:w.params.followText "set-order" with
   | false=>rfl
   | true=>rw[hq]at c2; cases c2
  refine wpAny_bind (Zjt es.size (List.range es.size) length_range _ _ λps d pm=>?_)
  have lp:(ps.map λ(i:Nat)=>rawInt i).length≤sizeLine:=by
   have h1:=pm.length_eq
   have h2:sizeLine=16777216:=sizeLine_eq
   rw[length_range]at h1
   rw[length_map]
   lia
  refine wpAny_bind (wpAny_newTuple ?_ lp)
  refine made (λ_=>.ref s.heap.objs.size) [(s.heap.objs.size,oPl ps)] _ _ d (.drawn _ ps hf pm) (λp hp=>?_) (λc o e=>Heap.get?_push_of_some _ e) (by rw[Heap.size_push]; exact le_succ _)
  rw[mem_singleton.mp hp]
  exact⟨Nat.le_refl _,Heap.get?_push_size _ rfl⟩
 rename_i c
 refine wpAny_bind (wpAny_pure ?_)
 cases hq:w.params.followText "set-order" with
 | true=>exact made (λ_=>.int 0 0) [] _ s.heap s.drawn (.text hq) (λp hp=>nomatch hp) (λ_ _ e=>e) (Nat.le_refl _)
 | false=>
  have c2:¬(!w.params.followText "set-order" && (!t.plain && decide (es.size > 1)))=true:=c
  rw[hq]at c2
  exact made (λi=>.int (Zgy t i) 0) [] _ s.heap s.drawn (.slots hq (Bool.eq_false_iff.mpr c2)) (λp hp=>nomatch hp) (λ_ _ e=>e) (Nat.le_refl _)
theorem hint_set {b:Addr}(ty:s.TypeIs (.ref b) "set") {Q:Bool→Shared→Prop}(h:Q false s):wpAny (model prog w) A (Builtin.List.listLengthHint (.ref b)) Q E s:=by
 (unfold Builtin.List.listLengthHint)
 refine wpAny_bind (wpAny_specialOf ty ln_set ?_)
 generalize hid:("set.__len__" : String)=id0
 wp_delta
 rw[show splitId id0=some ("set", "__len__") from by subst hid; decide +kernel]
 subst hid
 refine wpAny_bind (wpAny_isInstance (T := "set") (b:=true) ty (by rw[isSubtype_type]; kernel_rfl) ?_)
 rw[if_neg (by decide)]
 split
 ·exact wpAny_bind (wpAny_typeOf ty (wpAny_pure h))
 rename_i c
 exact absurd (by decide +kernel) c
theorem collect_set {b:Addr}{es:Array (Int×Value)}{ep:Nat}{t:SetTable}{R:List Value→Shared→Prop}(hh:A.handled=none) (g:Gd w t) (ft:t.fits es.size=true) (hz:es.size≤1000) (hb:s.heap.get? b=some (oSet es ep t))
  (q:∀(h':Heap) (d:Drawn) (tk:Nat) (ys:List Value),ys.Perm (es.toList.map (·.2))→s.heap.objs.size≤h'.objs.size→(∀c o,s.heap.get? c=some o→h'.get? c=some o)→R ys { s with heap:=h',drawn:=d,toks:=tk }):wpAny (model prog w) A (collect (.ref b)) R E s:=by
 have hlb:b < s.heap.objs.size:=Heap.lt_size hb
 unfold collect
 (refine wpAny_bind (wpAny_runValue (codeAny_builtin F.entry_proto_collect ?_)))
 (rw[Around.under_plainId F.plain_proto_collect _])
 show wpAny _ A.in1 (newList [] >>= λl=>again (.builtin "list.__iadd__" ⟨[l,.ref b],[]⟩)) _ _ _
 refine wpAny_bind (wpAny_newObj_type (wpAny_pure ⟨plainId_quiet F.plain_list_iadd _,codeAny_builtin F.entry_list_iadd ?_⟩))
 (rw[Around.under_plainId F.plain_list_iadd _])
 show wpAny _ A.in1 (Builtin.List.listExtendWith (.ref s.heap.objs.size) (.ref b) (.ref s.heap.objs.size)) _ _ _
 have hb1:(s.heap.push { cls:=.type "list",data:=.seq ([]:List Value).toArray }).get? b=some (oSet es ep t):=Heap.get?_push_of_some _ hb
 have ty:Shared.TypeIs { s with heap:=s.heap.push { cls:=.type "list",data:=.seq ([]:List Value).toArray } } (.ref b) "set" := ⟨_,hb1,rfl⟩
 (unfold Builtin.List.listExtendWith)
 refine wpAny_bind (wpAny_typeOf ty ?_)
 have e1:Builtin.List.listSameRef (.ref s.heap.objs.size) (.ref b)=false:=by
  simp[Builtin.List.listSameRef,ne_of_gt hlb]
 have e2:(Value.type "set" == Value.type "list")=false:=by decide
 have e3:(Value.type "set" == Value.type "tuple")=false:=by decide
 simp only[e1,e2,e3,Bool.or_false,false_eq_true,if_false]
 have sz:(s.heap.push { cls:=.type "list",data:=.seq ([]:List Value).toArray }).objs.size=s.heap.objs.size + 1:=Heap.size_push ..
 refine wpAny_bind (iter_set g ft hz hb1 λh' d I f nw ys y hI hn oI k=>?_)
 rw[sz]at hI hn
 have ty2:Shared.TypeIs { s with heap:=h',drawn:=d } (.ref b) "set" := ⟨_,k _ _ hb1,rfl⟩
 refine wpAny_bind (wpAny_holding (hint_set ty2 ?_))
 have hS:h'.get? s.heap.objs.size=some { cls:=.type "list",data:=.seq ([]:List Value).toArray }:=k _ _ (Heap.get?_push_size _ rfl)
 have hl:ys.length=es.size:=by have:=y.perm.length_eq; simpa using this
 have W:=walks (prog:=prog) (A:=A.in1) (I:=I) hh y g ft hl (λz=>lt_irrefl _ (lt_of_lt_of_le (z ▸ hlb:I < s.heap.objs.size) (Nat.le_of_succ_le hI))) (λp hp=>(hn p hp).2.1)
 have hSf:s.heap.objs.size∉I :: b :: nw.map (·.1):=by
  intro z
  rcases(mem_cons.mp z)with z | z
  ·exact lt_irrefl _ (lt_of_lt_of_le (lt_succ_self _) (z ▸ hI))
  rcases(mem_cons.mp z)with z | z
  ·exact lt_irrefl _ (z ▸ hlb)
  obtain⟨p,hp,z⟩:=mem_map.mp z
  have:=(hn p hp).1
  lia
 have run:∀(h2:Heap) (c:Nat) (Rr:Result→Shared→Prop),(∀b o,b≠s.heap.objs.size→h'.get? b=some o→h2.get? b=some o)→h2.get? s.heap.objs.size=some { cls:=.type "list",data:=.seq ([]:List Value).toArray c } →
   (∀(h3:Heap) (tk c':Nat) (acc:Array Value),h3.get? s.heap.objs.size=some { cls:=.type "list",dict:=none,data:=.seq acc c',slots:=#[] }→acc.toList=ys→(∀c o,s.heap.get? c=some o→h3.get? c=some o)→Rr (.ok (.ret (.ref s.heap.objs.size))) { s with heap:=h3,drawn:=d,toks:=tk }) →
   codeAny (model prog w) A (.builtin "list.extend.loop" ⟨[.ref s.heap.objs.size,.ref I,.ref s.heap.objs.size],[]⟩) Rr { s with heap:=h2,drawn:=d }:=by
  intro h2 c Rr k2 hS2 fin
  have neI:I≠s.heap.objs.size:=ne_of_gt hI
  refine codeAny_extend_loopS W (by rw[sizeLine_eq]; lia) _ hSf _ es.size 0 _ _ _ rfl (zero_le _) ⟨k2 _ _ neI oI,k2 _ _ (ne_of_lt hlb) (k _ _ hb1),λp hp=>k2 _ _ (ne_of_gt (hn p hp).1) (hn p hp).2.2⟩ hS2 (ItemsOf.nil _) λs3 acc c' hm hS3 it=>?_
  obtain⟨h3,g3,d3,tk3,os3⟩:=s3
  obtain⟨m1,m2,m3,m4,m5⟩:=hm
  have eg:s.gens=g3:=m2
  have ed:d3=d:=m3
  have es':os3=s.os:=m4
  subst eg ed es'
  refine fin h3 tk3 c' acc hS3 ?_ λc o e=>m1 c o ?_ (k2 c o (ne_of_lt (Heap.lt_size e)) (k c o (Heap.get?_push_of_some _ e)))
  ·refine ext_getElem (by rw[Array.length_toList,it.1,hl]) λi h1 h2=>?_
   have e:ys[i]? = some acc.toList[i]:=it.2 i acc.toList[i] (by rw[← Array.getElem?_toList]; exact getElem?_eq_getElem h1)
   rw[getElem?_eq_getElem h2]at e
   exact(Option.some.inj e).symm
  have lc:c < s.heap.objs.size:=Heap.lt_size e
  intro z
  rcases(mem_cons.mp z)with z | z
  ·exact lt_irrefl _ (z ▸ lc)
  exact lt_irrefl _ (lt_trans lc (Nat.lt_of_succ_le ((mem_singleton.mp z) ▸ hI)))
 have last:∀(h3:Heap) (tk c':Nat) (acc:Array Value),h3.get? s.heap.objs.size=some { cls:=.type "list",dict:=none,data:=.seq acc c',slots:=#[] }→acc.toList=ys→(∀c o,s.heap.get? c=some o→h3.get? c=some o) →
   R acc.toList { s with heap:=h3,drawn:=d,toks:=tk }:=λh3 tk c' acc o3 e k3=>by
  rw[e]
  exact q h3 d tk ys y.perm (le_of_lt (Heap.lt_size o3)) k3
 split
 ·refine wpAny_bind (wpAny_rule (wpAny_bind ?_))
  (show wpAny _ A.in1 (updateSeq s.heap.objs.size (·.push .none) >>= λ_=>updateSeq s.heap.objs.size (·.pop)) _ _ _)
  (refine wpAny_bind (wpAny_updateSeq hS rfl ?_))
  have hS2:=Heap.get?_update_self (Obj.mapSeq (·.push Value.none)) hS rfl
  refine wpAny_updateSeq hS2 rfl ?_
  have hS3:=Heap.get?_update_self (Obj.mapSeq (·.pop)) hS2 rfl
  refine wpAny_pure ⟨plainId_quiet F.plain_extend_loop _,run _ _ _ (λb o hb e=>(Heap.get?_update_other _ _ (Ne.symm hb)).trans ((Heap.get?_update_other _ _ (Ne.symm hb)).trans e)) hS3 λh3 tk c' acc o3 e k3=>?_⟩
  (show wpAny _ A (load s.heap.objs.size >>= _) _ _ _)
  exact wpAny_bind (wpAny_load o3 (wpAny_pure (last h3 tk c' acc o3 e k3)))
 refine wpAny_pure ⟨plainId_quiet F.plain_extend_loop _,run _ _ _ (λ_ _ _ e=>e) hS λh3 tk c' acc o3 e k3=>?_⟩
 (show wpAny _ A (load s.heap.objs.size >>= _) _ _ _)
 exact wpAny_bind (wpAny_load o3 (wpAny_pure (last h3 tk c' acc o3 e k3)))
end
end SG
namespace SG
open PySem PyProof.Rows
section
variable {prog:Program}{w:World}{A:Around}{E:Value→Shared→Prop}{s:Shared}
noncomputable def iv:Value→Int
 | .int i _=>i
 | _=>0
theorem Zmk:∀{vs:List Value},(∀v∈vs,∃t,v=.int (iv v) t)→IntsAre vs (vs.map iv)
 | [],_=>.nil
 | v :: r,h=>by
  obtain⟨t,e⟩:=h v mem_cons_self
  rw[e]
  exact .cons _ t (Zmk λx hx=>h x (mem_cons_of_mem _ hx))
theorem sorted_set {b:Addr}{es:Array (Int×Value)}{ep:Nat}{t:SetTable}{Q:Value→Shared→Prop}(hh:A.handled=none) (g:Gd w t) (ft:t.fits es.size=true) (hz:es.size < 64) (hb:s.heap.get? b=some (oSet es ep t)) (hi:∀e∈es.toList,∃t,e.2=.int (iv e.2) t)
  (q:∀(h':Heap) (d:Drawn) (tk e D:Nat) (out:Array Value) (ns:List Int),IntsAre out.toList ns→ns.Perm (es.toList.map λe=>iv e.2)→ns.Pairwise (·≤·)→h'.get? D=some (seqObj "list" out e)→s.heap.objs.size≤D→(∀c o,s.heap.get? c=some o→h'.get? c=some o) →
   Q (.ref D) { s with heap:=h',drawn:=d,toks:=tk }):wpAny (model prog w) A (call (.builtin "sorted") [.ref b]) Q E s:=by
 (refine Calls.call_function_entry kind_sorted plain_sorted entry_sorted (args_sorted1 _) ?_)
 unfold Builtin.«sorted»
 (refine wpAny_bind (m:=checkCount "sorted" 1 1 _) (wpAny_pure ?_))
 refine wpAny_bind (collect_set (A:=A.in1) hh g ft (by lia) hb λh1 d tk ys pm lb k1=>?_)
 have hl:ys.length=es.size:=by have:=pm.length_eq; simpa using this
 (refine wpAny_bind (wpAny_newList ?_ (by rw[sizeLine_eq]; lia)))
 have ai:∀v∈ys,∃t,v=.int (iv v) t:=λv hv=>by
  obtain⟨e,he,rfl⟩:=mem_map.mp (pm.mem_iff.mp hv)
  exact hi e he
 have pi:(ys.map iv).Perm (es.toList.map λe=>iv e.2):=by
  have:=pm.map iv
  rw[map_map]at this
  exact this
 have oL:(h1.push { cls:=.type "list",data:=.seq ys.toArray }).get? h1.objs.size=some (seqObj "list" ys.toArray 0):=Heap.get?_push_size _ rfl
 refine wpAny_bind (wpAny_holding (wpAny_call_entry slot_list_sort ⟨_,oL,rfl⟩ entry_list_sort (list_sort_tree oL (Zmk ai) (by lia) λout ns a1 a2 a3=>⟨_,rfl,?_⟩) (args_list_sort _)))
 obtain⟨e,he⟩:=sortedHeap_at (out:=out) oL
 refine wpAny_pure ⟨_,rfl,q _ d tk e _ out ns a1 (a2.trans pi) a3 he lb λc o z=>?_⟩
 have lc:=Heap.lt_size (k1 c o z)
 rw[sortedHeap_old (ne_of_lt lc) (by rw[size_push']; exact lt_succ_of_lt lc)]
 exact Heap.get?_push_of_some _ (k1 c o z)
end
end SG
namespace SG
open PySem PyProof.Rows
section
variable {prog:Program}{w:World}{κ:Type} [DecidableEq κ] {knd:KeyKind prog w κ}{A:Around}{R:Result→Shared→Prop}{I:Addr}{fp wr:List Addr}{G:Array GenState→Array GenState→Prop}{n:Nat}{P:Nat→Value→Prop}{St:Nat→Shared→Prop}
theorem kept {S:Addr}{h h':Heap}{f:κ→Bool}{m:Nat}(q:SetG knd h S f m) (e:∀o,h.get? S=some o→h'.get? S=some o):SetG knd h' S f m:=by
 obtain⟨es,ep,t,ho,r⟩:=q
 exact⟨es,ep,t,e _ ho,r⟩
theorem Zlh {S:Addr}{h:Heap}{f g:κ→Bool}{m k:Nat}(q:SetG knd h S f m) (e:∀x,f x=g x) (em:m=k):SetG knd h S g k:=by
 have:f=g:=funext e
 subst this em
 exact q
theorem fill (W:WalksS prog w A.in1 I fp wr G n P St) (S:Addr) (nS:S∉fp) (val:Nat→κ) (hv:∀i v,P i v→knd.is (val i) v=true∧v.scannable=true) (hb:n + 1 < scanBound) :
  ∀(k i:Nat) (s:Shared),n - i=k→i≤n→St i s→SetG knd s.heap S (λx=>decide (x∈SK.dd val i)) (SK.dd val i).length →
   (∀s',Moved (S :: wr) G s s'→SetG knd s'.heap S (λx=>decide (x∈SK.dd val n)) (SK.dd val n).length→R (.ok (.ret .none)) s') →
   (codeAny (model prog w) A (.builtin "set.update.loop" ⟨[.ref S,.ref I],[]⟩) R s):=by
 have nw:S∉wr:=λh=>nS (W.sub _ h)
 have sub:∀b∈wr,b∈S :: wr:=λb z=>mem_cons_of_mem _ z
 intro k
 induction k with
 | zero=>
  intro i s hk hi st hS fin
  obtain rfl:i=n:=by lia
  refine codeAny_builtin PyProof.Rows.F.entry_set_update_loop ?_
  rw[Around.under_plainId PyProof.Rows.F.plain_set_update_loop _]
  refine wpAny_bind (m:=pyNext (.ref I)) (W.done s _ _ st λs1 hm=>?_)
  exact wpAny_pure (fin s1 (hm.mono sub) (kept hS λo e=>hm.heap S o nw e))
 | succ k ih=>
  intro i s hk hi st hS fin
  have lt:i < n:=by lia
  refine codeAny_builtin PyProof.Rows.F.entry_set_update_loop ?_
  rw[Around.under_plainId PyProof.Rows.F.plain_set_update_loop _]
  refine wpAny_bind (m:=pyNext (.ref I)) (W.item i s _ _ lt st λv s1 hP st1 hm=>?_)
  obtain⟨key,sc⟩:=hv i v hP
  refine wpAny_bind (m:=holding [v] (setAdd S v)) (wpAny_holding ?_)
  unfold setAdd
  refine wpAny_holding (wpAny_bind (knd.pyHash (k:=val i) key ?_))
  have room:(SK.dd val i).length + 1 < scanBound:=by have:=SK.dd_le (val:=val) i; lia
  refine add (knd:=knd) (s:={ s1 with toks:=s1.toks + 1 }) key sc (kept hS λo e=>hm.heap S o nw e) room λh2 sb hS2=>?_
  have hS3:SetG knd h2 S (λx=>decide (x∈SK.dd val (i + 1))) (SK.dd val (i + 1)).length:=Zlh hS2 (λx=>(SK.dd_step i x).symm) (SK.dd_size i).symm
  have oth:∀b o,b≠S→s1.heap.get? b=some o→h2.get? b=some o:=λb o z e=>(sb.2 b z).trans e
  refine wpAny_pure ⟨plainId_quiet PyProof.Rows.F.plain_set_update_loop _,ih (i + 1) _ (by lia) lt (W.frame _ s1 h2 (s1.toks + 1) st1 (le_succ _) λb hb o e=>oth b o (λz=>nS (z ▸ hb)) e) hS3 λs2 hm2 q=>?_⟩
  refine fin s2 (Moved.trans W.gtrans ((hm.mono sub).then_heap (le_succ _) λb o hb e=>oth b o (λz=>hb (z ▸ mem_cons_self)) e) hm2) q
end
section
variable {prog:Program}{w:World}{κ:Type} [DecidableEq κ] {knd:KeyKind prog w κ}{A:Around}{E:Value→Shared→Prop}{s:Shared}
noncomputable abbrev ledW (w:World):Bool:=!w.params.followText "set-order"
noncomputable abbrev fset (led:Bool):Obj:={ cls:=.type "set",dict:=none,data:=.set #[] 0 (.fresh 0 0 led) }
theorem code_new (v:Value) {Q1:Value→Shared→Prop}(q:Q1 (.ref s.heap.objs.size) { s with heap:=s.heap.push (fset (ledW w)) }) :
  codeAny (model prog w) A (.call (.builtin "set.__new__") ⟨[.type "set",v],[]⟩) (wants Q1 E) s:=by
 refine codeAny_of_tree ?_
 show wpAny _ A.in1 (do checkBuiltinCall "set.__new__" ⟨[.type "set",v],[]⟩; again (.builtin "set.__new__" ⟨[.type "set",v],[]⟩)) _ _ s
 refine wpAny_bind (wpAny_of_eq (PySem.F.newCall_set_1 v) (wpAny_pure ⟨plainId_quiet PySem.F.plain_set_new _,codeAny_builtin PySem.F.entry_set_new ?_⟩))
 rw[Around.under_plainId PySem.F.plain_set_new _]
 (unfold Builtin.«set.__new__» Builtin.Frozenset.newClass)
 have hsub:=sub_set_self
 obtain⟨hp,gs,d,tk,os⟩:=s
 dsimp only
 wp_walk
 (refine wpAny_askSetting (wpAny_pure ?_))
 dsimp only
 simp only[newObj]
 exact wpAny_bind (wpAny_alloc (wpAny_pure (wpAny_pure q)))
theorem make {l:Addr}{items:Array Value}{val:Nat→κ}{Q:Value→Shared→Prop}(hh:A.handled=none) (hl:s.heap.IsList l items) (hv:∀i v,items[i]? = some v→knd.is (val i) v=true∧v.scannable=true) (hb:items.size + 1 < scanBound)
  (q:∀(h':Heap) (tk:Nat),SetG knd h' s.heap.objs.size (λx=>decide (x∈SK.dd val items.size)) (SK.dd val items.size).length→(∀b o,s.heap.get? b=some o→h'.get? b=some o)→Q (.ref s.heap.objs.size) { s with heap:=h',toks:=tk }) :
  (wpAny (model prog w) A (call (.type "set") [.ref l]) Q E s):=by
 obtain⟨c,tl,hmro⟩:=PySem.F.called_set.mro
 have hmade:=PySem.F.called_set.made
 have hsub:=PySem.F.called_set.sub
 refine wpAny_call (codeAny_of_tree (show wpAny _ _ (callAny (.type "set") _) _ _ _ from ?_))
 refine wpAny_pure ⟨Code.quiet_builtin _ (by decide +kernel),codeAny_builtin PySem.F.entry_type_call ?_⟩
 (rw[Around.under_plain (weight_type_call_type "set" [.ref l] []) rfl])
 have h1:=PySem.F.called_set.notType
 have h2:=PySem.F.called_set.canCreate
 have hct:=PySem.F.typeCall_set_1 (.ref l)
 (repeat (any_goals (first | assumption | wp_step)))
 refine codeAny_mono (code_new (.ref l) (E:=E) (Q1:=λob s1=>∃led:Bool,led=ledW w∧ob=.ref s.heap.objs.size∧s1={ s with heap:=s.heap.push (fset led) }) ⟨_,rfl,rfl,rfl⟩) λr s1 hr=>?_
 cases r with
 | error e=>exact hr
 | ok fl=>
  cases fl with
  | ret ob=>
   obtain⟨led,hled,rfl,rfl⟩:=hr
   have hS:(s.heap.push (fset led)).get? s.heap.objs.size=some (fset led):=Heap.get?_push_size _ rfl
   have hT:Shared.TypeIs { s with heap:=s.heap.push (fset led) } (.ref s.heap.objs.size) "set" := ⟨_,hS,rfl⟩
   have hli:=PySem.F.called_set.init.lookup
   have hbi:=PySem.F.called_set.init.bind (.ref s.heap.objs.size)
   (repeat (any_goals (first | assumption | wp_step)))
   refine codeAny_mono (codeAny_call_builtin (R:=wants (λr s2=>r=.none∧∃h' tk,s2={ s with heap:=h',toks:=tk }∧SetG knd h' s.heap.objs.size (λx=>decide (x∈SK.dd val items.size)) (SK.dd val items.size).length ∧
     (∀b o,s.heap.get? b=some o→h'.get? b=some o)) E) PySem.F.called_set.init.plain PySem.F.entry_set_init (check_set_init_1 hT ?_)) λr2 s2 hr2=>?_
   ·obtain⟨⟨ocls,odict,odata,oslots⟩,hol,hcl,nl,hdl⟩:=hl
    simp only at hcl hdl
    subst hcl hdl
    have hol':(s.heap.push (fset led)).get? l=some { cls:=.type "list",dict:=odict,data:=.seq items nl,slots:=oslots }:=Heap.get?_push_of_some _ hol
    have x1:=PySem.F.sub_list_set
    have x2:=PySem.F.sub_list_frozenset
    have x3:(Value.type "list" == Value.type "dict")=false:=by decide
    have hl1:(s.heap.push (fset led)).IsList l items:=⟨_,hol',rfl,nl,rfl⟩
    (unfold Builtin.«set.__init__» noKeywords Builtin.Frozenset.updateFrom)
    generalize hPI:pyIter=PI
    wp_walk
    subst hPI
    (refine wpAny_pyIter_list hl1 ?_)
    (refine wpAny_bind (wpAny_runValue ?_))
    have lt:l < s.heap.objs.size:=Heap.lt_size hol
    have sz:(s.heap.push (fset led)).objs.size=s.heap.objs.size + 1:=Heap.size_push ..
    (have hh3:A.in1.in1.in1.handled=none:=by simp[hh])
    have ne1:l≠(s.heap.push (fset led)).objs.size:=by rw[sz]; exact ne_of_lt (lt_succ_of_lt lt)
    have nS:s.heap.objs.size∉[(s.heap.push (fset led)).objs.size,l]:=by
     rw[sz]
     simp only[mem_cons,not_mem_nil,or_false,not_or]
     exact⟨ne_of_lt (lt_succ_self _),ne_of_gt lt⟩
    refine fill (knd:=knd) ((Walks.list hh3 _ l ne1 items).toS) s.heap.objs.size nS val hv hb (items.size - 0) 0 _ (by lia) (zero_le _) ⟨⟨_,Heap.get?_push_size _ rfl,rfl,rfl⟩,hl1.push _⟩ ?_ λs3 hm q3=>?_
    ·have g:=Heap.get?_push_of_some ({ cls:=.type "list_iterator",data:=.fields #[.ref l,.int 0 0] }:Obj) hS
     exact⟨_,_,_,g,λe he=>by simp at he,λx=>by simp[SK.dd],by decide,by rfl,rfl,rs_nil,hled⟩
    obtain⟨h3,g3,d3,tk3,os3⟩:=s3
    obtain⟨m1,m2,m3,m4,m5⟩:=hm
    have eg:g3=s.gens:=m2
    have ed:d3=s.drawn:=m3
    have es:os3=s.os:=m4
    subst eg ed es
    refine wpAny_pure (wpAny_pure ⟨rfl,h3,tk3,rfl,q3,λb o e=>m1 b o ?_ (Heap.get?_push_of_some _ (Heap.get?_push_of_some _ e))⟩)
    have lb:b < s.heap.objs.size:=Heap.lt_size e
    rw[sz]
    simp only[mem_cons,not_mem_nil,or_false,not_or]
    exact⟨ne_of_lt lb,ne_of_lt (lt_succ_of_lt lb)⟩
   cases r2 with
   | error e=>exact hr2
   | ok fl2=>
    cases fl2 with
    | ret r=>
     obtain⟨rfl,h',tk,rfl,a1,a2⟩:=hr2
     (repeat (any_goals (first | assumption | wp_step)))
     exact q _ _ a1 a2
    | _=>exact hr2.elim
  | _=>exact hr.elim
end
end SG
namespace L2
open PySem PyProof.Rows
section
variable {X:Cx}
theorem Inv.dr {pins:List (Addr×Obj)}{σ:St}{H:Hp}{s:Shared}(d:Drawn) (I:Inv X pins σ H s):Inv X pins σ H { s with drawn:=d }:=⟨I.ok,I.os,I.bare,I.base,I.loc,I.cell,I.free,I.freeC,I.pin,I.hok,I.len⟩
noncomputable def memB {κ:Type} [DecidableEq κ] (ks:List κ) (x:κ):Bool:=decide (x∈ks)
theorem memB_iff {κ:Type} [DecidableEq κ] {ks:List κ}{x:κ}:memB ks x=true↔x∈ks:=decide_eq_true_iff
noncomputable def setG (P:Program) (w:World) (a:Addr) (ks:List Key):HO:=.ext λh=>SG.SetG (Zat P w) h a (memB ks) ks.length
theorem Zjx (hc:X.calm=true):Zcy X (.type "set") (λxs H Q=>∃p ks,xs=[.ref p]∧SqL X.K H p (ks.map kV)∧ks.length≤1000∧∀a,H a=none→Q (.ref a) (upd H a (setG X.prog X.w a (SK.dd (kAt ks) ks.length)))):=by
 intro pins s σ H xs us Q I r h
 obtain⟨p,ks,rfl,hp,hk,q⟩:=h
 obtain⟨u,rfl,ru⟩:=Zdd r
 cases ru
 obtain⟨its,rv,pl,hz⟩:=I.list hp
 have hlen:=rv.length
 rw[length_map]at hlen
 refine SG.make (knd:=Zat X.prog X.w) (val:=kAt ks) (I.ok.hd hc) pl.isList (λi v hv=>?_) (by rw[size_toArray]; unfold scanBound; lia) λh' tk hS kp=>?_
 ·have hi:its[i]? = some v:=by simpa using hv
  have hib:i < ks.length:=by
   have:=(List.getElem?_eq_some_iff.mp hi).1
   lia
  obtain⟨u',hu',ru⟩:=rv.get (i:=i) (x:=kV ks[i]) (by simp[hib])
  rw[hi]at hu'
  cases hu'
  have e:kAt ks i=ks[i]:=by simp[kAt,List.getD,hib]
  rw[e]
  refine⟨Zhe ru,?_⟩
  cases hkk:ks[i]with
  | inl j=>rw[hkk]at ru; obtain⟨t,rfl⟩:=ru; rfl
  | inr y=>rw[hkk]at ru; obtain⟨t,rfl⟩:=ru; rfl
 have es:its.toArray.size=ks.length:=by simp[hlen]
 rw[es]at hS
 refine⟨.ref _,_,I.laid (a:=s.heap.objs.size) (o:=setG X.prog X.w s.heap.objs.size (SK.dd (kAt ks) ks.length)) kp (Nat.le_refl _) ⟨hS,?_,λh1 h2 f1 e=>SG.kept f1 e⟩,rfl,q _ (I.hok.fresh (Nat.le_refl _))⟩
 obtain⟨es,_,_,e,_⟩:=hS
 exact⟨_,e⟩
theorem Zhg:∀{ns:List Int}{us:List Value},IntsAre us ns→Vals (ns.map V.int) us
 | _,_,.nil=>.nil
 | _,_,.cons _ t r=>.cons ⟨t,rfl⟩ (Zhg r)
theorem Zgd (hc:X.calm=true):Zcy X (.builtin "sorted") (λxs H Q=>∃(a:Addr) (ns:List Int),xs=[.ref a]∧H a=some (setG X.prog X.w a (ns.map Sum.inl))∧ns.Nodup∧ns.length < 64∧∀(l:Addr) (zs:List Int),H l=none→zs.Perm ns→zs.Pairwise (·≤·)→Q (.ref l) (upd H l (.lst (zs.map V.int)))):=by
 intro pins s σ H xs us Q I r h
 obtain⟨a,ns,rfl,ha,nd,hz,q⟩:=h
 obtain⟨u,rfl,ru⟩:=Zdd r
 cases ru
 obtain⟨⟨es,ep,t,ho,i⟩,_,_⟩:=I.hok a _ ha
 have sz:=i.sz
 rw[length_map]at sz
 have key:∀e∈es.toList,∃n t,n∈ns∧e.2=.int n t:=λe he=>by
  obtain⟨⟨k,hk,_⟩,_⟩:=i.el e he
  have hm:=memB_iff.mp ((i.me k).mpr ⟨e,he,hk⟩)
  obtain⟨n,hn,rfl⟩:=mem_map.mp hm
  rcases Zax (show Ze8 (.inl n) e.2=true from hk)with⟨j,t,e1,e2⟩ | ⟨y,t,e1,e2⟩
  ·cases e1
   exact⟨n,t,hn,e2⟩
  cases e1
 have pm:(es.toList.map λe=>SG.iv e.2).Perm ns:=by
  refine SG.perm_of nd (λx hx=>?_) (by rw[length_map,Array.length_toList]; lia)
  obtain⟨e,he,hk⟩:=(i.me (.inl x)).mp (memB_iff.mpr (List.mem_map_of_mem hx))
  rcases Zax (show Ze8 (.inl x) e.2=true from hk)with⟨j,t,e1,e2⟩ | ⟨y,t,e1,e2⟩
  ·cases e1
   exact mem_map.mpr ⟨e,he,by rw[e2]; rfl⟩
  cases e1
 refine SG.sorted_set (I.ok.hd hc) i.gd i.ft (by lia) ho (λe he=>?_) λh' d tk c D out zs a1 a2 a3 a4 a5 a6=>?_
 ·obtain⟨n,t,_,e2⟩:=key e he
  exact⟨t,by rw[e2]; rfl⟩
 have pz:=a2.trans pm
 have hl:=pz.length_eq
 have hs:sizeLine=16777216:=sizeLine_eq
 refine⟨.ref _,_,(I.laid (a:=D) (o:=.lst (zs.map V.int)) (t':=tk) a6 a5 ⟨by rw[length_map]; lia,out.toList,c,Zhg a1,by simpa using a4⟩).dr d,rfl,q _ _ (I.hok.fresh a5) pz a3⟩
theorem Zji:MtR X "int.bit_length" (λx xs H Q=>∃i,x=.int i∧xs=[]∧Q (.int (Builtin.Int.intBits i)) H):=by
 intro pins s σ H x xs v us Q I rx rv h
 obtain⟨i,rfl,rfl,q⟩:=h
 obtain⟨t,rfl⟩:=rx
 cases rv
 exact call_int_bit_length ⟨.int _,H,I.tok _,⟨_,rfl⟩,q⟩
theorem Zl5:∀(ns:List Int) (n:Nat),n≤ns.length→preSum (λi=>ns.getD i 0) n=(ns.take n).sum
 | ns,0,_=>by simp[preSum]
 | ns,n + 1,h=>by
  have hn:n < ns.length:=h
  show preSum (λi=>ns.getD i 0) n + ns.getD n 0=_
  rw[Zl5 ns n (by lia),take_succ_eq_append_getElem hn,List.sum_append]
  simp[List.getD,hn]
theorem call_sumI (hc:X.calm=true):Zcy X (.builtin "sum") (λxs H Q=>∃(p:Addr) (ns:List Int),xs=[.ref p]∧SqL X.K H p (ns.map V.int)∧Q (.int ns.sum) H):=by
 intro pins s σ H xs us Q I r h
 obtain⟨p,ns,rfl,hp,q⟩:=h
 obtain⟨u,rfl,ru⟩:=Zdd r
 cases ru
 obtain⟨its,rv,pl,hz⟩:=I.list hp
 have hlen:=rv.length
 rw[length_map]at hlen
 have hlt:p < s.heap.objs.size:=by
  obtain⟨o,n,e,_⟩:=pl
  exact Heap.lt_size e
 refine call_sum_walkAnyS (wpAny_pyIter_list pl.isList ⟨s.heap.objs.size,_,_,_,_,_,_,λi=>ns.getD i 0,rfl,(Walks.list (show X.A.in1.handled=none from I.ok.hd hc) _ p (ne_of_lt hlt) its.toArray).toS,⟨⟨_,Heap.get?_push_size _ rfl,rfl,rfl⟩,pl.isList.push _⟩,λb hb=>?_,λi v hP=>?_,λs' t' hm=>?_⟩)
 ·show b < (s.heap.push _).objs.size
  rw[Heap.size_push]
  rcases(mem_cons.mp hb)with e | e
  ·rw[e]
   exact lt_succ_self _
  rw[mem_singleton.mp e]; exact lt_succ_of_lt hlt
 ·have hi:its[i]? = some v:=by simpa using hP
  have hib:i < ns.length:=by
   have:=(List.getElem?_eq_some_iff.mp hi).1
   lia
  obtain⟨u',hu',ru⟩:=rv.get (i:=i) (x:=.int ns[i]) (by simp[hib])
  rw[hi]at hu'
  cases hu'
  obtain⟨t,rfl⟩:=ru
  exact⟨t,by simp[List.getD,hib]⟩
 have e1:preSum (λi=>ns.getD i 0) its.toArray.size=ns.sum:=by
  rw[size_toArray,← hlen,Zl5 ns _ (Nat.le_refl _),take_length]
 rw[e1]
 rw[Moved.eq_with hm]
 refine⟨.int _,H,I.kept (t':=s'.toks) (λb o e=>hm.heap b o ?_ (Heap.get?_push_of_some _ e)),⟨_,rfl⟩,q⟩
 intro z
 rw[mem_singleton]at z
 exact absurd (Heap.lt_size e) (by rw[z]; exact lt_irrefl _)
theorem op_neLD (hu:X.A.units + 64 < cLine):OpR X (compareOp .NotEq) (λx y H Q=>∃(a b:Addr) (us vs:List V) (ds es:List PyData),x=.ref a∧y=.ref b∧H a=some (.lst us)∧H b=some (.lst vs)∧RdVs H us ds∧RdVs H vs es ∧
  PySem.SeqAt.shaped (.list ds)=true∧PySem.SeqAt.shaped (.list es)=true∧Q (.bl (!PyData.eqv (.list ds) (.list es))) H):=by
 intro pins s σ H x y v u Q I rx ry h
 obtain⟨a,b,us,vs,ds,es,rfl,rfl,ha,hb,rd,re,h1,h2,q⟩:=h
 cases rx
 cases ry
 obtain⟨as,ra⟩:=Zkk I.hok ha rd
 obtain⟨bs,rb⟩:=Zkk I.hok hb re
 exact PySem.SeqAt.compareNe_shaped ra rb h1 h2 hu ⟨.bl _,H,I,rfl,q⟩
noncomputable def Itk (a:Addr) (o:Obj) (kvs:List (Key×V)):It:=
 ⟨λi H=>i < kvs.length∧H a=some (.frz o (.dK kvs)),λi H x H'=>H'=H∧∃k v,kvs[i]? = some (k,v)∧x=kV k,λi H=>kvs.length≤i∧H a=some (.frz o (.dK kvs))⟩
theorem Zi6 {P:Program}{w:World}{K:W.Frag}{tg:Expr}(it a:Addr) (o:Obj) (kvs:List (Key×V)) (es:Array DictEntry) (ep:Nat) (hd:o.data=.dict es ep) :
  Turn P w K tg (Itk a o kvs) [it] it (λi h=>h.IsKeyIter it a i kvs.length ep) where
 mem:=by simp
 obj:=λi h st b hb=>by
  have e:b=it:=by simpa using hb
  subst e
  obtain⟨o,e,c,d⟩:=st
  exact⟨o,e,λv z=>by rw[d]at z; cases z⟩
 keep:=λi h h' st k=>by
  obtain⟨o,e,r⟩:=st
  exact⟨o,k it (by simp) o e,r⟩
 item:=by
  intro X hP hw hK hc i pins s σ H E I hf st hg
  subst hP hw hK
  obtain⟨f0,f1,f2,f3,f4,f5⟩:=hf it (by simp)
  obtain⟨hi,ha⟩:=hg
  obtain⟨vs,hkv,hat⟩:=Ziu I ha hd
  have hl:=hkv.length
  have hx:kvs[i]? = some (kvs[i].1,kvs[i].2):=getElem?_eq_getElem hi
  obtain⟨u,hu,ru⟩:=KV.get2 hkv hx
  rw[hl]at st
  refine wpAny_pyNext_dict_item (knd:=Zat X.prog X.w) st hat hu λkey h' hk st' sb=>?_
  have I1:Inv X pins σ H { s with heap:=h' }:=I.turned (t':=s.toks) (λb o hb e=>(sb.2 b hb).trans e) f0 f1 f3 f4 f5
  obtain⟨o',e,c,d⟩:=id st'
  rw[← hl]at st'
  have rk:RelV (kV kvs[i].1) key:=by
   rcases Zax (show Ze8 kvs[i].1 key=true from hk)with⟨j,t,e1,e2⟩ | ⟨y,t,e1,e2⟩
   ·rw[e1,e2]; exact⟨t,rfl⟩
   rw[e1,e2]; exact⟨t,rfl⟩
  exact⟨key,rfl,Zmo (s:={ s with heap:=h' }) e c d (by decide) ⟨kV kvs[i].1,H,I1,rk,⟨rfl,_,_,hx,rfl⟩,st',λb hb=>(hf b hb).1⟩⟩
 done:=by
  intro X hP hw hK hc i pins s σ H E I hf st hg
  subst hP hw hK
  obtain⟨f0,f1,f2,f3,f4,f5⟩:=hf it (by simp)
  obtain⟨hi,ha⟩:=hg
  obtain⟨vs,hkv,hat⟩:=Ziu I ha hd
  have hl:=hkv.length
  rw[hl]at st
  exact wpAny_pyNext_dict_end (knd:=Zat X.prog X.w) (I.ok.hd hc) st hat (getElem?_eq_none (by lia)) λh' eb=>⟨rfl,I.turned (t':=s.toks) (λb o hb e=>eb b o hb e) f0 f1 f3 f4 f5⟩
 self:=λ_ _ _ _ _ st h=>wpAny_pyIter_keyiter st h
theorem bt_sum:bootBuiltins "sum" = some (.builtin "sum"):=by decide +kernel
theorem Znv:bootBuiltins "max" = some (.builtin "max"):=by decide +kernel
end
end L2
namespace L2
open PySem PyProof.Rows
section
variable {X:Cx}
noncomputable def Zda (v a:Addr):HO:=.ext λh=>h.IsItemsView v a
theorem mt_items:MtR X "dict.items" (λx xs H Q=>∃a kvs,x=.ref a∧xs=[]∧H a=some (.dK kvs)∧∀v,H v=none→Q (.ref v) (upd H v (Zda v a))):=by
 intro pins s σ H x xs v us Q I rx rv h
 obtain⟨a,kvs,rfl,rfl,ha,q⟩:=h
 cases rx
 cases rv
 obtain⟨hz,hm,vs,hkv,hd⟩:=Zls I.hok ha
 refine call_meetsIn PySem.F.slot_dict_items hd.typeIs PySem.F.entry_dict_items (PySem.F.args_dict_items_1 _) (meets_dict_items (Zat X.prog X.w) a hm) ⟨⟨vs,hd⟩,?_⟩
 refine⟨.ref s.heap.objs.size,_,I.laid (t':=s.toks) (o:=Zda s.heap.objs.size a) (λb o e=>Heap.get?_push_of_some _ e) (Nat.le_refl _) ⟨⟨_,Heap.get?_push_size _ rfl,rfl,rfl⟩,⟨_,Heap.get?_push_size _ rfl⟩,λh1 h2 f e=>?_⟩,rfl,q _ (I.hok.fresh (Nat.le_refl _))⟩
 obtain⟨o,ho,r⟩:=f
 exact⟨o,e o ho,r⟩
noncomputable def Iti (a:Addr) (o:Obj) (kvs:List (Key×V)):It:=
 ⟨λi H=>i < kvs.length∧H a=some (.frz o (.dK kvs)),λi H x H'=>∃p k v,x=.ref p∧H p=none∧H'=upd H p (.tup [kV k,v])∧kvs[i]? = some (k,v),λi H=>kvs.length≤i∧H a=some (.frz o (.dK kvs))⟩
theorem Zhh {P:Program}{w:World}{K:W.Frag}{elts:List Expr}{x1}{tp:Pos}(it a:Addr) (o:Obj) (kvs:List (Key×V)) (es:Array DictEntry) (ep:Nat) (hd:o.data=.dict es ep) :
  Turn P w K (.Tuple elts x1 tp) (Iti a o kvs) [it] it (λi h=>∃ok ov,IsItemIter h it a i kvs.length ep ok ov) where
 mem:=by simp
 obj:=λi h st b hb=>by
  have e:b=it:=by simpa using hb
  subst e
  obtain⟨_,_,st⟩:=st
  exact⟨_,st,λv z=>nomatch z⟩
 keep:=λi h h' st k=>by
  obtain⟨ok,ov,st⟩:=st
  exact⟨ok,ov,k it (by simp) _ st⟩
 item:=by
  intro X hP hw hK hc i pins s σ H E I hf st hg
  subst hP hw hK
  obtain⟨hi,ha⟩:=hg
  obtain⟨ok,ov,st⟩:=st
  obtain⟨vs,hkv,hat⟩:=Ziu I ha hd
  have hl:=hkv.length
  have hx:kvs[i]? = some (kvs[i].1,kvs[i].2):=getElem?_eq_getElem hi
  obtain⟨u,hu,ru⟩:=KV.get2 hkv hx
  rw[hl]at st
  have tz:s.heap.objs.size≠it:=ne_of_gt (Heap.lt_size st)
  refine wpAny_pyNext_items_item (knd:=Zat X.prog X.w) st hat hu λkey h' hk hout ht hsz kk=>?_
  refine⟨_,rfl,wpAny_letOwnedTupleGo_items (s:={ s with heap:=h' }) hout λh'' g6 sb=>?_⟩
  have rk:RelV (kV kvs[i].1) key:=by
   rcases Zax (show Ze8 kvs[i].1 key=true from hk)with⟨j,t,e1,e2⟩ | ⟨y,t,e1,e2⟩
   ·rw[e1,e2]; exact⟨t,rfl⟩
   rw[e1,e2]; exact⟨t,rfl⟩
  have kall:∀c o,c∉[it]→s.heap.get? c=some o→h''.get? c=some o:=λc o hc e=>by
   have hc':c≠it:=λz=>hc (by rw[z]; exact mem_singleton.mpr rfl)
   exact sb.extBut _ _ hc' (kk c o hc' e)
  have new:ObjOk X.prog X.w (upd H s.heap.objs.size (.tup [kV kvs[i].1,kvs[i].2])) h'' s.heap.objs.size (.tup [kV kvs[i].1,kvs[i].2]):=
   ⟨by show 2≤sizeLine; decide,[key,u],.cons rk (.cons ru .nil),_,sb.extBut _ _ tz ht,rfl,0,rfl⟩
  have fr:H s.heap.objs.size=none:=I.hok.fresh (Nat.le_refl _)
  rw[← hl]at g6
  refine⟨.ref s.heap.objs.size,_,I.stepN (t':=s.toks) hf kall new,rfl,⟨_,_,_,rfl,fr,rfl,hx⟩,⟨_,_,g6⟩,λc hc=>?_⟩
  have e:c=it:=by simpa using hc
  rw[Zaj (by rw[e]; exact tz.symm)]
  exact(hf c hc).1
 done:=by
  intro X hP hw hK hc i pins s σ H E I hf st hg
  subst hP hw hK
  obtain⟨hi,ha⟩:=hg
  obtain⟨ok,ov,st⟩:=st
  obtain⟨vs,hkv,hat⟩:=Ziu I ha hd
  have hl:=hkv.length
  rw[hl]at st
  exact wpAny_pyNext_items_end (knd:=Zat X.prog X.w) (I.ok.hd hc) st hat (getElem?_eq_none (by lia)) λh' eb=>⟨rfl,I.stepL (t':=s.toks) hf λc o hc e=>eb c o (λz=>hc (by rw[z]; exact mem_singleton.mpr rfl)) e⟩
 self:=λ_ _ _ _ _ st h=>by
  obtain⟨ok,ov,st⟩:=st
  refine wpAny_pyIter_slot ⟨_,st,rfl⟩ PySem.F.slot_dict_itemiterator_iter (wpAny_call_entry PySem.F.slot_dict_itemiterator_iter ⟨_,st,rfl⟩ PySem.W.kcp_entry ?_ (PySem.F.args_dict_itemiterator_iter_1 _))
  show wpAny _ _ (ret (.ref it)) _ _ _
  exact wpAny_pure ⟨_,rfl, "dict_itemiterator",_,⟨_,st,rfl⟩,PySem.F.slot_dict_itemiterator_next.lookup,h⟩
end
end L2
namespace EN
open PySem PyProof.Rows
theorem draws {prog:Program}{w:World}{A:Around}(hh:A.handled=none) (it l:Addr) (hne:l≠it) (items:Array Value) :
  Draws prog w A it [it,l] items.size (λi v=>items[i]? = some v) (λi h=>h.IsTupleIter it l i∧h.IsTuple l items) where
 live:=λ_ _ st=>by
  obtain⟨⟨o,ho,_⟩,_⟩:=st
  exact⟨o,ho⟩
 frame:=λ_ _ _ st hk=>by
  obtain⟨⟨o,ho,r⟩,o2,ho2,r2⟩:=st
  exact⟨⟨o,hk it (by simp) o ho,r⟩,o2,hk l (by simp) o2 ho2,r2⟩
 item:=λi s Q E hi st hq=>by
  refine ZT.next_item st.1 st.2 (v:=items[i]) (by simp[hi]) λh' hit' hs'=>?_
  exact hq _ h' s.toks (by simp[hi]) ⟨hit',st.2.extBut hs'.extBut hne⟩ hs'
 done:=λs Q E st hE=>ZT.next_end hh st.1 st.2 (by simp) hE
noncomputable abbrev oE (it:Addr):Obj:={ cls:=.type "enumerate",data:=.fields #[.none,.bool false,.ref it,rawInt 0,.none,.none] }
theorem make (l:Addr) (items:Array Value) :
  Meets (Builtin.«enumerate.__new__» ⟨[.type "enumerate",.ref l],[]⟩) (λ_ R s=>s.heap.IsTuple l items ∧
   R (.ok (.ret (.ref (s.heap.push (ZT.zI l)).objs.size))) { s with heap:=(s.heap.push (ZT.zI l)).push (oE s.heap.objs.size) }):=
 .of_wp λprog w A R s h=>by
  (obtain⟨hp,g,d,tk,os⟩:=s)
  obtain⟨hl,h⟩:=h
  have hsub:=sub_enumerate
  have hT:Heap.IsTuple (Shared.heap ⟨hp,g,d,tk,os⟩) l items:=hl
  obtain⟨⟨c,dct,dt,sl⟩,ho,hc,n,hd⟩:=id hl
  replace hc:c=.type "tuple" := hc
  replace hd:dt=.seq items n:=(hd)
  subst hc hd
  wp_walk using AutoSeq1.wpAny_loadPart' ho
  (refine wpAny_stack_any λst=>wpAny_pure ?_)
  split
  ·rename_i c _ _ _ _ _
   cases ((c == Value.type "enumerate"))
   ·wp_walk using AutoSeq1.wpAny_loadPart' ho,wpAny_pyIter_tuple hT
    exact⟨_,rfl,h⟩
   wp_walk using AutoSeq1.wpAny_loadPart' ho,wpAny_pyIter_tuple hT
   exact⟨_,rfl,h⟩
  wp_walk using AutoSeq1.wpAny_loadPart' ho,wpAny_pyIter_tuple hT
  exact⟨_,rfl,h⟩
end EN
namespace L2
open PySem PyProof.Rows
section
variable {X:Cx}
noncomputable def Ite (K:W.Frag) (a:Addr):It:=
 ⟨λi H=>∃xs x,SqT K H a xs∧xs[i]? = some x,
  λi H v H'=>∃p x,v=.ref p∧H p=none∧H'=upd H p (.tup [.int (i:Nat),x])∧∀xs,SqT K H a xs→xs[i]? = some x,
  λi H=>∃xs,SqT K H a xs∧xs.length=i⟩
theorem turn_enum {P:Program}{w:World}{K:W.Frag}{elts:List Expr}{x1}{tp:Pos}(e it a:Addr) (hne:e≠it):Turn P w K (.Tuple elts x1 tp) (Ite K a) [e,it] e (λi h=>(∃old,IsEnum h e it (i:Nat) old)∧h.IsTupleIter it a i) where
 mem:=by simp
 obj:=λn h st c hc=>by
  obtain⟨⟨old,h1⟩,o4,e4,_,d4⟩:=st
  simp only[mem_cons,not_mem_nil,or_false]at hc
  rcases hc with rfl | rfl
  ·exact⟨_,h1,λv e=>nomatch e⟩
  exact⟨_,e4,λv e=>by rw[d4]at e; cases e⟩
 keep:=λn h h' st k=>by
  obtain⟨⟨old,h1⟩,o4,e4,r4⟩:=st
  exact⟨⟨old,k e (by simp) _ h1⟩,o4,k it (by simp) _ e4,r4⟩
 item:=by
  intro X hP hw hK hc n pins s σ H E I hf st hg
  subst hP hw hK
  obtain⟨xs,x,qa,hx⟩:=hg
  obtain⟨⟨old,h1⟩,h4⟩:=st
  obtain⟨its,rv,pa,_⟩:=I.tuple qa
  obtain⟨u,hu,ru⟩:=rv.get hx
  have off:∀c∈[e,it],a≠c:=λc hc z=>I.fpT qa (z ▸ hf c hc)
  have ne1:=off e (by simp)
  have ne2:=off it (by simp)
  have hl:n < its.toArray.size:=by
   have:=(List.getElem?_eq_some_iff.mp hu).1
   simpa using this
  have tz:s.heap.objs.size≠e:=ne_of_gt (Heap.lt_size h1)
  refine wpAny_pyNext_enum_itemD (EN.draws (A:=X.A.in1) (show X.A.in1.handled=none from I.ok.hd hc) it a ne2 its.toArray) h1 ⟨h4,(show s.heap.IsTuple a its.toArray from pa)⟩ hl hne (by simp only[mem_cons,not_mem_nil,or_false,not_or]; exact⟨hne,ne1.symm⟩) λy h' tk hP hout hst' ht hsz kk=>?_
  have hy:y=u:=by
   have h2:its[n]? = some y:=by simpa using hP
   rw[hu]at h2
   exact(Option.some.inj h2).symm
  subst hy
  refine⟨_,rfl,wpAny_letOwnedTupleGo_enum (s:={ s with heap:=h',toks:=tk + 1 }) hout λh'' g6 sb=>?_⟩
  have kall:∀c o,c∉[e,it]→s.heap.get? c=some o→h''.get? c=some o:=λc o hc z=>by
   simp only[mem_cons,not_mem_nil,or_false,not_or]at hc
   exact sb.extBut _ _ hc.1 (kk c o hc.1 hc.2 z)
  have new:ObjOk X.prog X.w (upd H s.heap.objs.size (.tup [.int (n:Nat),x])) h'' s.heap.objs.size (.tup [.int (n:Nat),x]):=
   ⟨by show 2≤sizeLine; decide,[.int n tk,y],.cons ⟨tk,rfl⟩ (.cons ru .nil),_,sb.extBut _ _ tz ht,rfl,0,rfl⟩
  have fr:H s.heap.objs.size=none:=I.hok.fresh (Nat.le_refl _)
  obtain⟨oi,ei,ri⟩:=hst'.1
  have lt2:it < s.heap.objs.size:=by
   obtain⟨o4,e4,_⟩:=h4
   exact Heap.lt_size e4
  refine⟨.ref s.heap.objs.size,_,I.stepN (t':=tk + 1) hf kall new,rfl,⟨_,x,rfl,fr,rfl,λzs hz=>by rw[I.tuple_inj hz qa]; exact hx⟩,⟨⟨_,by simpa using g6⟩,oi,sb.extBut _ _ hne.symm ei,ri⟩,λc hc=>?_⟩
  have hcn:c≠s.heap.objs.size:=by
   simp only[mem_cons,not_mem_nil,or_false]at hc
   rcases hc with rfl | rfl
   ·exact tz.symm
   exact ne_of_lt lt2
  rw[Zaj hcn]
  exact(hf c hc).1
 done:=by
  intro X hP hw hK hc n pins s σ H E I hf st hg
  subst hP hw hK
  obtain⟨xs,qa,hx⟩:=hg
  obtain⟨⟨old,h1⟩,h4⟩:=st
  obtain⟨its,rv,pa,_⟩:=I.tuple qa
  have hl:=rv.length
  have hsz:its.toArray.size=n:=by simp; lia
  have off:∀c∈[e,it],a≠c:=λc hc z=>I.fpT qa (z ▸ hf c hc)
  refine wpAny_pyNext_enum_endD (EN.draws (A:=X.A.in1) (show X.A.in1.handled=none from I.ok.hd hc) it a (off it (by simp)) its.toArray) h1 ⟨by rw[hsz]; exact h4,(show s.heap.IsTuple a its.toArray from pa)⟩ λh' eb=>⟨rfl,I.stepL (t':=s.toks) hf λc o hc z=>eb c o (λq=>hc (by rw[q]; simp)) z⟩
 self:=λ_ _ _ _ _ st h=>by
  obtain⟨⟨old,h1⟩,_⟩:=st
  exact wpAny_pyIter_enum h1 h
noncomputable def iEnum (K:W.Frag) (ta:TA):TI:=λσ H R=>ta σ H λvs H1=>∃a,vs=[.ref a]∧(∃xs,SqT K H1 a xs)∧R (Ite K a) H1
theorem Zj4 {a:Expr}{ta:TA}{p pos tp:Pos}{elts:List Expr}{x1}(hg:Gl X "enumerate") (hm:X.mg "enumerate" = none) (hv:bootBuiltins "enumerate" = some (.type "enumerate")) (ha:PA X [a] ta)
  (hs:starEach [a] X.env=[(false,eval a X.env)]:=by rfl):PI X (.Tuple elts x1 tp) (.Call (.Name "enumerate" p) [a] [] pos) (iEnum X.K ta):=by
 intro pins s σ H R I h
 refine Call_ (Zho I hg hm hv (PyProof.Rows.callWith_type1 (thn (ha pos pins s σ H _ I h) λus s1 hp0=>?_) (by rw[hs]; rfl) (by rfl)))
 obtain⟨vs,H1,I1,r1,q1⟩:=hp0
 obtain⟨x,rfl,⟨xs,qa⟩,q⟩:=q1
 obtain⟨u,rfl,ru⟩:=Zdd r1
 cases ru
 obtain⟨its,r2,pa,_⟩:=I1.tuple qa
 refine callType_new F.called_enumerate (by decide) (F.typeCall_enumerate_1 _) (F.newCall_enumerate_1 _) (λobj=>F.args_object_init_2 obj _) F.entry_enumerate_new (EN.make x its.toArray) ⟨show s1.heap.IsTuple x its.toArray from pa,?_⟩
 have e1:(s1.heap.push (ZT.zI x)).objs.size=s1.heap.objs.size + 1:=Heap.size_push ..
 have g2:((s1.heap.push (ZT.zI x)).push (EN.oE s1.heap.objs.size)).get? (s1.heap.push (ZT.zI x)).objs.size=some _:=Heap.get?_push_size _ rfl
 have g1:((s1.heap.push (ZT.zI x)).push (EN.oE s1.heap.objs.size)).get? s1.heap.objs.size=some _:=Heap.get?_push_of_some _ (Heap.get?_push_size _ rfl)
 have kept:∀c o,s1.heap.get? c=some o→((s1.heap.push (ZT.zI x)).push (EN.oE s1.heap.objs.size)).get? c=some o:=λc o e=>Heap.get?_push_of_some _ (Heap.get?_push_of_some _ e)
 show _∧_
 refine⟨⟨_,g2,rfl⟩,wpAny_pyIter_enum (i:=0) (old:=.none) g2 ⟨_,[_,_],_,_,H1,rfl,I1.kept (t':=s1.toks) kept,turn_enum _ s1.heap.objs.size x (by rw[e1]; exact ne_of_gt (lt_succ_self _)),⟨⟨_,g2⟩,_,g1,rfl,rfl⟩,λc hc=>?_,q⟩⟩
 have hc':s1.heap.objs.size≤c:=by
  simp only[mem_cons,not_mem_nil,or_false]at hc
  rcases hc with e | e <;> (rw[e]; show @LE.le Nat _ _ _; lia)
 exact I1.fpOk hc' (I1.hok.fresh hc')
end
end L2
namespace L2
open PySem PyProof.Rows
mutual
/-- what a value reads as,lists too -/
inductive RdW (H:Hp):V→PyData→Prop
 | flat {x:V}{d:PyData}:RdV H x d→RdW H x d
 | lst {a:Addr}{xs:List V}{ds:List PyData}:H a=some (.lst xs)→RdWs H xs ds→RdW H (.ref a) (.list ds)
inductive RdWs (H:Hp):List V→List PyData→Prop
 | nil:RdWs H [] []
 | cons {x:V}{d:PyData}{xs:List V}{ds:List PyData}:RdW H x d→RdWs H xs ds→RdWs H (x :: xs) (d :: ds)
end
mutual
theorem RdW.reads {P:Program}{w:World}{H:Hp}{h:Heap}(ok:HOk P w H h):∀{x:V}{d:PyData}{u:Value},RdW H x d→RelV x u→∃as,Reads h u d as
 | _,_,_,.flat r,ru=>r.reads ok ru
 | _,_,u,.lst (a:=a) e r,ru=>by
  obtain rfl:u=Value.ref a:=ru
  obtain⟨z,its,n,rv,ho⟩:=ok _ _ e
  obtain⟨as,ra⟩:=RdWs.reads ok r rv
  exact⟨_,.list ho rfl rfl (by simpa using ra)⟩
theorem RdWs.reads {P:Program}{w:World}{H:Hp}{h:Heap}(ok:HOk P w H h):∀{xs:List V}{ds:List PyData}{us:List Value},RdWs H xs ds→Vals xs us→∃as,ReadsAll h us ds as
 | _,_,_,.nil,r=>by
  cases r
  exact⟨_,.nil⟩
 | _,_,_,.cons r rs,v=>by
  cases v with
  | cons ru rv=>
   obtain⟨as,ra⟩:=RdW.reads ok r ru
   obtain⟨bs,rb⟩:=RdWs.reads ok rs rv
   exact⟨_,.cons ra rb⟩
end
theorem RdWs.of {H:Hp}:∀{xs:List V}{ds:List PyData},RdVs H xs ds→RdWs H xs ds
 | _,_,.nil=>.nil
 | _,_,.cons r rs=>.cons (.flat r) (RdWs.of rs)
section
variable {X:Cx}
noncomputable def rNeW (neg:Bool):R2:=λx y H Q=>∃d e,RdW H x d∧RdW H y e∧PySem.SeqAt.shaped d=true∧PySem.SeqAt.shaped e=true∧Q (.bl (neg ^^ PyData.eqv d e)) H
theorem op_eqW (hu:X.A.units + 64 < cLine):OpR X (compareOp .Eq) (rNeW false):=by
 intro pins s σ H x y v u Q I rx ry h
 obtain⟨d,e,rd,re,h1,h2,q⟩:=h
 obtain⟨as,ra⟩:=rd.reads I.hok rx
 obtain⟨bs,rb⟩:=re.reads I.hok ry
 refine PySem.SeqAt.compareEq_shaped ra rb h1 h2 hu ⟨.bl _,H,I,rfl,?_⟩
 rw[Bool.false_xor]at q
 exact q
end
end L2
namespace DP
open PySem PyProof.Rows
theorem lk_keys:typeLookup (.type "list") "keys" = pure none:=by rw[typeLookup_type,builtinLookup_eq_fast]; kernel_rfl
theorem Zmr:entryFor table "dict.update.loop" = some Builtin.«dict.update.loop»:=entryFor_of_fast (by kernel_rfl)
theorem Zh3:plainId "dict.update.loop" = true:=by decide +kernel
section
variable {prog:Program}{w:World}{A:Around}{E:Value→Shared→Prop}{s:Shared}
theorem keys_none {a:Addr}{its:Array Value}{n:Nat}{Q:Option Value→Shared→Prop}(hh:A.handled=none) (ho:s.heap.get? a=some { cls:=.type "list",dict:=none,data:=.seq its n,slots:=#[] })
  (q:∀h' t',(∀b u,s.heap.get? b=some u→h'.get? b=some u)→Q none { s with heap:=h',toks:=t' }):wpAny (model prog w) A (getAttr? (.ref a) "keys") Q E s:=by
 (obtain⟨hp,g,d,tk,os⟩:=s)
 have ty:∀k,(⟨hp,g,d,k,os⟩:Shared).TypeIs (.ref a) "list" := λ_=>⟨_,ho,rfl⟩
 have f1:=sub_AttributeError
 (have f3:=F.slot_list_getattribute.lookup)
 (have f4:=F.slot_list_getattribute.bind (.ref a))
 (have f5:=am_list_getattr_none)
 (unfold getAttr? getAttrBy? getAttrBy)
 repeat (any_goals (first | assumption | exact ty _ | ((with_reducible show wpAny _ _ (call (Value.builtin "list.__getattribute__") _ _) _ _ _); refine call_meets F.slot_list_getattribute (ty _) am_entry_list_getattribute (F.args_list_getattribute_2 _ _) (meets_getattribute_miss_list a its n #[] "keys" _ lk_keys (by decide +kernel) (by rw[sizeLine_eq]; decide +kernel)) ⟨ho,hh,λh9 k9 e9 x9=>?_⟩) | wp_step))
 obtain⟨t8,u8,he⟩:=x9.there
 have kp:=x9.of
 (show wpAny _ _ (getattributeRaised _ _ _ _ _ _ _) _ _ _)
 unfold getattributeRaised
 (repeat (any_goals (first | assumption | wp_step)))
 exact q _ _ x9.keeps
end
section
variable {prog:Program}{w:World}{κ:Type} [DecidableEq κ] {knd:KeyKind prog w κ}{A:Around}{R:Result→Shared→Prop}
noncomputable def put (kvs:List (κ×Value)):List (κ×Value):=kvs.foldl (λacc p=>stored acc p.1 p.2) []
theorem put_snoc (kvs:List (κ×Value)) (p:κ×Value):put (kvs ++ [p])=stored (put kvs) p.1 p.2:=by
 unfold put
 rw[List.foldl_append]
 rfl
theorem stored_len (kvs:List (κ×Value)) (k:κ) (v:Value):(stored kvs k v).length≤kvs.length + 1:=by
 unfold stored
 split
 ·rw[length_map]; lia
 rw[length_append]; exact Nat.le_refl _
theorem put_len:∀kvs:List (κ×Value),(put kvs).length≤kvs.length:=by
 have go:∀(kvs acc:List (κ×Value)),(kvs.foldl (λacc p=>stored acc p.1 p.2) acc).length≤acc.length + kvs.length:=by
  intro kvs
  induction kvs with
  | nil=>exact λacc=>Nat.le_refl _
  | cons p r ih=>
   intro acc
   have h1:=ih (stored acc p.1 p.2)
   have h2:=stored_len acc p.1 p.2
   (rw[foldl_cons,length_cons])
   lia
 intro kvs
 have:=go kvs []
 rw[length_nil,Nat.zero_add]at this
 exact this
theorem loop {I l D:Addr}{items:Array Value}{kvs:List (κ×Value)}{h0:Heap}(hh:A.in1.handled=none) (n1:l≠I) (n2:D≠I) (n3:D≠l) (hz:kvs.length≤1000000) (hl:items.size=kvs.length)
  (tup:∀(i:Nat) (k:κ) (v:Value),kvs[i]? = some (k,v)→∃t key n o,items[i]? = some (.ref t)∧t≠D∧t≠I∧knd.is k key=true∧h0.get? t=some o∧o.cls=.type "tuple" ∧ o.data=.seq #[key,v] n) :
  ∀(m i:Nat) (s:Shared),kvs.length - i=m→i≤kvs.length→s.heap.IsListIter I l i→s.heap.IsList l items→s.heap.DictOf knd D (put (kvs.take i))→(∀b o,b≠D→b≠I→h0.get? b=some o→s.heap.get? b=some o) →
   (∀(h':Heap) (t':Nat),h'.DictOf knd D (put kvs)→(∀b o,b≠D→b≠I→s.heap.get? b=some o→h'.get? b=some o)→R (.ok (.ret .none)) { s with heap:=h',toks:=t' }) →
   codeAny (model prog w) A (.builtin "dict.update.loop" ⟨[.ref D,.ref I,.int (i:Nat) 0,.none],[]⟩) R s:=by
 intro m
 induction m with
 | zero=>
  intro i s hm hi st hL hd kp fin
  obtain rfl:i=kvs.length:=by lia
  rw[take_length]at hd
  refine codeAny_builtin Zmr ?_
  rw[Around.under_plainId Zh3 _]
  refine wpAny_bind (m:=pyNext (.ref I)) (wpAny_pyNext_list_end hh st hL (by simp[hl]) λh1 e1=>?_)
  show wpAny _ _ (Builtin.Dict.addKeywords D [] >>= λ_=>ret Value.none) _ _ _
  refine wpAny_bind (m:=Builtin.Dict.addKeywords D []) (wpAny_pure (wpAny_pure (fin h1 s.toks ?_ λb o c1 c2 e=>e1 b o c2 e)))
  exact hd.extBut e1 n2
 | succ m ih=>
  intro i s hm hi st hL hd kp fin
  have lt:i < kvs.length:=by lia
  obtain⟨t,key,n,o,hit,td,tI,hk,ht,hcl,hdt⟩:=tup i kvs[i].1 kvs[i].2 (getElem?_eq_getElem lt)
  have ht1:=kp t _ td tI ht
  refine codeAny_builtin Zmr ?_
  rw[Around.under_plainId Zh3 _]
  refine wpAny_bind (m:=pyNext (.ref I)) (wpAny_pyNext_list_item st hL hit λh1 st1 sb=>?_)
  have ht2:=sb.extBut _ _ tI ht1
  have e1:put (kvs.take (i + 1))=stored (put (kvs.take i)) kvs[i].1 kvs[i].2:=by rw[take_succ_eq_append_getElem lt,put_snoc]
  have hln:=put_len (kvs.take i)
  rw[length_take]at hln
  refine wpAny_bind (wpAny_holding (wpAny_bind (wpAny_tryCatch ?_)))
  unfold Builtin.Dict.pairItems
  refine wpAny_bind (wpAny_typeOf (T := "tuple") ⟨_,ht2,hcl⟩ ?_)
  rw[if_pos (by decide)]
  refine wpAny_bind (wpAny_seqItems ht2 hdt (wpAny_pure ?_))
  refine wpAny_holding (wpAny_dictSet_pairs (s:={ s with heap:=h1 }) hk (hd.sameBut sb n2) (λh2 hd2 sb2=>?_) (by rw[sizeLine_eq]; lia))
  rw[← e1]at hd2
  refine wpAny_pure ⟨plainId_quiet Zh3 _,ih (i + 1) _ (by lia) lt (st1.extBut sb2.extBut n2.symm) ((hL.extBut sb.extBut n1).extBut sb2.extBut n3.symm) hd2 (λb o c1 c2 e=>sb2.extBut _ _ c1 (sb.extBut _ _ c2 (kp b o c1 c2 e))) λh3 t3 d3 k3=>fin h3 t3 d3 λb o c1 c2 e=>k3 b o c1 c2 (sb2.extBut _ _ c1 (sb.extBut _ _ c2 e))⟩
end
section
variable {prog:Program}{w:World}{κ:Type} [DecidableEq κ] {knd:KeyKind prog w κ}{A:Around}{E:Value→Shared→Prop}{s:Shared}
theorem make {l:Addr}{items:Array Value}{n:Nat}{kvs:List (κ×Value)}{Q:Value→Shared→Prop}(hh:A.handled=none) (ho:s.heap.get? l=some { cls:=.type "list",dict:=none,data:=.seq items n,slots:=#[] }) (hz:kvs.length≤1000000) (hl:items.size=kvs.length)
  (tup:∀(i:Nat) (k:κ) (v:Value),kvs[i]? = some (k,v)→∃t key n o,items[i]? = some (.ref t)∧knd.is k key=true∧s.heap.get? t=some o∧o.cls=.type "tuple" ∧ o.data=.seq #[key,v] n)
  (q:∀(h':Heap) (tk:Nat),h'.DictOf knd s.heap.objs.size (put kvs)→(∀b o,s.heap.get? b=some o→h'.get? b=some o)→Q (.ref s.heap.objs.size) { s with heap:=h',toks:=tk }) :
  wpAny (model prog w) A (call (.type "dict") [.ref l]) Q E s:=by
 refine callType_codes (Q₁:=λobj s1=>obj=.ref s.heap.objs.size∧s1={ s with heap:=s.heap.push { cls:=.type "dict",data:=.dict #[] } }) F.kt_called_dict (F.kt_typeCall_dict_1 _) F.entry_dict_init (kt_code_dict_new _ ⟨rfl,rfl⟩) ?_
 rintro obj s1 ⟨rfl,rfl⟩
 (have hnew:(s.heap.push { cls:=.type "dict",data:=.dict #[] }).DictOf knd s.heap.objs.size []:=Heap.DictOf.new s.heap)
 (refine⟨hnew.typeIs,F.args_dict_init_2 _ _,?_⟩)
 (unfold Builtin.«dict.__init__»)
 refine wpAny_bind ?_
 (unfold Builtin.Dict.selfAndRest)
 (refine wpAny_bind (wpAny_notOrdered_dict hnew.typeIs ?_))
 show wpAny _ _ (pure (s.heap.objs.size,[Value.ref l])) _ _ _
 refine wpAny_pure ?_
 show wpAny _ _ (Builtin.Dict.updateFrom "dict.__init__" s.heap.objs.size (.ref l) [] .none) _ _ _
 (unfold Builtin.Dict.updateFrom)
 have ho1:(s.heap.push { cls:=.type "dict",data:=.dict #[] }).get? l=some { cls:=.type "list",dict:=none,data:=.seq items n,slots:=#[] }:=Heap.get?_push_of_some _ ho
 refine wpAny_bind (wpAny_typeOf (T := "list") ⟨_,ho1,rfl⟩ ?_)
 rw[if_pos (by decide)]
 refine wpAny_bind (keys_none (show A.in1.in1.handled=none from hh) ho1 λh2 t2 k2=>?_)
 rw[if_pos (show(none:Option Value).isNone=true from rfl)]
 refine wpAny_bind (wpAny_rule ?_)
 have hL2:h2.IsList l items:=⟨_,k2 _ _ ho1,rfl,n,rfl⟩
 refine wpAny_bind (wpAny_pyIter_list hL2 ?_)
 have lD:s.heap.objs.size < h2.objs.size:=by
  obtain⟨od,_,_,hod,_⟩:=hnew
  exact Heap.lt_size (k2 _ _ hod)
 have ll:l < s.heap.objs.size:=Heap.lt_size ho
 have kp:∀b o,s.heap.get? b=some o→(h2.push { cls:=.type "list_iterator",data:=.fields #[.ref l,.int 0 0] }).get? b=some o:=λb o e=>Heap.get?_push_of_some _ (k2 _ _ (Heap.get?_push_of_some _ e))
 have hd2:(h2.push { cls:=.type "list_iterator",data:=.fields #[.ref l,.int 0 0] }).DictOf knd s.heap.objs.size []:=by
  obtain⟨od,es,ep,hod,r⟩:=hnew
  exact⟨od,es,ep,Heap.get?_push_of_some _ (k2 _ _ hod),r⟩
 refine wpAny_pure ⟨plainId_quiet Zh3 _,loop (knd:=knd) (kvs:=kvs) (h0:=s.heap) (I:=h2.objs.size) (l:=l) (D:=s.heap.objs.size) (items:=items) (show A.in1.in1.handled=none from hh) (ne_of_lt (lt_trans ll lD)) (ne_of_lt lD) (ne_of_gt ll) hz hl (λi k v e=>?_) (kvs.length - 0) 0 _ rfl (zero_le _) ⟨_,Heap.get?_push_size _ rfl,rfl,rfl⟩ (hL2.push _) hd2 (λb o _ _ e=>kp b o e) λh3 t3 d3 k3=>⟨rfl,q h3 t3 d3 λb o e=>k3 b o (ne_of_lt (Heap.lt_size e)) (ne_of_lt (lt_trans (Heap.lt_size e) lD)) (kp b o e)⟩⟩
 obtain⟨t,key,n,o,a1,a2,a3,a4,a5⟩:=tup i k v e
 exact⟨t,key,n,o,a1,ne_of_lt (Heap.lt_size a3),ne_of_lt (lt_trans (Heap.lt_size a3) lD),a2,a3,a4,a5⟩
end
end DP
namespace L2
open PySem PyProof.Rows
section
variable {X:Cx}
noncomputable def putAll (kvs:List (Key×V)):List (Key×V):=kvs.foldl (λacc p=>putK acc p.1 p.2) []
theorem KV.putAll:∀{kvs:List (Key×V)}{vs:List (Key×Value)},KV kvs vs→KV (L2.putAll kvs) (DP.put vs):=by
 have go:∀{kvs:List (Key×V)}{vs:List (Key×Value)}{a:List (Key×V)}{b:List (Key×Value)},KV kvs vs→KV a b→KV (kvs.foldl (λacc p=>putK acc p.1 p.2) a) (vs.foldl (λacc p=>stored acc p.1 p.2) b):=by
  intro kvs
  induction kvs with
  | nil=>
   intro vs a b r ra
   cases r
   exact ra
  | cons p r ih=>
   intro vs a b rr ra
   cases rr with
   | cons h t=>
    rw[foldl_cons,foldl_cons,← h.1]
    exact ih t (ra.put _ h.2)
 intro kvs vs r
 exact go r .nil
theorem Zi2:∀{ts:List Addr}{us:List Value},Vals (ts.map V.ref) us→us=ts.map Value.ref
 | [],_,r=>by
  cases r
  rfl
 | t :: ts,_,r=>by
  cases r with
  | cons h q=>
   cases h
   rw[Zi2 q]
   rfl
theorem putAll_len (kvs:List (Key×V)):(L2.putAll kvs).length≤kvs.length:=by
 have go:∀(kvs a:List (Key×V)),(kvs.foldl (λacc p=>putK acc p.1 p.2) a).length≤a.length + kvs.length:=by
  intro kvs
  induction kvs with
  | nil=>exact λa=>Nat.le_refl _
  | cons p r ih=>
   intro a
   have h1:=ih (putK a p.1 p.2)
   have h2:=Zcv a p.1 p.2
   (rw[foldl_cons,length_cons])
   lia
 have:=go kvs []
 rw[length_nil,Nat.zero_add]at this
 exact this
theorem Zkq {P:Program}{w:World}{H:Hp}{h:Heap}(ok:HOk P w H h):∀(ts:List Addr) (kvs:List (Key×V)),ts.length=kvs.length→(∀(i:Nat) (t:Addr) (k:Key) (v:V),ts[i]? = some t→kvs[i]? = some (k,v)→H t=some (.tup [kV k,v])) →
  ∃vs:List (Key×Value),KV kvs vs∧∀(i:Nat) (k:Key) (v:Value),vs[i]? = some (k,v)→∃t key n o,ts[i]? = some t∧(Zat P w).is k key=true∧h.get? t=some o∧o.cls=.type "tuple" ∧ o.data=.seq #[key,v] n
 | [],[],_,_=>⟨[],.nil,λi k v e=>by simp at e⟩
 | [],_ :: _,hl,_=>by cases hl
 | _ :: _,[],hl,_=>by cases hl
 | t :: ts,(k,v) :: kvs,hl,hh=>by
  obtain⟨vs,r,q⟩:=Zkq ok ts kvs (Nat.succ.inj hl) λi t' k' v' h1 h2=>hh (i + 1) t' k' v' (by simpa using h1) (by simpa using h2)
  obtain⟨z,its,rv,o,ho,hc,n,hd⟩:=ok t _ (hh 0 t k v rfl rfl)
  obtain⟨uk,uv,rfl,rk,rv'⟩:=Zlo rv
  refine⟨(k,uv) :: vs,.cons ⟨rfl,rv'⟩ r,λi k' v' e=>?_⟩
  cases i with
  | zero=>
   cases e
   exact⟨t,uk,n,o,rfl,Zhe rk,ho,hc,hd⟩
  | succ i=>
   obtain⟨t',key,n',o',b1,b2⟩:=q i k' v' (by simpa using e)
   exact⟨t',key,n',o',by simpa using b1,b2⟩
theorem Zhw (hc:X.calm=true):Zcy X (.type "dict") (λxs H Q=>∃(p:Addr) (ts:List Addr) (kvs:List (Key×V)),xs=[.ref p]∧H p=some (.lst (ts.map V.ref))∧ts.length=kvs.length∧kvs.length≤1000 ∧
  (∀(i:Nat) (t:Addr) (k:Key) (v:V),ts[i]? = some t→kvs[i]? = some (k,v)→H t=some (.tup [kV k,v]))∧∀d,H d=none→Q (.ref d) (upd H d (.dK (putAll kvs)))):=by
 intro pins s σ H xs us Q I r h
 obtain⟨p,ts,kvs,rfl,hp,hl,hz,ht,q⟩:=h
 obtain⟨u,rfl,ru⟩:=Zdd r
 cases ru
 obtain⟨z,its,n,rv,hlen,e⟩:=I.lstM hp
 obtain⟨vs,rk,at'⟩:=Zkq I.hok ts kvs hl ht
 have ei:=Zi2 rv
 subst ei
 have hlv:=rk.length
 rw[length_map]at hlen
 refine DP.make (knd:=Zat X.prog X.w) (kvs:=vs) (I.ok.hd hc) e (by lia) (by rw[size_toArray,length_map]; lia) (λi k v ev=>?_) λh' tk hd kp=>?_
 ·obtain⟨t,key,n',o,b1,b2,b3,b4,b5⟩:=at' i k v ev
  exact⟨t,key,n',o,by rw[getElem?_toArray,getElem?_map,b1]; rfl,b2,b3,b4,b5⟩
 have hp2:=putAll_len kvs
 have hs:sizeLine=16777216:=sizeLine_eq
 have big:=I.big
 refine⟨.ref _,_,I.laid (a:=s.heap.objs.size) (o:=.dK (putAll kvs)) (t':=tk) kp (Nat.le_refl _) ⟨by lia,?_,_,KV.putAll rk,hd⟩,rfl,q _ (I.hok.fresh (Nat.le_refl _))⟩
 exact beq_eq_false_iff_ne.mpr (ne_of_gt big)
end
end L2
namespace LP
open PySem PyProof.Rows
end LP
namespace L2
open PySem PyProof.Rows
end L2
namespace SI
open PySem PySem.W PyProof.Rows
noncomputable def run {α:Type}(f:Nat→Nat→Bool):KasT α→α
 | .ret a=>a
 | .ask i j k=>run f (k (f i j))
noncomputable def good {α:Type}(n:Nat):KasT α→Bool
 | .ret _=>true
 | .ask i j k=>(decide (i < n) && decide (j < n) && decide (i≠j)) && (good n (k true) && good n (k false))
theorem Zmn {α:Type}{n:Nat}{k:Bool→KasT α}(h:(good n (k true) && good n (k false))=true) (b:Bool):good n (k b)=true:=by
 rw[and_eq_true]at h
 cases b with
 | true=>exact h.1
 | false=>exact h.2
theorem Znj {α:Type}{n:Nat}{f:Nat→Nat→Bool}{cmp:Nat→Nat→(Bool→Shared→Prop)→Shared→Prop}{Q:α→Shared→Prop}{s:Shared}(hc:∀i j (C:Bool→Shared→Prop),i < n→j < n→i≠j→C (f i j) s→cmp i j C s) :
  ∀t:KasT α,good n t=true→Q (run f t) s→t.kasWp cmp Q s
 | .ret _,_,h=>h
 | .ask i j k,g,h=>by
  unfold good at g
  rw[and_eq_true,and_eq_true,and_eq_true]at g
  have g2:=g.2
  exact hc i j _ (of_decide_eq_true g.1.1.1) (of_decide_eq_true g.1.1.2) (of_decide_eq_true g.1.2) (Znj hc (k (f i j)) (Zmn g2 _) h)
theorem Zgz {α:Type}{n:Nat}{f g:Nat→Nat→Bool}(hc:∀i j,i < n→j < n→i≠j→f i j=g i j):∀t:KasT α,good n t=true→run f t=run g t
 | .ret _,_=>rfl
 | .ask i j k,q=>by
  unfold good at q
  rw[and_eq_true,and_eq_true,and_eq_true]at q
  have g2:=q.2
  show run f (k (f i j))=run g (k (g i j))
  rw[hc i j (of_decide_eq_true q.1.1.1) (of_decide_eq_true q.1.1.2) (of_decide_eq_true q.1.2)]
  exact Zgz hc _ (Zmn g2 _)
theorem good2:good 2 (kas_sort 2)=true:=by decide +kernel
theorem good3:good 3 (kas_sort 3)=true:=by decide +kernel
noncomputable def f3 (a b c:Bool):Nat→Nat→Bool
 | 0,1=>a
 | 1,0=>!a
 | 0,2=>b
 | 2,0=>!b
 | 1,2=>c
 | 2,1=>!c
 | _,_=>false
noncomputable def Zer (f:Nat→Nat→Bool) (p:List Nat) (n:Nat):Bool:=decide (p.Perm (List.range n)) && (p.zip p.tail).all λq=>f q.1 q.2
theorem s2:∀a:Bool,Zer (f3 a false false) (run (f3 a false false) (kas_sort 2)).toList 2=true:=by decide +kernel
theorem s3:∀a b c:Bool,(!(a && c && !b) && !(!a && !c && b))=true→Zer (f3 a b c) (run (f3 a b c) (kas_sort 3)).toList 3=true:=by decide +kernel
section
variable {prog:Program}{w:World}{A:Around}{E:Value→Shared→Prop}{s:Shared}
theorem sort_walk {f:Nat→Nat→Bool}{a:Addr}{vs:List Value}{n:Nat}{P:PySem.Fin→Shared→Prop}(ho:s.heap.get? a=some (seqObj "list" vs.toArray n)) (h3:vs.length≤3)
  (ask:2≤vs.length→∀h',(∀b o,b≠a→s.heap.get? b=some o→h'.get? b=some o)→wpAny (model prog w) A (keyKind' vs.toArray) (λκ s'=>s'={ s with heap:=h' }∧∀i j (C:Bool→Shared→Prop),i < vs.length→j < vs.length→i≠j→C (f i j) s'→kas_ask prog w A κ vs i j C s') (λ_ _=>False) { s with heap:=h' })
  (fin:∀h' c (p:List Nat),p.length=vs.length→(2≤vs.length→p=(run f (kas_sort vs.length)).toList)→(vs.length < 2→p=List.range vs.length)→(∀b o,b≠a→s.heap.get? b=some o→h'.get? b=some o)→h'.get? a=some (seqObj "list" (p.map λi=>vs.getD i Value.none).toArray c)→P (.done (.ret .none)) { s with heap:=h' }) :
  (wpAny (model prog w) A (Builtin.«list.sort» ⟨[.ref a],[]⟩) P E s):=by
 (have ha:a < s.heap.objs.size:=Heap.lt_size ho)
 have o1:=Heap.SameBut.update s.heap a (Obj.mapSeq λ_=>(#[]:Array Value))
 (obtain⟨e1,ho1⟩:∃e1,(s.heap.update a (Obj.mapSeq λ_=>(#[]:Array Value))).get? a=some (seqObj "list" #[] e1):=⟨_,get?_update_seq ho λ_=>#[]⟩)
 rw[list_sort_plain]
 (refine wpAny_bind (listItems_at ho rfl ?_))
 (refine wpAny_bind (listUpdate_at ho rfl ?_ (by rw[size_toArray,sizeLine_eq]; lia) (zero_le _)))
 (refine wpAny_bind (seqEpoch_at ho1 rfl ?_))
 (refine wpAny_bind (wpAny_newTuple ?_ (by show vs.length≤_; rw[sizeLine_eq]; lia)))
 (refine wpAny_bind (wpAny_newList ?_ (zero_le _)))
 refine wpAny_holding ?_
 have keep:∀b o,b≠a→s.heap.get? b=some o→(((s.heap.update a (Obj.mapSeq λ_=>(#[]:Array Value))).push (seqObj "tuple" vs.toArray 0)).push (seqObj "list" #[] 0)).get? b=some o:=λb o hb e=>Heap.get?_push_of_some _ (Heap.get?_push_of_some _ ((o1.2 b hb).trans e))
 have hoa:(((s.heap.update a (Obj.mapSeq λ_=>(#[]:Array Value))).push (seqObj "tuple" vs.toArray 0)).push (seqObj "list" #[] 0)).get? a=some (seqObj "list" #[] e1):=Heap.get?_push_of_some _ (Heap.get?_push_of_some _ ho1)
 (show wpAny (model prog w) A _ P E { s with heap:=((s.heap.update a (Obj.mapSeq λ_=>(#[]:Array Value))).push (seqObj "tuple" vs.toArray 0)).push (seqObj "list" #[] 0) })
 generalize ((s.heap.update a (Obj.mapSeq λ_=>(#[]:Array Value))).push (seqObj "tuple" vs.toArray 0)).push (seqObj "list" #[] 0)=h1 at keep hoa ⊢
 dsimp only
 by_cases h2:vs.length < 2
 ·have hn2:vs.toArray.size < 2:=by rw[size_toArray]; exact h2
  rw[if_pos hn2,if_pos hn2]
  refine wpAny_bind (wpAny_pure ?_)
  refine wpAny_bind (wpAny_of_eq (a:=((),SortSt.mk' general' (vs.toArray.zip vs.toArray) #[] 7 none)) rfl ?_)
  dsimp only
  have hout:(arrOf (SortSt.mk' general' (vs.toArray.zip vs.toArray) #[] 7 none)).map (·.2)=((List.range vs.length).map λi=>vs.getD i Value.none).toArray:=by
   show((vs.toArray.zip vs.toArray).map (·.2))=_
   apply Array.toList_inj.mp
   rw[Array.toList_map,Array.toList_zip,List.toList_toArray,List.map_snd_zip (Nat.le_refl _)]
   refine ext_getElem (by simp) λk h1 h2=>?_
   simp[getD_eq_getElem?_getD,h1]
  rw[hout]
  have hp:(List.range vs.length).length=vs.length:=length_range
  have o2:=Heap.SameBut.update h1 a (Obj.mapSeq λ_=>((List.range vs.length).map λi=>vs.getD i Value.none).toArray)
  obtain⟨c2,hc2⟩:∃c2,(h1.update a (Obj.mapSeq λ_=>((List.range vs.length).map λi=>vs.getD i Value.none).toArray)).get? a=some (seqObj "list" ((List.range vs.length).map λi=>vs.getD i Value.none).toArray c2):=⟨_,get?_update_seq hoa λ_=>((List.range vs.length).map λi=>vs.getD i Value.none).toArray⟩
  refine wpAny_bind (seqEpoch_at hoa rfl ?_)
  refine wpAny_bind (listUpdate_at hoa rfl ?_ (zero_le _) (by rw[size_toArray,length_map,sizeLine_eq]; lia))
  show wpAny _ _ (if (e1 != e1)=true then _ else _) _ _ _
  rw[if_neg (by simp)]
  exact wpAny_pure (fin _ c2 _ hp (λz=>absurd h2 (by lia)) (λ_=>rfl) (λb o hb e=>(o2.2 b hb).trans (keep b o hb e)) hc2)
 have hn2:¬vs.toArray.size < 2:=by rw[size_toArray]; exact h2
 rw[if_neg hn2,if_neg hn2]
 refine wpAny_bind (wpAny_mono (ask (by lia) h1 keep) (λκ s0 hk=>?_) λ_ _ x=>x.elim)
 obtain⟨rfl,hk⟩:=hk
 refine wpAny_bind (wpAny_mono (kat_run (Q:=λst' s'=>s'={ s with heap:=h1 }∧∃p:Array Nat,p.size=vs.length∧arrOf st'=p.map (kas_item (vs.toArray.zip vs.toArray))∧failedOf st'=none∧p=run f (kas_sort vs.length)) (G:=λp s'=>s'={ s with heap:=h1 }∧p=run f (kas_sort vs.length))
  rfl (by lia) (by lia) (λp st' s' a1 a2 a3 a4=>⟨a4.1,p,a1,a2,a3,a4.2⟩) (Znj hk _ ?_ ⟨rfl,rfl⟩)) ?_ λ_ _ e=>e)
 ·rcases(by lia:vs.length=2∨vs.length=3)with e | e
  ·rw[e]; exact good2
  rw[e]; exact good3
 rintro⟨⟨⟩,st'⟩ s' ⟨rfl,p,hp,har,hf,hpe⟩
 dsimp only
 have hout:=kat_snds rfl har
 have hp':p.toList.length=vs.length:=by rw[Array.length_toList]; exact hp
 rw[hout]
 have o2:=Heap.SameBut.update h1 a (Obj.mapSeq λ_=>(p.toList.map λi=>vs.getD i Value.none).toArray)
 obtain⟨c2,hc2⟩:∃c2,(h1.update a (Obj.mapSeq λ_=>(p.toList.map λi=>vs.getD i Value.none).toArray)).get? a=some (seqObj "list" (p.toList.map λi=>vs.getD i Value.none).toArray c2):=⟨_,get?_update_seq hoa λ_=>(p.toList.map λi=>vs.getD i Value.none).toArray⟩
 refine wpAny_bind (seqEpoch_at hoa rfl ?_)
 refine wpAny_bind (listUpdate_at hoa rfl ?_ (zero_le _) (by rw[size_toArray,length_map,sizeLine_eq]; lia))
 rw[hf]
 (simp only[bne_self_eq_false,false_eq_true,if_false])
 exact wpAny_pure (fin _ c2 _ hp' (λ_=>by rw[hpe]) (λz=>absurd z h2) (λb o hb e=>(o2.2 b hb).trans (keep b o hb e)) hc2)
noncomputable def Ziy (h:Heap) (as:List Addr) (ks:List Str):Prop:=as.length=ks.length∧∀(i:Nat) a k,as[i]? = some a→ks[i]? = some k→∃t x,h.get? a=some { cls:=.type "tuple",data:=.seq #[.str k t,x] }
noncomputable def lt (ks:List Str) (i j:Nat):Bool:=decide ((ks.getD i Str.empty).cps.toList < (ks.getD j Str.empty).cps.toList)
theorem Zlx {h:Heap}:∀{as:List Addr}{ks:List Str},Ziy h as ks→∃fs:List Value,KatTups h (as.map Value.ref) fs∧fs.length=ks.length∧∀v∈fs,∃k t,v=.str k t
 | [],[],_=>⟨[],.nil,rfl,λv hv=>nomatch hv⟩
 | [],_ :: _,h=>by have:=h.1; simp at this
 | _ :: _,[],h=>by have:=h.1; simp at this
 | a :: as,k :: ks,hp=>by
  obtain⟨t,x,e⟩:=hp.2 0 a k rfl rfl
  obtain⟨fs,f1,f2,f3⟩:=Zlx (as:=as) (ks:=ks) ⟨by have:=hp.1; simpa using this,λi b l hb hl=>hp.2 (i + 1) b l (by simpa using hb) (by simpa using hl)⟩
  refine⟨.str k t :: fs,.cons e rfl rfl rfl f1,by simp[f2],λv hv=>?_⟩
  rcases(mem_cons.mp hv)with e | e
  ·exact⟨k,t,e⟩
  exact f3 v e
theorem tup_ask {as:List Addr}{ks:List Str}(hp:Ziy s.heap as ks) (nd:ks.Nodup) (h2:2≤as.length) :
  wpAny (model prog w) A (keyKind' (as.map Value.ref).toArray) (λκ s'=>s'=s∧∀i j (C:Bool→Shared→Prop),i < (as.map Value.ref).length→j < (as.map Value.ref).length→i≠j→C (lt ks i j) s'→kas_ask prog w A κ (as.map Value.ref) i j C s') E s:=by
 obtain⟨fs,f1,f2,f3⟩:=Zlx hp
 have hl:=hp.1
 refine kat_kind (T:=.type "str") f1 (by lia) (λv hv A' Q' E' s' _ q=>?_) (by decide) ⟨rfl,λi j C hi hj hij hC=>?_⟩
 ·obtain⟨k,t,rfl⟩:=f3 v hv
  exact wpAny_typeOf (T := "str") rfl q
 rw[length_map]at hi hj
 obtain⟨t,x,e1⟩:=hp.2 i as[i] (ks[i]'(by lia)) (getElem?_eq_getElem hi) (getElem?_eq_getElem (by lia))
 obtain⟨u,y,e2⟩:=hp.2 j as[j] (ks[j]'(by lia)) (getElem?_eq_getElem hj) (getElem?_eq_getElem (by lia))
 have hne:ks[i]'(by lia)≠ks[j]'(by lia):=λz=>hij ((getElem_inj nd).mp z)
 unfold kas_ask
 have g1:(as.map Value.ref).getD i Value.none=.ref as[i]:=by simp[getD_eq_getElem?_getD,hi]
 have g2:(as.map Value.ref).getD j Value.none=.ref as[j]:=by simp[getD_eq_getElem?_getD,hj]
 rw[g1,g2]
 refine kat_lt e1 rfl e2 rfl ?_
 show KatLex prog w A true _ C [(.str _ t,.str _ u),(x,y)] 0 s
 refine kat_cons (wpAny_eqBool_str ?_)
 rw[decide_eq_false hne]
 refine kat_no ?_
 have hC':C (decide ((ks[i]'(by lia)).cps.toList < (ks[j]'(by lia)).cps.toList)) s:=by
  unfold lt at hC
  rw[show ks.getD i Str.empty=ks[i]'(by lia) by simp[getD_eq_getElem?_getD,(by lia:i < ks.length)],show ks.getD j Str.empty=ks[j]'(by lia) by simp[getD_eq_getElem?_getD,(by lia:j < ks.length)]]at hC
  exact hC
 exact oneLt_str hC'
end
theorem Zex {ks:List Str}{i j:Nat}(nd:ks.Nodup) (hi:i < ks.length) (hj:j < ks.length) (hij:i≠j):lt ks j i=!lt ks i j:=by
 have gi:ks.getD i Str.empty=ks[i]:=by simp[getD_eq_getElem?_getD,hi]
 have gj:ks.getD j Str.empty=ks[j]:=by simp[getD_eq_getElem?_getD,hj]
 have hne:ks[i]≠ks[j]:=λz=>hij ((getElem_inj nd).mp z)
 unfold lt
 rw[gi,gj]
 generalize ks[i]=a at hne
 generalize ks[j]=b at hne
 by_cases h1:a.cps.toList < b.cps.toList
 ·have h2:¬b.cps.toList < a.cps.toList:=List.lt_asymm h1
  rw[decide_eq_true h1,decide_eq_false h2]
  rfl
 have h2:b.cps.toList < a.cps.toList:=by
  refine Decidable.byContradiction λh2=>hne ?_
  have e:a.cps.toList=b.cps.toList:=List.le_antisymm (not_lt.mp h2) (not_lt.mp h1)
  have e2:a.cps=b.cps:=Array.toList_inj.mp e
  cases a
  cases b
  cases e2
  rfl
 rw[decide_eq_false h1,decide_eq_true h2]
 rfl
theorem Zjk {ks:List Str}{i j k:Nat}(h1:lt ks i j=true) (h2:lt ks j k=true):lt ks i k=true:=decide_eq_true (List.lt_trans (of_decide_eq_true h1) (of_decide_eq_true h2))
theorem sorted_run {ks:List Str}(nd:ks.Nodup) (h2:2≤ks.length) (h3:ks.length≤3):Zer (lt ks) (run (lt ks) (kas_sort ks.length)).toList ks.length=true:=by
 have cong:∀(g:Nat→Nat→Bool) (n:Nat) (p:List Nat),(∀i j,i < n→j < n→i≠j→lt ks i j=g i j)→Zer g p n=true→Zer (lt ks) p n=true:=λg n p hg hs=>by
  unfold Zer at hs ⊢
  rw[and_eq_true]at hs ⊢
  refine⟨hs.1,?_⟩
  have hperm:=of_decide_eq_true hs.1
  rw[all_eq_true]at hs ⊢
  have hsd:=hs.2
  intro q hq
  have hq2:=hsd q hq
  have m1:q.1∈p:=(of_mem_zip hq).1
  have m2:q.2∈p:=List.mem_of_mem_tail (of_mem_zip hq).2
  have hndp:p.Nodup:=hperm.nodup_iff.mpr List.nodup_range
  have hne:q.1≠q.2:=λe=>by
   obtain⟨k,hk⟩:=getElem?_of_mem hq
   rw[List.getElem?_zip_eq_some,List.getElem?_tail]at hk
   obtain⟨l1,e1⟩:=List.getElem?_eq_some_iff.mp hk.1
   obtain⟨l2,e2⟩:=List.getElem?_eq_some_iff.mp hk.2
   have:=(getElem_inj hndp).mp (e1.trans (e.trans e2.symm))
   lia
  rw[hg q.1 q.2 (mem_range.mp (hperm.mem_iff.mp m1)) (mem_range.mp (hperm.mem_iff.mp m2)) hne]
  exact hq2
 rcases(by lia:ks.length=2∨ks.length=3)with e | e
 ·rw[e]
  have hg:∀i j,i < 2→j < 2→i≠j→lt ks i j=f3 (lt ks 0 1) false false i j:=λi j hi hj hij=>by
   rcases(by lia:(i=0∧j=1)∨(i=1∧j=0))with⟨rfl,rfl⟩ | ⟨rfl,rfl⟩
   ·rfl
   exact Zex nd (by lia) (by lia) (by lia)
  rw[Zgz hg _ good2]
  exact cong _ 2 _ hg (s2 _)
 rw[e]
 have hg:∀i j,i < 3→j < 3→i≠j→lt ks i j=f3 (lt ks 0 1) (lt ks 0 2) (lt ks 1 2) i j:=λi j hi hj hij=>by
  rcases(by lia:(i=0∧j=1)∨(i=1∧j=0)∨(i=0∧j=2)∨(i=2∧j=0)∨(i=1∧j=2)∨(i=2∧j=1))with⟨rfl,rfl⟩ | ⟨rfl,rfl⟩ | ⟨rfl,rfl⟩ | ⟨rfl,rfl⟩ | ⟨rfl,rfl⟩ | ⟨rfl,rfl⟩
  ·rfl
  ·exact Zex nd (by lia) (by lia) (by lia)
  ·rfl
  ·exact Zex nd (by lia) (by lia) (by lia)
  ·rfl
  exact Zex nd (by lia) (by lia) (by lia)
 rw[Zgz hg _ good3]
 refine cong _ 3 _ hg (s3 _ _ _ ?_)
 have f10:=Zex (i:=0) (j:=1) nd (by lia) (by lia) (by lia)
 have f20:=Zex (i:=0) (j:=2) nd (by lia) (by lia) (by lia)
 have f21:=Zex (i:=1) (j:=2) nd (by lia) (by lia) (by lia)
 have t1:=@Zjk ks 0 1 2
 have t2:=@Zjk ks 2 1 0
 rw[f10,f20,f21]at t2
 revert t1 t2
 cases lt ks 0 1 <;> cases lt ks 0 2 <;> cases lt ks 1 2 <;> simp
section
variable {prog:Program}{w:World}{A:Around}{E:Value→Shared→Prop}{s:Shared}
theorem items_sorted {κ:Type} [DecidableEq κ] {knd:PySem.KeyKind prog w κ}{kvs:List (κ×Value)}{ep:Nat}{r d:Addr}{ks:List Str}{Q:Value→Shared→Prop}(hh:A.handled=none) (hv:s.heap.IsItemsView r d) (hm:s.heap.DictAt knd d kvs ep) (hn:kvs.length≤3) (hks:ks.length=kvs.length)
  (hkey:∀(j:Nat) k x key,kvs[j]? = some (k,x)→knd.is k key=true→∃y t,ks[j]? = some y∧key=.str y t) (nd:ks.Nodup)
  (h:∀(h1 h':Heap) (tk:Nat) (as:List Addr) (p:List Nat) (c:Nat),(∀b o,s.heap.get? b=some o→h1.get? b=some o)→as.length=kvs.length→KdxG knd kvs s.heap.objs.size h1 as→p.Perm (List.range kvs.length)→((p.zip p.tail).all λq=>lt ks q.1 q.2)=true→(∀b o,h1.get? b=some o→h'.get? b=some o) →
   h'.get? h1.objs.size=some (seqObj "list" (p.map λi=>(as.map Value.ref).getD i Value.none).toArray c)→Q (.ref h1.objs.size) { s with heap:=h',toks:=tk }):wpAny (model prog w) A (call (.builtin "sorted") [.ref r]) Q E s:=by
 have e0:=args_sorted1 (.ref r)
 refine Calls.call_function_entry kind_sorted plain_sorted entry_sorted e0 ?_
 unfold Builtin.«sorted»
 (refine wpAny_bind (m:=checkCount "sorted" 1 1 _) (wpAny_pure ?_))
 have hsl:sizeLine=16777216:=sizeLine_eq
 refine wpAny_bind (kdx_collect (A:=A.in1) (knd:=knd) (kvs:=kvs) (ep:=ep) hh hv hm (by lia) λh1 tk as hk hl hG=>?_)
 refine wpAny_bind (wpAny_newList ?_ (by rw[length_map]; lia))
 have hoB:(h1.push (seqObj "list" (as.map Value.ref).toArray 0)).get? h1.objs.size=some (seqObj "list" (as.map Value.ref).toArray 0):=Heap.get?_push_size _ rfl
 have pa:Ziy h1 as ks:=⟨by rw[hl,hks],λi a k ha hk'=>by
  obtain⟨key,k2,x,e1,e2,e3⟩:=hG.pairs i a ha
  obtain⟨y,t,e4,rfl⟩:=hkey i k2 x key e1 e2
  rw[hk']at e4
  cases e4
  exact⟨t,x,e3⟩⟩
 have inA:∀a∈as,a≠h1.objs.size:=λa ha=>ne_of_lt (hG.there ha)
 refine wpAny_bind (wpAny_holding (wpAny_call_entry slot_list_sort ⟨_,hoB,rfl⟩ entry_list_sort ?_ (args_list_sort _)))
 refine sort_walk (f:=lt ks) (s:={ s with heap:=h1.push (seqObj "list" (as.map Value.ref).toArray 0),toks:=tk }) hoB (by rw[length_map]; lia) (λh2 h' kk=>?_) (λh' c p hp p2 p1 kk hB=>?_)
 ·rw[length_map]at h2
  have pa':Ziy h' as ks:=⟨pa.1,λi a k ha hk'=>by
   obtain⟨t,x,e⟩:=pa.2 i a k ha hk'
   exact⟨t,x,kk a _ (inA a (mem_of_getElem? ha)) (Heap.get?_push_of_some _ e)⟩⟩
  exact tup_ask (s:={ s with heap:=h',toks:=tk }) pa' nd h2
 rw[length_map]at hp p2 p1
 have ext:∀b o,h1.get? b=some o→h'.get? b=some o:=λb o e=>kk b o (ne_of_lt (Heap.lt_size e)) (Heap.get?_push_of_some _ e)
 have key:p.Perm (List.range kvs.length)∧((p.zip p.tail).all λq=>lt ks q.1 q.2)=true:=by
  by_cases h2:2≤kvs.length
  ·have e:=p2 (by lia)
   have hs:=sorted_run nd (by lia) (by lia)
   rw[hks,← hl,← e]at hs
   unfold Zer at hs
   rw[and_eq_true]at hs
   rw[← hl]
   exact⟨of_decide_eq_true hs.1,hs.2⟩
  have e:=p1 (by lia)
  rw[e,hl]
  refine⟨.refl _,?_⟩
  rcases(by lia:kvs.length=0∨kvs.length=1)with z | z <;> (rw[z]; rfl)
 exact⟨_,rfl,wpAny_pure ⟨_,rfl,h h1 h' tk as p c hk hl hG key.1 key.2 ext hB⟩⟩
end
end SI
namespace L2
open PySem PySem.W PyProof.Rows
section
variable {X:Cx}{pins:List (Addr×Obj)}{σ:St}
noncomputable def PrAt (H:Hp) (as:List Addr) (ps:List (Str×V)):Prop:=as.length=ps.length∧∀(i:Nat) a p,as[i]? = some a→ps[i]? = some p→H a=some (.tup [.str p.1,p.2])
theorem FpOk.off {H:Hp}{a b:Addr}{o:HO}(h:FpOk X pins H a) (n:a≠b):FpOk X pins (upd H b o) a:=⟨by rw[Zaj n]; exact h.1,h.2⟩
theorem Zgw {s:Shared}:∀(as:List Addr) (ps:List (Str×V)) (H:Hp),Inv X pins σ H s→as.Nodup→as.length=ps.length→(∀a∈as,FpOk X pins H a) →
  (∀(i:Nat) a p,as[i]? = some a→ps[i]? = some p→∃u t,RelV p.2 u∧s.heap.get? a=some { cls:=.type "tuple",data:=.seq #[.str p.1 t,u] })→∃H',Inv X pins σ H' s∧Same H H'∧PrAt H' as ps
 | [],[],H,I,_,_,_,_=>⟨H,I,Same.refl _,rfl,λi a p h=>by simp at h⟩
 | [],_ :: _,_,_,_,h,_,_=>by simp at h
 | _ :: _,[],_,_,_,h,_,_=>by simp at h
 | a :: as,p :: ps,H,I,nd,hl,hf,hp=>by
  obtain⟨u,t,ru,e⟩:=hp 0 a p rfl rfl
  have fa:=hf a mem_cons_self
  have nd':=nodup_cons.mp nd
  have I1:Inv X pins σ (upd H a (.tup [.str p.1,p.2])) s:=I.trackF fa ⟨by show 2≤sizeLine; decide,[.str p.1 t,u],.cons ⟨t,rfl⟩ (.cons ru .nil),_,e,rfl,0,rfl⟩
  obtain⟨H',I',s',pr⟩:=Zgw as ps _ I1 nd'.2 (by simpa using hl) (λb hb=>(hf b (mem_cons_of_mem _ hb)).off λz=>nd'.1 (z ▸ hb)) (λi b q hb hq=>hp (i + 1) b q (by simpa using hb) (by simpa using hq))
  refine⟨H',I',(Zhz fa.1).trans s',hl,λi b q hb hq=>?_⟩
  cases i with
  | zero=>
   cases hb
   cases hq
   exact s' _ _ Zac
  | succ i=>exact pr.2 i b q (by simpa using hb) (by simpa using hq)
noncomputable def ltP (zs:List (Str×V)):Bool:=(zs.zip zs.tail).all λq=>decide (q.1.1.cps.toList < q.2.1.cps.toList)
theorem call_sortedI (hc:X.calm=true):Zcy X (.builtin "sorted") (λxs H Q=>∃(v d:Addr) (ps:List (Str×V)),xs=[.ref v]∧H v=some (Zda v d)∧H d=some (.dK (ps.map λp=>(Sum.inr p.1,p.2)))∧ps.length≤3 ∧
  ∀(l:Addr) (as:List Addr) (zs:List (Str×V)) (H':Hp),Same H H'→H l=none→zs.Perm ps→ltP zs=true→H' l=some (.lst (as.map V.ref))→PrAt H' as zs→Q (.ref l) H'):=by
 intro pins s σ H xs us Q I r h
 obtain⟨v,d,ps,rfl,hv,hd,h3,q⟩:=h
 obtain⟨u,rfl,ru⟩:=Zdd r
 cases ru
 obtain⟨hz,hm,vs,hkv,o,es,ep,ho,ex,hdd,hK,hP,hnd⟩:=Zls I.hok hd
 have hat:s.heap.DictAt (Zat X.prog X.w) d vs ep:=⟨o,es,ho,ex,hdd,hK,hP,hnd⟩
 obtain⟨view,_,_⟩:=I.hok v _ hv
 have hl':=hkv.length
 rw[length_map]at hl'
 have hsl:sizeLine=16777216:=sizeLine_eq
 have at':∀(j:Nat) k x,vs[j]? = some (k,x)→∃p,ps[j]? = some p∧k=Sum.inr p.1∧RelV p.2 x:=λj k x hj=>by
  have hjl:=(List.getElem?_eq_some_iff.mp hj).1
  have hjp:j < ps.length:=by lia
  obtain⟨u,hu,ru⟩:=KV.get2 (i:=j) hkv (show(ps.map λp=>((Sum.inr p.1:Key),p.2))[j]? = some (Sum.inr (ps[j]).1,(ps[j]).2) by rw[getElem?_map,getElem?_eq_getElem hjp]; rfl)
  rw[hj]at hu
  cases hu
  exact⟨ps[j],getElem?_eq_getElem hjp,rfl,ru⟩
 refine SI.items_sorted (knd:=Zat X.prog X.w) (ks:=ps.map (·.1)) (I.ok.hd hc) view hat (by lia) (by rw[length_map]; lia) (λj k x key hj hk=>?_) ?_ λh1 h' tk as p c ext1 hl hG hp hs ext hB=>?_
 ·obtain⟨pp,e1,e2,_⟩:=at' j k x hj
  subst e2
  rcases Zax (show Ze8 (Sum.inr pp.1) key=true from hk)with⟨i,t,e1',e2⟩ | ⟨y,t,e1',e2⟩
  ·cases e1'
  cases e1'
  exact⟨_,t,by rw[getElem?_map,e1]; rfl,e2⟩
 ·have ek:=hkv.keys
  rw[← ek,map_map]at hnd
  have e:ps.map ((λx:Key×V=>x.1) ∘ λp=>((Sum.inr p.1:Key),p.2))=(ps.map (·.1)).map Sum.inr:=by rw[map_map]; rfl
  rw[e]at hnd
  exact List.Pairwise.of_map Sum.inr (λa b h z=>h (by rw[z])) hnd
 have I1:Inv X pins σ H { s with heap:=h1,toks:=tk }:=I.kept (t':=tk) ext1
 have hf:∀a∈as,FpOk X pins H a:=λa ha=>I.fpOk (le_of_lt (hG.above a ha)) (I.hok.fresh (le_of_lt (hG.above a ha)))
 obtain⟨H2,I2,s2,pr⟩:=Zgw as ps H I1 (hG.rise.imp λz=>ne_of_lt z) (by lia) hf (λi a pp ha hpp=>by
  obtain⟨key,k,x,e1,e2,e3⟩:=hG.pairs i a ha
  obtain⟨p2,f1,f2,f3⟩:=at' i k x e1
  rw[hpp]at f1
  cases f1
  subst f2
  rcases Zax (show Ze8 (Sum.inr pp.1) key=true from e2)with⟨i',t,g1,g2⟩ | ⟨y,t,g1,g2⟩
  ·cases g1
  cases g1
  rw[g2]at e3
  exact⟨x,t,f3,e3⟩)
 have hpr:∀i∈p,i < as.length:=λi hi=>by
  have:=mem_range.mp (hp.mem_iff.mp hi)
  lia
 have hplen:p.length=as.length:=by rw[hp.length_eq,length_range,hl]
 have vals:∀q:List Nat,(∀i∈q,i < as.length)→Vals ((q.map λi=>as.getD i 0).map V.ref) (q.map λi=>(as.map Value.ref).getD i Value.none):=λq=>by
  induction q with
  | nil=>exact λ_=>.nil
  | cons i q ih=>
   intro hq
   have hi:=hq i mem_cons_self
   refine .cons ?_ (ih λj hj=>hq j (mem_cons_of_mem _ hj))
   have e1:as.getD i 0=as[i]:=by simp[getD_eq_getElem?_getD,hi]
   have e2:(as.map Value.ref).getD i Value.none=.ref as[i]:=by simp[getD_eq_getElem?_getD,hi]
   show RelV (.ref (as.getD i 0)) ((as.map Value.ref).getD i Value.none)
   rw[e1,e2]
   rfl
 have fr2:H2 h1.objs.size=none:=I2.hok.fresh (Nat.le_refl _)
 have I3:Inv X pins σ (upd H2 h1.objs.size (.lst ((p.map λi=>as.getD i 0).map V.ref))) { s with heap:=h',toks:=tk }:=
  I2.laid (t':=tk) (a:=h1.objs.size) (o:=.lst ((p.map λi=>as.getD i 0).map V.ref)) ext (Nat.le_refl _) ⟨by rw[length_map,length_map]; lia,_,c,vals p hpr,hB⟩
 refine⟨.ref h1.objs.size,_,I3,rfl,q _ (p.map λi=>as.getD i 0) (p.map λi=>ps.getD i (Str.empty,.non)) _ (s2.trans (Zhz fr2)) (I1.hok.fresh (Nat.le_refl _)) ?_ ?_ Zac ⟨by rw[length_map,length_map],λi a z ha hz=>?_⟩⟩
 ·refine(hp.map _).trans ?_
  have e:(List.range vs.length).map (λi=>ps.getD i (Str.empty,.non))=ps:=by
   refine ext_getElem (by simp[hl']) λk h1 h2=>?_
   simp[getD_eq_getElem?_getD,h2]
  rw[e]
 ·unfold ltP
  rw[← List.map_tail,List.zip_map,List.all_map]
  rw[all_eq_true]at hs ⊢
  intro x hx
  have:=hs x hx
  unfold SI.lt at this
  have eg:∀i,(ps.map (·.1)).getD i Str.empty=(ps.getD i (Str.empty,.non)).1:=λi=>by
   (rw[getD_eq_getElem?_getD,getD_eq_getElem?_getD,getElem?_map])
   cases ps[i]? <;> rfl
  rw[eg,eg]at this
  exact this
 rw[getElem?_map]at ha hz
 cases hk:p[i]? with
 | none=>rw[hk]at ha; cases ha
 | some k=>
  rw[hk]at ha hz
  have hka:=hpr k (mem_of_getElem? hk)
  have ea:as[k]? = some a:=by
   have e9:as.getD k 0=a:=Option.some.inj ha
   rw[← e9,getD_eq_getElem?_getD,getElem?_eq_getElem hka]
   rfl
  have ez:ps[k]? = some z:=by
   have e9:ps.getD k (Str.empty,.non)=z:=Option.some.inj hz
   rw[← e9,getD_eq_getElem?_getD,getElem?_eq_getElem (by lia)]
   rfl
  exact Zhz fr2 _ _ (pr.2 k a z ea ez)
end
end L2
namespace L2
open PySem PySem.Spec PyProof.Rows PySem.W
section
variable {X:Cx}
noncomputable abbrev TJ:=Str→St→Hp→VK→Prop
noncomputable def PJ (X:Cx) (es:List Expr) (t:TJ):Prop:=∀(pins:List (Addr×Obj)) (s:Shared) (σ:St) (H:Hp) (out:Str) (Q:VK),Inv X pins σ H s→out.length≤500000→t out σ H Q →
 wpAny (model X.prog X.w) X.A (joinParts out (evalEach es X.env)) (EP X pins σ Q) X.xe s
theorem Zlz (a b:Str):(a ++ b).length=a.length + b.length:=by
 (show(a.cps ++ b.cps).size=_)
 rw[Array.size_append]
 rfl
theorem pj_nil:PJ X [] (λout _ H Q=>Q (.str out) H):=by
 intro pins s σ H out Q I hl h
 have hs:sizeLine=16777216:=sizeLine_eq
 exact joinParts_nil ⟨.str out,H,I.tok _,⟨_,rfl⟩,h⟩ (by lia)
theorem pj_str {a:Str}{j:Nat}{p:Pos}{r:List Expr}{t:TJ}(hr:PJ X r t):PJ X (.Constant (.str a) j p :: r) (λout σ H Q=>(out ++ a).length≤500000∧t (out ++ a) σ H Q):=by
 intro pins s σ H out Q I hl h
 have hs:sizeLine=16777216:=sizeLine_eq
 obtain⟨h1,h2⟩:=h
 refine joinParts_cons (thn (Zf5 (X:=X) (x:=a) (j:=j) (pos:=p) pins s σ H (λv H1=>v=.str a∧H1=H) I ⟨rfl,rfl⟩) λu s1 hp0=>?_)
 obtain⟨v,H1,I1,r1,e1,e2⟩:=hp0
 subst e1 e2
 obtain⟨t,rfl⟩:=r1
 exact⟨by lia,hr pins s1 σ H1 _ Q I1 h1 h2⟩
theorem pj_rep {e:Expr}{p2:Pos}{te:TE}{r:List Expr}{t:TJ}(he:PE X e te) (hr:PJ X r t) :
  PJ X (.FormattedValue e 114 none p2 :: r) (λout σ H Q=>te σ H λv H1=>∃x,v=.str x∧(reprText x).length≤100000∧(out ++ reprText x).length≤500000∧t (out ++ reprText x) σ H1 Q):=by
 intro pins s σ H out Q I hl h
 have hs:sizeLine=16777216:=sizeLine_eq
 refine joinParts_cons (wpAny_FormattedValue_repr (thn (he pins s σ H _ I h) λu2 s2 hp0=>?_))
 obtain⟨v2,H2,I2,r2,x,e3,lx,l2,q⟩:=hp0
 subst e3
 obtain⟨t2,rfl⟩:=r2
 refine wpAny_pyReprObj_str ?_ (by lia)
 refine formatField_str (λt' tk=>?_) (by lia)
 exact⟨by lia,hr pins _ σ H2 _ Q (I2.tok _) l2 q⟩
theorem pe_joined {e1 e2:Expr}{r:List Expr}{pos:Pos}{t:TJ}(h:PJ X (e1 :: e2 :: r) t):PE X (.JoinedStr (e1 :: e2 :: r) pos) (λσ H Q=>t Str.empty σ H Q):=by
 intro pins s σ H Q I hw
 exact JoinedStr_many (h pins s σ H Str.empty Q I (zero_le _) hw)
end
end L2
namespace L2
open PySem PyProof.Rows
section
variable {X:Cx}
theorem mt_itemsR:MtR X "dict.items" (λx xs H Q=>∃a kvs,x=.ref a∧xs=[]∧Rd H a (.dK kvs)∧∀v,H v=none→Q (.ref v) (upd H v (Zda v a))):=by
 intro pins s σ H x xs v us Q I rx rv h
 obtain⟨a,kvs,rfl,rfl,ha,q⟩:=h
 cases rx
 cases rv
 obtain⟨hz,hm,vs,hkv,hd⟩:=Zhc I.hok ha
 refine call_meetsIn PySem.F.slot_dict_items hd.typeIs PySem.F.entry_dict_items (PySem.F.args_dict_items_1 _) (meets_dict_items (Zat X.prog X.w) a hm) ⟨⟨vs,hd⟩,?_⟩
 refine⟨.ref s.heap.objs.size,_,I.laid (t':=s.toks) (o:=Zda s.heap.objs.size a) (λb o e=>Heap.get?_push_of_some _ e) (Nat.le_refl _) ⟨⟨_,Heap.get?_push_size _ rfl,rfl,rfl⟩,⟨_,Heap.get?_push_size _ rfl⟩,λh1 h2 f e=>?_⟩,rfl,q _ (I.hok.fresh (Nat.le_refl _))⟩
 obtain⟨o,ho,r⟩:=f
 exact⟨o,e o ho,r⟩
noncomputable def tItems (to:TE):TE:=λσ H Q=>to σ H λx H1=>∃a kvs,x=.ref a∧Rd H1 a (.dK kvs)∧∀v,H1 v=none→Q (.ref v) (upd H1 v (Zda v a))
theorem Zh4 {o:Expr}{to:TE}{apos cpos:Pos}(ho:PE X o to) (hbase:attributeBase o "items" X.env (eval o X.env)=eval o X.env:=by rfl) (hline:(apos.endLine == cpos.line)=true:=by rfl):PE X (.Call (.Attribute o "items" apos) [] [] cpos) (tItems to):=by
 intro pins s σ H Q I h
 refine wpAny_Call_method0_late hbase hline (thn (ho pins s σ H _ I h) λv s1 hp0=>?_)
 obtain⟨x,H1,I1,r1,a,kvs,e,rd,q⟩:=hp0
 subst e
 cases r1
 obtain⟨h1,h2,_⟩:=Zmj I1 (.inl ⟨_,rd⟩)
 exact⟨"dict", "dict.items",PySem.F.plainAttrs_dict,PySem.F.slot_dict_items,PySem.F.type_dict_items,h1,h2,Calls.callWith_builtin rfl (PySem.evalArgs_none (mt_itemsR pins s1 σ H1 (.ref a) [] _ [] Q I1 rfl .nil ⟨a,kvs,rfl,rfl,rd,q⟩))⟩
noncomputable def iItemsR (tl:TE):TI:=λσ H R=>tl σ H λx H1=>∃v a kvs,x=.ref v∧H1 v=some (Zda v a)∧((H1 a=some (.dK kvs)∧∀o,R (Iti a o kvs) (upd H1 a (.frz o (.dK kvs))))∨∃o,H1 a=some (.frz o (.dK kvs))∧R (Iti a o kvs) H1)
theorem Zg2 {elts:List Expr}{x1}{tp:Pos}{l:Expr}{tl:TE}(hl:PE X l tl):PI X (.Tuple elts x1 tp) l (iItemsR tl):=by
 intro pins s σ H R I h
 refine thn (hl pins s σ H _ I h) λu s1 hp0=>?_
 obtain⟨x,H1,I1,r1,q1⟩:=hp0
 obtain⟨v,a,kvs,rfl,hv,q⟩:=q1
 cases r1
 obtain⟨view,_,_⟩:=I1.hok v _ hv
 rcases q with⟨ha,q⟩ | ⟨o0,ha,q⟩
 ·obtain⟨hz,hm,vs,hkv,o,es,ep,ho,ex,hd,r⟩:=Zls I1.hok ha
  have hat:s1.heap.DictAt (Zat X.prog X.w) a vs ep:=⟨o,es,ho,ex,hd,r⟩
  have hl':=hkv.length
  refine wpAny_pyIter_items (knd:=Zat X.prog X.w) view hat ⟨s1.heap.objs.size,[s1.heap.objs.size],_,_,upd H1 a (.frz o (.dK kvs)),rfl,(I1.freeze ha ho).kept (t':=s1.toks) (λb o e=>Heap.get?_push_of_some _ e),Zhh _ a o kvs es ep hd,⟨.none,.none,?_⟩,λb hb=>?_,q o⟩
  ·rw[hl']
   exact Heap.get?_push_size _ rfl
  have e:b=s1.heap.objs.size:=by simpa using hb
  subst e
  exact(I1.freeze ha ho).fpOk (Nat.le_refl _) ((I1.freeze ha ho).hok.fresh (Nat.le_refl _))
 obtain⟨ho,hz,hm,vs,hkv,o',es,ep,ho',ex,hd,r⟩:=I1.hok a _ ha
 rw[ho]at ho'
 cases ho'
 have hat:s1.heap.DictAt (Zat X.prog X.w) a vs ep:=⟨o0,es,ho,ex,hd,r⟩
 have hl':=hkv.length
 refine wpAny_pyIter_items (knd:=Zat X.prog X.w) view hat ⟨s1.heap.objs.size,[s1.heap.objs.size],_,_,H1,rfl,I1.kept (t':=s1.toks) (λb o e=>Heap.get?_push_of_some _ e),Zhh _ a o0 kvs es ep hd,⟨.none,.none,?_⟩,λb hb=>?_,q⟩
 ·rw[hl']
  exact Heap.get?_push_size _ rfl
 have e:b=s1.heap.objs.size:=by simpa using hb
 subst e
 exact I1.fpOk (Nat.le_refl _) (I1.hok.fresh (Nat.le_refl _))
end
end L2
namespace L2
open PySem PySem.Spec PyProof.Rows PySem.W
section
variable {X:Cx}
noncomputable def rSlS:V→Option Int→Option Int→Hp→VK→Prop:=λx lo hi H Q=>∃z,x=.str z∧z.length≤sizeLine∧Q (.str (Txt.slice z lo hi)) H
theorem IsPart.ex {v:Value}{o:Option Int}(p:IsPart v o):∃q:Option (Int×Tok),v=partValue q∧q.map (·.1)=o:=by
 cases p with
 | none=>exact⟨none,rfl,rfl⟩
 | int i t=>exact⟨some (i,t),rfl,rfl⟩
theorem Znh:SlR X rSlS:=by
 intro pins s σ H x v vl vu lo hi sl Q I rx hs pl pu h
 obtain⟨z,rfl,hz,q⟩:=h
 obtain⟨t,rfl⟩:=rx
 obtain⟨ql,rfl,rfl⟩:=IsPart.ex pl
 obtain⟨qu,rfl,rfl⟩:=IsPart.ex pu
 refine⟨"str",_,F.slot_str_getitem.lookup,typeIs_str _ _ _,wpAny_getItem_str_slice (l:=ql) (u:=qu) (st:=none) hs rfl ?_⟩
 exact post_val_or_str ⟨le_trans (Txt.slice_le z _ _) hz,λt' k=>⟨.str _,H,I.tok _,⟨_,rfl⟩,q⟩⟩
noncomputable def tTru (t:TE):TT:=λσ H Q=>t σ H λx H'=>∃i,x=.int i∧Q (i != 0) H'
theorem pt_tru {a:Expr}{ta:TE}(ha:PE X a ta) (he:∀whole,isTrue a X.env whole=(do let v ← whole; standAt a.pos; holding [v] (truthy v)):=by intro _; rfl):PT X a (tTru ta):=by
 intro pins s σ H Q I h
 refine isTrue_plain (thn (ha pins s σ H _ I h) λv s1 hp0=>?_) (he _)
 obtain⟨x,H1,I1,r1,q1⟩:=hp0
 obtain⟨i,rfl,q⟩:=q1
 exact tru_ok pins s1 σ H1 _ v Q I1 r1 ⟨_,rfl,q⟩
theorem Zhv:Zcy X (.builtin "isinstance") (λxs H Q=>(∃a ys,xs=[.ref a,.ty "list"]∧H a=some (.lst ys)∧Q (.bl true) H)∨(∃z,xs=[.str z,.ty "list"]∧Q (.bl false) H)∨(xs=[.non,.ty "list"]∧Q (.bl false) H)):=by
 intro pins s σ H xs us Q I r h
 rcases h with⟨a,ys,rfl,ha,q⟩ | ⟨z,rfl,q⟩ | ⟨rfl,q⟩
 ·exact call_isiL pins s σ H _ us Q I r ⟨a,ys,rfl,ha,q⟩
 ·obtain⟨u1,u2,rfl,r1,r2⟩:=Zlo r
  obtain⟨t,rfl⟩:=r1
  cases r2
  exact PySem.IsiPair.str_list ⟨.bl false,H,I.tok _,rfl,q⟩
 obtain⟨u1,u2,rfl,r1,r2⟩:=Zlo r
 cases r1
 cases r2
 exact PySem.IsiPair.NoneType_list ⟨.bl false,H,I.tok _,rfl,q⟩
end
end L2
namespace DPT
open PySem PyProof.Rows
end DPT
namespace L2
open PySem PySem.Spec PyProof.Rows PySem.W
section
variable {X:Cx}
theorem call_tupF:Zcy X (.type "tuple") (λxs H Q=>∃p ys,xs=[.ref p]∧SqL X.K H p ys∧∀l o,H l=none→o.dict=none→Q (.ref l) (upd H l (.frz o (.tup ys)))):=by
 intro pins s σ H xs us Q I r h
 obtain⟨p,ys,rfl,hq,q⟩:=h
 obtain⟨u,rfl,rx⟩:=Zdd r
 cases rx
 obtain⟨its,r',pl,hz⟩:=I.list hq
 have hlen:=r'.length
 refine call_tuple_list pl.isList (λh' kp=>?_) (by simp only[size_toArray] <;> lia)
 have I1:Inv X pins σ H { s with heap:=h' }:=I.kept (t':=s.toks) kp
 have I2:Inv X pins σ (upd H h'.objs.size (.frz { cls:=.type "tuple",data:=.seq its.toArray } (.tup ys))) { s with heap:=h'.push { cls:=.type "tuple",data:=.seq its.toArray } }:=
  I1.laid (t':=s.toks) (λb o e=>Heap.get?_push_of_some _ e) (Nat.le_refl _) (show ObjOk X.prog X.w _ _ _ (.frz _ (.tup ys)) from ⟨Heap.get?_push_size _ rfl,hz,its,r',IsTup.new _ _⟩)
 exact⟨.ref h'.objs.size,_,I2,rfl,q _ _ (I1.hok.fresh (Nat.le_refl _)) rfl⟩
end
end L2
namespace RV
open PySem PyProof.Rows
end RV
namespace L2
open PySem PySem.Spec PyProof.Rows PySem.W
section
variable {X:Cx}{tg:Expr}
theorem pj_int {e:Expr}{p2:Pos}{te:TE}{r:List Expr}{t:TJ}(he:PE X e te) (hr:PJ X r t) :
  PJ X (.FormattedValue e (-1) none p2 :: r) (λout σ H Q=>te σ H λv H1=>∃i:Int,v=.int i∧i.natAbs.log2 < 1920∧out.length≤400000∧t (out ++ Str.ofString (toString i)) σ H1 Q):=by
 intro pins s σ H out Q I hl h
 have hs:sizeLine=16777216:=sizeLine_eq
 refine joinParts_cons (FormattedValue_plain (thn (he pins s σ H _ I h) λu2 s2 hp0=>?_))
 obtain⟨v2,H2,I2,r2,i,e3,li,lo,q⟩:=hp0
 subst e3
 obtain⟨t2,rfl⟩:=r2
 have l1:(Str.ofString (toString i)).length≤1921:=int_text_len_1921 li
 have l2:=Zlz out (Str.ofString (toString i))
 refine wpAny_formatField_int li ?_
 exact⟨by show(out ++ Str.ofString (toString i)).length≤sizeLine; lia,hr pins _ σ H2 _ Q (I2.tok _) (by lia) q⟩
end
end L2
namespace L2
open PySem PySem.Spec PyProof.Rows PySem.W
noncomputable def Kd {α:Type}:Sem α→Prop
 | .pure _=>True
 | .raise _=>True
 | .unsupported _=>True
 | .finish _=>True
 | .rule _ k=>Kd (k ())
 | .at _ k=>Kd (k ())
 | .load _ _ k=>∀o,Kd (k o)
 | .update _ _ f k=>(∀o,(f o).dict=o.dict)∧Kd (k ())
 | .alloc _ k=>∀a,Kd (k a)
 | .loadIfAlive _ k=>∀o,Kd (k o)
 | .point _ k=>Kd (k ())
 | .fresh k=>∀t,Kd (k t)
 | .ask k=>∀t,Kd (k t)
 | .handled _ k=>∀t,Kd (k t)
 | .stack k=>∀t,Kd (k t)
 | .thread k=>∀t,Kd (k t)
 | _=>False
theorem Kd.bind {α β:Type}{f:α→Sem β}(hf:∀a,Kd (f a)):∀{m:Sem α},Kd m→Kd (m >>= f):=by
 intro m
 show Kd m→Kd (m.bind f)
 induction m with
 | pure a=>intro _; exact hf a
 | raise e=>intro _; trivial
 | unsupported e=>intro _; trivial
 | finish e=>intro _; trivial
 | rule t k ih=>exact λh=>ih () h
 | «at» t k ih=>exact λh=>ih () h
 | load a p k ih=>exact λh o=>ih o (h o)
 | update a p g k ih=>exact λh=>⟨h.1,ih () h.2⟩
 | alloc a k ih=>exact λh o=>ih o (h o)
 | loadIfAlive a k ih=>exact λh o=>ih o (h o)
 | point a k ih=>exact λh=>ih () h
 | fresh k ih=>exact λh o=>ih o (h o)
 | ask k ih=>exact λh o=>ih o (h o)
 | handled w k ih=>exact λh o=>ih o (h o)
 | stack k ih=>exact λh o=>ih o (h o)
 | thread k ih=>exact λh o=>ih o (h o)
 | _=>intro h; exact h.elim
noncomputable def Ks (s s':Shared):Prop:=∀(b:Addr) (o:Obj),s.heap.objs[b]? = some o→∃o',s'.heap.objs[b]? = some o'∧o'.dict=o.dict
theorem Ks.refl (s:Shared):Ks s s:=λ_ o h=>⟨o,h,rfl⟩
theorem Ks.trans {a b c:Shared}(x:Ks a b) (y:Ks b c):Ks a c:=λi o h=>by
 obtain⟨o1,h1,e1⟩:=x i o h
 obtain⟨o2,h2,e2⟩:=y i o1 h1
 exact⟨o2,h2,e2.trans e1⟩
theorem Ks.upd {s:Shared}{a:Addr}{f:Obj→Obj}(h:∀o,(f o).dict=o.dict):Ks s { s with heap:=s.heap.update a f }:=λb o e=>by
 have hsz:(s.heap.update a f).objs=s.heap.objs.modify a f:=rfl
 show ∃o',(s.heap.update a f).objs[b]? = some o'∧_
 rw[hsz,Array.getElem?_modify,e]
 split
 ·exact⟨f o,rfl,h o⟩
 exact⟨o,rfl,rfl⟩
theorem Ks.push {s:Shared}{o:Obj}:Ks s { s with heap:=s.heap.push o }:=λb u e=>by
 have hsz:(s.heap.push o).objs=s.heap.objs.push o:=rfl
 have hlt:b < s.heap.objs.size:=(Array.getElem?_eq_some_iff.mp e).1
 refine⟨u,?_,rfl⟩
 show(s.heap.push o).objs[b]? = some u
 rw[hsz,Array.getElem?_push,if_neg (ne_of_lt hlt)]
 exact e
theorem Kd.wp {α:Type}{M:Model}{Γ:PySem.Ctx}:∀{t:Sem α}{Q:α→Pos→Shared→Prop}{E:Value→Pos→Shared→Prop}{p:Pos}{s:Shared},Kd t→Sem.wp M Γ t Q E p s→Sem.wp M Γ t (λa p' s'=>Q a p' s'∧Ks s s') (λe p' s'=>E e p' s'∧Ks s s') p s:=by
 intro t
 have up:∀{u:Sem α}{Q:α→Pos→Shared→Prop}{E:Value→Pos→Shared→Prop}{p:Pos}{s s1:Shared},Ks s s1→Sem.wp M Γ u (λa p' s'=>Q a p' s'∧Ks s1 s') (λe p' s'=>E e p' s'∧Ks s1 s') p s1→Sem.wp M Γ u (λa p' s'=>Q a p' s'∧Ks s s') (λe p' s'=>E e p' s'∧Ks s s') p s1:=
  λk h=>Sem.wp_mono M Γ _ (λa p' s' z=>⟨z.1,k.trans z.2⟩) (λa p' s' z=>⟨z.1,k.trans z.2⟩) _ _ h
 induction t with
 | pure a=>intro Q E p s _ h; exact⟨h,Ks.refl s⟩
 | raise e=>intro Q E p s _ h; exact⟨h,Ks.refl s⟩
 | unsupported e=>intro Q E p s _ h; exact h
 | finish e=>intro Q E p s _ h; exact h
 | rule t k ih=>intro Q E p s hk h; exact ih () hk h
 | «at» t k ih=>intro Q E p s hk h; exact ih () hk h
 | load a p k ih=>intro Q E p s hk h; obtain⟨o,ho,h⟩:=h; exact⟨o,ho,ih o (hk o) h⟩
 | update a p g k ih=>intro Q E p s hk h; exact⟨h.1,up (Ks.upd hk.1) (ih () hk.2 h.2)⟩
 | alloc a k ih=>intro Q E p s hk h; exact up (s1:={ s with heap:=s.heap.push a }) Ks.push (ih _ (hk _) h)
 | loadIfAlive a k ih=>intro Q E p s hk h; exact ih _ (hk _) h
 | point a k ih=>intro Q E p s hk h; exact ih () hk h
 | fresh k ih=>intro Q E p s hk h; exact up (s1:={ s with toks:=s.toks + 1 }) (λ_ o e=>⟨o,e,rfl⟩) (ih _ (hk _) h)
 | ask k ih=>intro Q E p s hk h; exact ih _ (hk _) h
 | handled w k ih=>intro Q E p s hk h; exact ih _ (hk _) h
 | stack k ih=>intro Q E p s hk h; exact ih _ (hk _) h
 | thread k ih=>intro Q E p s hk h; exact ih _ (hk _) h
 | _=>intro Q E p s hk h; exact hk.elim
theorem Kd.any {α:Type}{M:Model}{A:Around}{t:Sem α}{Q:α→Shared→Prop}{E:Value→Shared→Prop}{s:Shared}(k:Kd t) (h:wpAny M A t Q E s):wpAny M A t (λa s'=>Q a s'∧Ks s s') (λe s'=>E e s'∧Ks s s') s:=
 λΓ p hΓ=>Kd.wp k (h Γ p hΓ)
theorem Zgb {α:Type}{c:Prop} [Decidable c] {a b:Sem α}(x:Kd a) (y:Kd b):Kd (if c then a else b):=by split <;> assumption
theorem kd_fieldsOf (v:Value):Kd (fieldsOf v):=by
 unfold fieldsOf
 cases v with
 | ref a=>
  refine Kd.bind (m:=load a) (λo=>?_) (λ_=>trivial)
  cases o.data <;> trivial
 | _=>trivial
theorem Zgs (v:Value) (i:Nat):Kd (field v i):=by
 unfold field
 refine Kd.bind (λvs=>?_) (kd_fieldsOf v)
 cases vs[i]? <;> trivial
theorem Zey (v:Value) (i:Nat) (x:Value):Kd (setField v i x):=by
 unfold setField
 cases v with
 | ref a=>
  show Kd (updateField a i x)
  unfold updateField
  refine Kd.bind (m:=load a) (λo=>?_) (λ_=>trivial)
  cases o.data with
  | fields vs=>
   refine Zgb ⟨λo=>?_,trivial⟩ trivial
   unfold Obj.mapFields
   split <;> rfl
  | _=>trivial
 | _=>trivial
theorem kd_setFlight (e:Value) (f:Option Addr):Kd (setFlight e f):=by
 unfold setFlight
 refine Kd.bind (λtb=>?_) (Zgs _ _)
 split
 ·exact Zey _ _ _
 trivial
theorem Zip:Kd stack:=λ_=>trivial
theorem kd_b {α β:Type}{m:Sem α}{f:α→Sem β}(h:Kd m) (hf:∀a,Kd (f a)):Kd (m >>= f):=Kd.bind hf h
theorem kd_p {α:Type}(a:α):Kd (pure a:Sem α):=trivial
theorem kd_frameEnvs:Kd frameEnvs:=by
 unfold frameEnvs
 refine kd_b Zip λ_=>?_
 exact kd_p _
theorem kd_entryPlaceOf (f:Addr) (b:Bool):Kd (entryPlaceOf f b):=by
 unfold entryPlaceOf
 refine kd_b Zip λ_=>?_
 split <;> exact kd_p _
theorem kd_newFields (ty:String) (vs:List Value):Kd (newFields ty vs):=by
 unfold newFields newObj newObjAsIs
 dsimp only
 have al:∀(o:Obj),Kd (do let a ← alloc o; pure (Value.ref a)):=λo=>kd_b (m:=alloc o) (λ_=>trivial) λa=>kd_p _
 refine Zgb ?_ (al _)
 refine kd_b (m:=unsupported _) trivial λ_=>al _
theorem kd_behind (env:Env) (outer:List Env):Kd (behindIsImport env outer):=by
 unfold behindIsImport
 refine Zgb (kd_p _) (Zgb (kd_p _) ?_)
 refine kd_b (Zgs _ _) λ_=>kd_p _
theorem kd_keptBack (env:Env) (b:Bool):∀l,Kd (keptBack env b l)
 | []=>by
  show Kd (if (env.scope.isGenerator || env.scope.isCoroutine)=true then pure Value.none else _)
  refine Zgb (kd_p _) ?_
  refine kd_b ?_ λ_=>kd_p _
  unfold underTheClaimsCaller
  refine kd_b Zip λ_=>?_
  exact kd_p _
 | _ :: _=>trivial
theorem Zk8:∀l,Kd (readyFrames l)
 | []=>trivial
 | env :: outer=>by
  unfold readyFrames
  split
  ·refine kd_b (m:=load _) (λ_=>trivial) λo=>?_
   refine Zgb (kd_p _) ?_
   refine kd_b (kd_behind _ _) λim=>?_
   refine kd_b (kd_keptBack _ _ _) λbk=>?_
   refine kd_b ?_ λ_=>Zk8 outer
   exact⟨λ_=>rfl,trivial⟩
  trivial
theorem kd_frameOf (env:Env):Kd (PySem.frameOf env):=by
 unfold PySem.frameOf
 refine kd_b kd_frameEnvs λes=>?_
 refine kd_b ?_ λr=>?_
 ·cases es.dropWhile (·.frame != env.frame)with
  | nil=>exact kd_p _
  | cons x r=>
   unfold frameObject
   refine kd_b (Zk8 _) λ_=>kd_p _
 split
 ·exact kd_p _
 trivial
theorem kd_noteFrame (e:Value) (env:Env):Kd (noteFrame e env):=by
 unfold noteFrame
 split
 ·rename_i f _
  refine kd_b (Zgs _ _) λhead=>?_
  have rest:∀u:Unit,Kd (do setField e 1 (← EntryCells.newEntry head (← PySem.frameOf env) .none (rawInt f) .none (← entryPlaceOf f (head != .none)))):=λ_=>by
   refine kd_b (kd_frameOf env) λfr=>?_
   refine kd_b (kd_entryPlaceOf _ _) λpl=>?_
   refine kd_b ?_ λen=>Zey _ _ _
   unfold EntryCells.newEntry
   exact kd_newFields _ _
  refine Zgb ?_ (rest ())
  refine kd_b (Zgs _ _) λx=>?_
  refine Zgb (kd_p _) ?_
  refine kd_b (Zey _ _ _) λ_=>rest ()
 trivial
theorem Zhp (env:Env) (e:Value):Kd (leaving env e):=by
 unfold leaving
 refine kd_b (kd_noteFrame _ _) λ_=>kd_setFlight _ _
end L2
namespace L2
open PySem PySem.Spec PyProof.Rows PySem.W Builtin Builtin.ObjectAttr
noncomputable def Zkd:List Value→Bool
 | .ref _ :: r=>Zkd r
 | l=>l == bmV
theorem veTail_pass (self:Value):∀l:List Value,Zkd l=true→refuseLoop self "__setattr__" l=pure ():=by
 intro l
 induction l with
 | nil=>intro z; cases z
 | cons v r ih=>
  intro z
  by_cases hv:∃c,v=.ref c
  ·obtain⟨c,rfl⟩:=hv
   rw[refuseLoop_ref]
   exact ih z
  have z2:((v :: r) == bmV)=true:=by
   cases v <;> first | exact z | exact absurd ⟨_,rfl⟩ hv
  rw[beq_iff_eq.mp z2]
  exact PySem.F.store_ValueError.passes self
noncomputable def Zlc (K:Frag) (C:Addr):Bool:=match K.lookup C with
 | some ⟨.type "type",_,.cls cd,places⟩=>(match cd.mro,places.toList with
  | .ref C' :: bm,[_,_,_,_,some (.builtin n),_]=>C' == C && n == "ValueError.__new__" && !cd.hasDel && tailIn K bmV bm
  | _,_=>false)
 | _=>false
structure XAt (h:Heap) (C:Addr):Prop where
 ex:∃(N:Addr) (nm qn:Str) (bs bm:List Value) (hdct:Bool) (sn:List Str) (sub:List Value) (ab:Bool) (col:Option Bool) (dd:Option Addr) (k0 k1 k2 k3 k5:Option Value),
  h.get? C=some (excClassObj nm qn C N bs bm hdct sn sub ab col dd k0 k1 k2 k3 k5 "ValueError.__new__")∧OwnTail h bmV bm
theorem XAt.of {K:Frag}{h:Heap}{C:Addr}(X:K.In h) (g:Zlc K C=true):XAt h C:=by
 unfold Zlc at g
 split at g
 ·rename_i dict0 cls0 slots0 at0
  split at g
  ·rename_i first0 tail0 a0 a1 a2 a3 new0 a5 mro0 list0
   have g':=g
   simp only[and_eq_true,beq_iff_eq,not_eq_true']at g'
   obtain⟨⟨⟨r1,r2⟩,r3⟩,r4⟩:=g'
   subst r1 r2
   obtain⟨c1,c2,c3,c4,c5,c6,c7,c8,c9,c10,c11⟩:=cls0
   dsimp only at mro0 r3
   subst mro0 r3
   have slots1:slots0=#[a0,a1,a2,a3,some (.builtin "ValueError.__new__"),a5]:=Array.toList_inj.mp list0
   subst slots1
   exact⟨c4,c1,c5,c2,tail0,c6,c7,c8,c9,c10,dict0,a0,a1,a2,a3,a5,X _ _ at0,tail_of_in X r4⟩
  cases g
 cases g
structure XC (K:Frag) (C f G:Addr):Prop where
 ex:Zlc K C=true
 fn:typeIn K (.ref f)=some (.type "function")
 kp:keepIn K (.ref C)=true
 ga:findIn K (.ref C) "__getattribute__" = some (some (.builtin "BaseException.__getattribute__"))
 gh:findIn K (.ref C) "__getattr__" = some none
 sb:subIn K (.ref C) (.type "BaseException")=some true
 hd:hasDictIn K C=true
 n1:findIn K (.ref C) "name" = some none
 n2:findIn K (.ref C) "world" = some none
 rG:readsIn K G (.type "type")=true
 iG:findCls K (.ref G) (.type "type") "__init__" = some (.val (.builtin "ValueError.__init__"))
 gG:specialIn K (.ref G) "__getattribute__" = some (some (.builtin "type.__getattribute__"))
 sa:findIn K (.ref C) "__setattr__" = some (some (.builtin "object.__setattr__"))
 vt:(clsIn K C).any (λcd=>Zkd cd.mro)=true
 so:subIn K (.ref C) (.type "object")=some true
 ss:subIn K (.ref C) (.ref C)=some true
 it:findIn K (.ref C) "__init__" = some (some (.ref f))
noncomputable abbrev Zht (us:List Value):Obj:={ cls:=.type "tuple",data:=.seq us.toArray }
noncomputable abbrev Zgc (C t:Addr):Obj:={ cls:=.ref C,data:=.fields #[.ref t,.none,.none,.none,.bool false,.none] }
theorem Zjq (hp:Heap) (C:Addr) (us:List Value):((hp.push (Zht us)).push (Zgc C hp.objs.size)).get? (hp.objs.size + 1)=some (Zgc C hp.objs.size):=by
 have at1:=Heap.get?_push_size (hp.push (Zht us)) (o:=Zgc C hp.objs.size) rfl
 rwa [Heap.size_push]at at1
theorem Zha (hp:Heap) (C:Addr) (us:List Value):Heap.MadeExcOf hp ((hp.push (Zht us)).push (Zgc C hp.objs.size)) (hp.objs.size + 1) (.ref C) us:=by
 have at1:=Zjq hp C us
 exact⟨λb o z=>Heap.get?_push_of_some _ (Heap.get?_push_of_some _ z),Heap.get?_none_of_le (by lia),hp.objs.size,at1,Heap.get?_none_of_le (by lia),Heap.get?_push_of_some _ (Heap.get?_push_size hp rfl)⟩
section
variable {prog:Program}{w:World}{A:Around}{E:Value→Shared→Prop}{s:Shared}{K:Frag}{x C f G:Addr}{us:List Value}{Q:Value→Shared→Prop}
theorem make_exc (X:K.In s.heap) (c:XC K C f G) (hl:us.length≤sizeLine)
  (hq:∀(h':Heap) (e:Addr),Heap.MadeExcOf s.heap h' e (.ref C) us→s.heap.objs.size≤e →
   wpAny (model prog w) (A.under (.builtin "type.__call__" ⟨.ref C :: us,[]⟩)) (call (.ref f) (.ref e :: us)) (λr s'=>r=.none∧Q (.ref e) s') E { s with heap:=h' }):wpAny (model prog w) A (call (.ref C) us) Q E s:=by
 obtain⟨N,nm,qn,bs,bm,hdct,sn,sub,ab,col,dd,k0,k1,k2,k3,k5,hC,T⟩:=(XAt.of X c.ex).ex
 have made:=hq _ _ (Zha s.heap C us) (le_succ _)
 have X1:K.In ((s.heap.push (Zht us)).push (Zgc C s.heap.objs.size)):=X.keeps (Zha s.heap C us).keeps
 have B:=PySem.F.excBase_ValueError
 have c1:=tc_lookup
 have c2:=tc_bind (.ref C)
 (obtain⟨hp,g,d,tk,os⟩:=s)
 have ty:(⟨hp,g,d,tk,os⟩:Shared).TypeIs (.ref C) "type" := ⟨_,hC,rfl⟩
 refine wpAny_call (codeAny_of_tree (show wpAny _ _ (callAny (.ref C) _) _ _ _ from ?_))
 repeat (any_goals (first | assumption | wp_step | with_reducible refine wpAny_loadPart_at hC ?_))
 refine And.intro rfl (codeAny_call_builtin_at (Code.quiet_builtin _ (by decide +kernel)) entry_typeCall (wpAny_check_type_call_sub hC ?_))
 repeat (first | wp_step | with_reducible refine wpAny_madeBy_exc hC ?_ | with_reducible refine wpAny_loadPart_at hC ?_)
 refine codeAny_call_builtin_code (Code.quiet_builtin _ B.quiet) (wpAny_check_new_subT B T hC (codeAny_exc_new_subT B T hC ?_ hl))
 have J:InstAt ((hp.push (Zht us)).push (Zgc C hp.objs.size)) (hp.objs.size + 1) (Zgc C hp.objs.size) C none:=⟨Zjq hp C us,rfl,rfl,True.intro⟩
 have S:Looks (model prog w) ((hp.push (Zht us)).push (Zgc C hp.objs.size)) (isInstance (.ref (hp.objs.size + 1)) (.ref C)) true:=J.type.andThen (looks_subIn X1 c.ss)
 refine wpAny_bind (S.here ?_)
 rw[if_neg (by decide)]
 refine wpAny_bind (wpAny_holding (special_fn X1 J c.it c.fn (wpAny_mono made (λr s' hp0=>?_) λ_ _ z=>z)))
 obtain⟨er,z⟩:=hp0
 subst er
 exact wpAny_pure z
end
section
variable {prog:Program}{w:World}{A:Around}{E:Value→Shared→Prop}{s:Shared}{K:Frag}{x C f G:Addr}{ox:Obj}{name:Str}{v:Value}{Q:Unit→Shared→Prop}
theorem Zhs {od:Option Obj}(X:K.In s.heap) (c:XC K C f G) (hn:findIn K (.ref C) name=some none) (I:InstAt s.heap x ox C od)
  (h:∀tk,wpAny (model prog w) A.in1 (storeInOwnDict (.ref x) (.ref C) (.str name tk) name v false) (λfin s'=>fin=.done (.ret .none)∧Q () s') (λ_ _=>False) { s with toks:=s.toks + 1 }):wpAny (model prog w) A (setAttr (.ref x) name v) Q E s:=by
 obtain⟨hp,g,d,t,os⟩:=s
 refine set_plain X I c.sa ?_
 have SF:=PySem.F.store_ValueError
 obtain⟨cd,hc,hv⟩:=any_some c.vt
 (have L0:=I.type (M:=model prog w))
 have L1:Looks (model prog w) hp (mroOf (.ref C)) cd.mro:=(looks_clsIn X hc).andThen .now
 have L2':=looks_findIn (M:=model prog w) X hn
 have inst:Looks (model prog w) hp (isInstance (.ref x) (.type "object")) true:=L0.andThen (looks_subIn X c.so)
 refine codeAny_call_builtin SF.slot.plain SF.entry ?_
 refine @check_slot (model prog w) _ _ ⟨hp,g,d,t + 1,os⟩ "object.__setattr__" "object" "__setattr__" (.ref x) [.str name t,v] [] _ SF.kind SF.split inst (SF.args (.ref x) (.str name t) v) ?_
 rw[osa_eq,refuse_eq]
 refine wpAny_bind (wpAny_bind (L0.at (wpAny_bind (L1.at ?_))))
 rw[veTail_pass _ _ hv]
 refine wpAny_pure (wpAny_bind (L0.at (wpAny_bind (L2'.at (wpAny_bind (wpAny_pure (a:=none) ?_))))))
 refine wpAny_mono (h _) (λfin s' hp0=>?_) λ_ _ z=>z.elim
 obtain⟨ef,z⟩:=hp0
 subst ef
 exact z
theorem exc_first {vs:Array Value}(X:K.In s.heap) (c:XC K C f G) (hn:findIn K (.ref C) name=some none) (hx:s.heap.get? x=some { cls:=.ref C,data:=.fields vs })
  (h:∀h',h'.Ns1 s.heap.objs.size (λy=>if y=name then some v else none)→h'.get? x=some { cls:=.ref C,dict:=some s.heap.objs.size,data:=.fields vs }→(∀b o,b≠x→s.heap.get? b=some o→h'.get? b=some o)→Q () { s with heap:=h',toks:=s.toks + 2 }) :
  wpAny (model prog w) A (setAttr (.ref x) name v) Q E s:=by
 refine Zhs X c hn (ox:={ cls:=.ref C,data:=.fields vs }) (od:=none) ⟨hx,rfl,rfl,True.intro⟩ λtk=>?_
 obtain⟨cd,hc,hd'⟩:=any_some c.hd
 have L1:=looks_clsIn (M:=model prog w) X hc
 obtain⟨hp,g,d,t,os⟩:=s
 have nx:x≠hp.objs.size:=ne_of_lt (Heap.lt_size hx)
 have hx1:(hp.push emptyDict).get? x=some { cls:=.ref C,data:=.fields vs }:=Heap.get?_push_of_some _ hx
 have at2:((hp.push emptyDict).update x λo=>{ cls:=o.cls,dict:=some hp.objs.size,data:=o.data,slots:=o.slots }).get? hp.objs.size=some emptyDict:=(Heap.get?_update_ne _ _ _ _ nx.symm).trans (Heap.get?_push_size hp rfl)
 have at3:((hp.push emptyDict).update x λo=>{ cls:=o.cls,dict:=some hp.objs.size,data:=o.data,slots:=o.slots }).get? x=some { cls:=.ref C,dict:=some hp.objs.size,data:=.fields vs }:=Heap.get?_update_self _ hx1 rfl
 have oth:∀b o,b≠x→hp.get? b=some o→((hp.push emptyDict).update x λo=>{ cls:=o.cls,dict:=some hp.objs.size,data:=o.data,slots:=o.slots }).get? b=some o:=λb o nb z=>(Heap.get?_update_ne _ _ _ _ nb).trans (Heap.get?_push_of_some _ z)
 refine wpAny_bind (wpAny_pure (wpAny_bind (wpAny_bind (wpAny_loadPart hx (wpAny_bind (L1.at ?_))))))
 rw[hd',if_neg (by decide)]
 refine wpAny_bind (wpAny_alloc' (wpAny_bind (wpAny_update' hx1 ?_)))
 generalize ((hp.push emptyDict).update x λo=>{ cls:=o.cls,dict:=some hp.objs.size,data:=o.data,slots:=o.slots })=h1 at at2 at3 oth
 have none1:h1.Ns hp.objs.size (λ_=>none):=⟨_,#[],_,at2,rfl,λen hen=>absurd hen (by simp),λ_=>rfl⟩
 refine wpAny_pure (a:=some hp.objs.size) (wpAny_bind (wpAny_pure (wpAny_bind (wpAny_nsSet1 (Heap.Ns1.of_empty none1) λh2 ns2 sb=>?_))))
 obtain⟨oD,esD,epD,atD,dD,cD⟩:=ns2.count (Within.cons name v Within.nil)
 have few:esD.size≤sizeLine + 1:=le_trans cD (by rw[length_cons,length_nil,sizeLine_eq]; lia)
 refine wpAny_bind (wpAny_lookBehind atD (by rw[dD]; exact pastItsLine_dict few) (wpAny_pure ⟨rfl,h h2 ?_ ((sb.2 x nx).trans at3) λb o nb z=>?_⟩))
 ·exact ns2
 exact(sb.2 b (ne_of_lt (Heap.lt_size z))).trans (oth b o nb z)
theorem exc_more {vs:Array Value}{dx:Addr}{mA:Str→Option Value}{ns:List Str}(X:K.In s.heap) (c:XC K C f G) (hn:findIn K (.ref C) name=some none) (hx:s.heap.get? x=some { cls:=.ref C,dict:=some dx,data:=.fields vs }) (hns:s.heap.Ns1 dx mA) (hw:PySem.Within mA ns) (hsz:ns.length < sizeLine)
  (h:∀h',h'.Ns1 dx (λy=>if y=name then some v else mA y)→Heap.SameBut dx s.heap h'→Q () { s with heap:=h',toks:=s.toks + 2 }):wpAny (model prog w) A (setAttr (.ref x) name v) Q E s:=by
 obtain⟨od,hod,_⟩:=Zjl hns
 refine Zhs X c hn (ox:={ cls:=.ref C,dict:=some dx,data:=.fields vs }) (od:=some od) ⟨hx,rfl,rfl,hod⟩ λtk=>?_
 obtain⟨cd,hc,hd'⟩:=any_some c.hd
 have L1:=looks_clsIn (M:=model prog w) X hc
 obtain⟨hp,g,d,t,os⟩:=s
 refine wpAny_bind (wpAny_pure (wpAny_bind (wpAny_bind (wpAny_loadPart hx (wpAny_bind (L1.at ?_))))))
 rw[hd',if_neg (by decide)]
 refine wpAny_pure (a:=some dx) (wpAny_bind (wpAny_pure (wpAny_bind (wpAny_nsSet1 hns λh2 ns2 sb=>?_))))
 obtain⟨oD,esD,epD,atD,dD,cD⟩:=ns2.count (PySem.Within.cons name v hw)
 have few:esD.size≤sizeLine + 1:=le_trans cD (by rw[length_cons]; lia)
 exact wpAny_bind (wpAny_lookBehind atD (by rw[dD]; exact pastItsLine_dict few) (wpAny_pure ⟨rfl,h h2 ns2 sb⟩))
end
end L2
namespace L2
open PySem PySem.Spec PyProof.Rows PySem.W Builtin Builtin.ObjectAttr
noncomputable def excF (x C:Addr) (d:Option Addr):HO:=.ext λh=>∃t,h.get? x=some { cls:=.ref C,dict:=d,data:=.fields #[.ref t,.none,.none,.none,.bool false,.none] }
noncomputable def xdO (d:Addr) (fs:List (Str×V)):HO:=.ext λh=>∃mA,h.Ns1 d mA∧(∀f,RelO (fs.lookup f) (mA f))∧PySem.Within mA (fs.map (·.1))
section
variable {P:Program}{w:World}{H:Hp}{h:Heap}{x C d:Addr}
theorem Zka {dd:Option Addr}{t:Addr}(e:h.get? x=some { cls:=.ref C,dict:=dd,data:=.fields #[.ref t,.none,.none,.none,.bool false,.none] }):ObjOk P w H h x (excF x C dd):=
 ⟨⟨t,e⟩,⟨_,e⟩,λh1 h2 ⟨t',e1⟩ k=>⟨t',k _ e1⟩⟩
theorem Znd {fs:List (Str×V)}{mA:Str→Option Value}(n:h.Ns1 d mA) (r:∀f,RelO (fs.lookup f) (mA f)) (w':PySem.Within mA (fs.map (·.1))):ObjOk P w H h d (xdO d fs):=by
 refine⟨⟨mA,n,r,w'⟩,?_,λh1 h2 ⟨m,n1,r1,w1⟩ k=>⟨m,n1.at λo q=>k o q,r1,w1⟩⟩
 obtain⟨o,_,_,e,_⟩:=n
 exact⟨o,e⟩
end
section
variable {X:Cx}{pins:List (Addr×Obj)}{σ:St}{H:Hp}{s:Shared}{x C f G:Addr}
theorem Inv.xAt (I:Inv X pins σ H s) (c:XC X.K C f G):XAt s.heap C:=XAt.of I.kIn c.ex
theorem initX_ok {E:Value→Shared→Prop}{rest:List Value}{dd:Option Addr}{Q:Value→Shared→Prop}(I:Inv X pins σ H s) (c:XC X.K C f G) (ex:H x=some (excF x C dd)) (hl:rest.length≤1000)
  (h:∀s',Inv X pins σ H s'→Q .none s'):wpAny (model X.prog X.w) X.A (call (.builtin "ValueError.__init__") (.ref x :: rest)) Q E s:=by
 obtain⟨N,nm,qn,bs,bm,hdct,sn,sub,ab,col,dd',k0,k1,k2,k3,k5,hC,hTl⟩:=(I.xAt c).ex
 obtain⟨⟨t,hx⟩,_,_⟩:=I.hok _ _ ex
 have F:=PySem.F.excBase_ValueError
 have hsl:sizeLine=16777216:=sizeLine_eq
 have key:∀h',(∀b u,b≠x→s.heap.get? b=some u→h'.get? b=some u)→(∃t',h'.get? x=some { cls:=.ref C,dict:=dd,data:=.fields #[.ref t',.none,.none,.none,.bool false,.none] })→Q .none { s with heap:=h' }:=λh' k ⟨t',e'⟩=>by
  have I2:=I.write (x:=x) (e:=x) (o:=excF x C dd) (t':=s.toks) (h':=h') (by rw[ex]; exact True.intro) (.inl rfl) k ⟨_,e'⟩ (Zka e')
  have e2:upd H x (excF x C dd)=H:=by
   funext b
   unfold upd
   split
   ·rename_i z; rw[z,ex]
   rfl
  rw[e2]at I2
  exact h _ I2
 have hrest:rest.length≤sizeLine:=by lia
 (obtain⟨hp,g,d,tk,os⟩:=s)
 have hx':hp.get? x=some { cls:=.ref C,dict:=dd,data:=.fields #[.ref t,.none,.none,.none,.bool false,.none] }:=hx
 refine wpAny_call (codeAny_call_builtin F.init.plain F.initEntry (wpAny_check_init_subT F hTl hC hx rfl ?_))
 wp_walk
 rw[if_neg (by rw[size_toArray]; lia)]
 have hx2:=Heap.get?_push_of_some { cls:=.type "tuple",data:=.seq rest.toArray } hx'
 repeat (first | with_reducible refine wpAny_loadPart_at hx2 ?_ | wp_step)
 refine key _ (λb u hb q=>?_) ⟨hp.objs.size,?_⟩
 ·rw[Heap.get?_update_other _ _ (Ne.symm hb)]
  exact Heap.get?_push_of_some _ q
 rw[Heap.get?_update_self _ hx2 rfl]
 rfl
noncomputable abbrev Wn (K:Frag) (C:Addr) (n:Str):Prop:=findIn K (.ref C) n=some none
theorem setX0_ok {A:Around}{E:Value→Shared→Prop}{n:Str}{y:V}{u:Value}{Q:Unit→Shared→Prop}(I:Inv X pins σ H s) (c:XC X.K C f G) (wn:Wn X.K C n) (ex:H x=some (excF x C none)) (ry:RelV y u)
  (h:∀d s',H d=none→d≠x→Inv X pins σ (upd (upd H x (excF x C (some d))) d (xdO d [(n,y)])) s'→Q () s'):wpAny (model X.prog X.w) A (setAttr (.ref x) n u) Q E s:=by
 obtain⟨⟨t,hx⟩,_,_⟩:=I.hok _ _ ex
 have fr:=I.fresh
 have nx:s.heap.objs.size≠x:=ne_of_gt (Heap.lt_size hx)
 refine exc_first I.kIn c wn hx λh2 ns2 ob oth=>?_
 have I2:=I.write (x:=x) (e:=x) (o:=excF x C (some s.heap.objs.size)) (t':=s.toks + 2) (h':=h2) (by rw[ex]; exact True.intro) (.inl rfl) (λb o nb z=>oth b o nb z) ⟨_,ob⟩ (Zka ob)
 have hnew:upd H x (excF x C (some s.heap.objs.size)) s.heap.objs.size=none:=by rw[Zaj nx]; exact fr
 refine h s.heap.objs.size _ fr nx (I2.trackF (I.fpOk (Nat.le_refl _) hnew) (Znd ns2 (λf'=>?_) λy' hy=>?_))
 ·show RelO (List.lookup f' [(n,y)]) (if f'=n then some u else none)
  by_cases z:f'=n
  ·subst z
   rw[if_pos rfl]
   simp only[List.lookup,beq_self_eq_true]
   exact ry
  rw[if_neg z]
  simp only[List.lookup,show(f' == n)=false from beq_eq_false_iff_ne.mpr z]
  exact True.intro
 by_cases z:y'=n
 ·rw[z]; exact mem_cons_self
 exact absurd (show(if y'=n then some u else none)=none from if_neg z) hy
theorem setX1_ok {A:Around}{E:Value→Shared→Prop}{n:Str}{y:V}{u:Value}{Q:Unit→Shared→Prop}{dx:Addr}{fs:List (Str×V)}(I:Inv X pins σ H s) (c:XC X.K C f G) (wn:Wn X.K C n) (ex:H x=some (excF x C (some dx))) (ed:H dx=some (xdO dx fs)) (hl:fs.length < 1000) (ry:RelV y u)
  (h:∀s',Inv X pins σ (upd H dx (xdO dx (putF n y fs))) s'→Q () s'):wpAny (model X.prog X.w) A (setAttr (.ref x) n u) Q E s:=by
 obtain⟨⟨t,hx⟩,_,_⟩:=I.hok _ _ ex
 obtain⟨⟨mA,nsA,rA,wA⟩,_,_⟩:=I.hok _ _ ed
 refine exc_more I.kIn c wn hx nsA wA (by rw[length_map,sizeLine_eq]; lia) λh2 ns2 sb=>?_
 have there:∃o,h2.get? dx=some o:=by
  obtain⟨o,_,_,z,_⟩:=ns2
  exact⟨o,z⟩
 refine h _ (I.write (x:=dx) (e:=dx) (o:=xdO dx (putF n y fs)) (t':=s.toks + 2) (h':=h2) (by rw[ed]; exact True.intro) (.inl rfl) (λb o nb z=>(sb.2 b nb).trans z) there (Znd ns2 (λf'=>?_) λy' hy=>?_))
 ·show RelO ((putF n y fs).lookup f') (if f'=n then some u else mA f')
  rw[Zam]
  by_cases z:f'=n
  ·rw[if_pos z,if_pos z]; exact ry
  rw[if_neg z,if_neg z]; exact rA f'
 by_cases z:y'=n
 ·rw[z]; exact(Zd9 n y fs).1
 refine(Zd9 n y fs).2 y' (wA y' λz2=>hy ?_)
 show(if y'=n then some u else mA y')=none
 rw[if_neg z]; exact z2
end
end L2
namespace L2
open PySem PySem.Spec PyProof.Rows PySem.W Builtin Builtin.ObjectAttr
section
variable {X:Cx}{k:Nat}{f C G:Addr}{fd:FuncData}{ps:List Str}{sp:Sp}{x g n:Str}{p pos pos' apos:Pos}{e o value:Expr}{es:List Expr}{ta tv:TE}{t:TA}
noncomputable def tInitX (C:Addr) (t:TA):TE:=λσ H Q=>t σ H λvs H1=>∃x rest dd,vs=.ref x :: rest∧H1 x=some (excF x C dd)∧rest.length≤1000∧Q .non H1
theorem pe_initX {pl:Sem Bool}(c:XC X.K C f G) (hg:Gl X g) (hm:X.mg g=some (.ref G)) (ha:PA X (e :: es) t) (hdb:(g == ("__debug__" : Str))=false:=by decide)
  (hst:starEach (e :: es) X.env=(false,eval e X.env) :: starEach es X.env:=by rfl) (hpl:(backTo pos (starEach es X.env)).any (·.1)=false:=by rfl)
  (ht:eval (.Call (.Attribute (.Name g p) "__init__" apos) (e :: es) [] pos) X.env=(do
   let ov ← eval (.Name g p) X.env
   standAt apos.atName
   let (f,first) ← holding [ov] (getMethod ov "__init__" pl)
   callWith pos f first (backTo pos (starEach (e :: es) X.env)) (backToKw pos (keywordEach [] X.env))):=by rfl) :
  PE X (.Call (.Attribute (.Name g p) "__init__" apos) (e :: es) [] pos) (tInitX C t):=by
 intro pins s σ H Q I h
 refine PySem.W.methodCall_KW (pl:=pl) (Zfo I hg hm ?_ hdb) ht
 refine method_cls I.kIn c.gG (cls_value I.kIn c.rG c.iG (by decide +kernel) ?_)
 refine PyProof.Rows.callWith_builtin1 (thn (ha pos pins _ σ H _ (I.tok _) h) λus s1 hp0=>?_) hst hpl
 obtain⟨vs,H1,I1,r1,xx,rest,dd,ev,ex,hl,q1⟩:=hp0
 subst ev
 cases r1 with
 | cons r0 r2=>
  cases r0
  refine initX_ok I1 c ex (by rw[← r2.length]; exact hl) λs2 I2=>⟨.non,H1,I2,rfl,q1⟩
noncomputable def sFldX0 (C:Addr) (ta tv:TE) (n:Str):TS:=λD σ H=>tv σ H λy H1=>ta σ H1 λv H2=>∃x,v=.ref x∧H2 x=some (excF x C none)∧∀d,H2 d=none→d≠x→D.nx σ (upd (upd H2 x (excF x C (some d))) d (xdO d [(n,y)]))
noncomputable def sFldX1 (C:Addr) (ta tv:TE) (n:Str):TS:=λD σ H=>tv σ H λy H1=>ta σ H1 λv H2=>∃x dx fs,v=.ref x∧H2 x=some (excF x C (some dx))∧H2 dx=some (xdO dx fs)∧dx≠x∧fs.length < 1000∧D.nx σ (upd H2 dx (xdO dx (putF n y fs)))
theorem ps_fldX0 (c:XC X.K C f G) (wn:Wn X.K C n) (ha:PE X o ta) (hv:PE X value tv) (hs:swapsWith value (some (.Attribute o n pos')) pos.line X.env=pure false):PS X (.Assign [.Attribute o n pos'] value pos) (sFldX0 C ta tv n):=by
 intro pins s σ H D I h
 refine plainObj_wpAny_Assign_Attribute (thn (hv pins s σ H _ I h) λu s1 hp0=>?_) hs
 obtain⟨y,H1,I1,ry,q⟩:=hp0
 refine thn (ha pins s1 σ H1 _ I1 q) λov s2 hp1=>?_
 obtain⟨v,H2,I2,rx,xx,ev,ex,q2⟩:=hp1
 subst ev
 obtain rfl:ov=Value.ref xx:=rx
 exact setX0_ok I2 c wn ex ry λd s3 hd nd I3=>⟨σ,_,I3,q2 d hd nd⟩
theorem ps_fldX1 (c:XC X.K C f G) (wn:Wn X.K C n) (ha:PE X o ta) (hv:PE X value tv) (hs:swapsWith value (some (.Attribute o n pos')) pos.line X.env=pure false):PS X (.Assign [.Attribute o n pos'] value pos) (sFldX1 C ta tv n):=by
 intro pins s σ H D I h
 refine plainObj_wpAny_Assign_Attribute (thn (hv pins s σ H _ I h) λu s1 hp0=>?_) hs
 obtain⟨y,H1,I1,ry,q⟩:=hp0
 refine thn (ha pins s1 σ H1 _ I1 q) λov s2 hp1=>?_
 obtain⟨v,H2,I2,rx,xx,dx,fs,ev,ex,ed,_,hl,q2⟩:=hp1
 subst ev
 obtain rfl:ov=Value.ref xx:=rx
 exact setX1_ok I2 c wn ex ed hl ry λs3 I3=>⟨σ,_,I3,q2⟩
end
end L2
namespace L2
open PySem PySem.Spec PyProof.Rows PySem.W
noncomputable def DictAt (s:Shared) (a d:Addr):Prop:=∃o:Obj,s.heap.objs[a]? = some o∧o.dict=some d
theorem DictAt.of {s:Shared}{a d:Addr}{o:Obj}(h:s.heap.get? a=some o) (e:o.dict=some d):DictAt s a d:=⟨o,(Heap.get?_some_iff.mp h).1,e⟩
theorem DictAt.ks {s s':Shared}{a d:Addr}(h:DictAt s a d) (k:Ks s s'):DictAt s' a d:=by
 obtain⟨o,e,q⟩:=h
 obtain⟨o',e',q'⟩:=k a o e
 exact⟨o',e',q'.trans q⟩
noncomputable def CXd (P:Program) (w:World) (C0:Addr):CXT:=λouter H s E e s'=>∃(a C t:Addr) (H':Hp) (B:Heap),e=.ref a∧Fly P w outer H s a H' B s'∧Heap.FlyingW B outer a (.ref C) (.ref t) s'.heap ∧
 (E e (some C) H'∨(C=C0∧∃d,DictAt s' a d∧E (.ref d) none H'))
section
variable {P:Program}{w:World}{K:W.Frag}{mg:Str→Option Value}{base:Heap}{N:List Str}{qual:Str}{scope:Scope}{f C0:Addr}{cd:Value}{A:Around}{outer:List Env}{s0:Shared}{H0:Hp}{E:XK}
theorem passD:Zdu (CXd P w C0) (cxOf (CXd P w C0) P w K mg base N qual scope f cd A outer s0 H0 E) E:=by
 intro pins σ H s e s' I h
 obtain⟨a,C,t,H',B,rfl,F,hfl,q⟩:=h
 refine wpAny_mono (Kd.any (Zhp _ _) (wpAny_leaves_onW (E:=λ_ _=>False) (Q:=λ_ s''=>Heap.FlyingW B outer a (.ref C) (.ref t) s''.heap∧s'.heap.UpToSlots s''.heap∧s''={ s' with heap:=s''.heap }) I.ok.frames rfl hfl λh' hfl' ups=>⟨hfl',ups,rfl⟩))
  (λ_ s'' ⟨⟨hfl',ups,es⟩,ks⟩=>?_) (λ_ _ z=>z.1.elim)
 rw[es]
 refine⟨a,C,t,H',B,rfl,Zjp I rfl rfl rfl rfl F hfl' ups,hfl',?_⟩
 rcases q with q | ⟨rfl,d,hd,q⟩
 ·exact .inl q
 refine .inr ⟨rfl,d,?_,q⟩
 rw[← es]
 exact hd.ks ks
theorem Zko:Zdu (CXe P w) (cxOf (CXd P w C0) P w K mg base N qual scope f cd A outer s0 H0 E) E:=by
 intro pins σ H s e s' I h
 obtain⟨a,C,t,H',B,rfl,F,hfl,q⟩:=h
 exact wpAny_leaves_onW I.ok.frames rfl hfl λh' hfl' ups=>⟨a,C,t,H',B,rfl,Zjp I rfl rfl rfl rfl F hfl' ups,hfl',.inl q⟩
end
noncomputable def rmv (H:Hp) (x:Addr):Hp:=λb=>if b=x then none else H b
theorem Ze2 {H:Hp}{x b:Addr}(h:b≠x):rmv H x b=H b:=if_neg h
theorem Zki {H:Hp}{x:Addr}:rmv H x x=none:=if_pos rfl
theorem Zkh {H:Hp}{x b:Addr}{u:HO}(h:rmv H x b=some u):b≠x∧H b=some u:=by
 by_cases z:b=x
 ·rw[z,Zki]at h; cases h
 exact⟨z,by rwa [Ze2 z]at h⟩
section
variable {M:Model}{A:Around}{E:Value→Shared→Prop}{s:Shared}{env:Env}{C:Addr}
theorem raise_made {x:Sem Value}{Q:Flow→Shared→Prop}(hh:A.handled=none)
  (h:wpAny M A x (λv s₁=>∃e t dd,v=.ref e∧XAt s₁.heap C∧s₁.heap.get? e=some { cls:=.ref C,dict:=dd,data:=.fields #[.ref t,.none,.none,.none,.bool false,.none] }∧E (.ref e) s₁) E s) :
  (wpAny M A (raiseStmt env (some x) none) Q E s):=by
 unfold raiseStmt
 refine wpAny_bind (wpAny_mono h (λv s₁ hp0=>?_) λ_ _ x=>x)
 obtain⟨e,t,dd,ev,hX,he,hE⟩:=hp0
 subst ev
 obtain⟨NN,nm,qn,bs,bm,hdct,sn,sub,ab,col,dd',k0,k1,k2,k3,k5,hC,T⟩:=hX.ex
 have hcB:(Value.ref C :: bm).contains (.type "BaseException")=true:=by rw[List.contains_cons,T.hasType PySem.F.excBase_ValueError.hasBase,Bool.or_true]
 (obtain⟨hp,g,d,tk,os⟩:=s₁)
 repeat (first | wp_step | (with_reducible refine wpAny_isSubtype_exc hC ?_; rw[hcB]) | with_reducible refine wpAny_loadPart_at hC ?_ | with_reducible refine wpAny_loadPart_at he ?_)
 (exact wpAny_raiseNew_none hh hE)
end
noncomputable def tRaiseX (C:Addr) (sp:Sp) (t:TA) (E:XK):TS:=λ_ σ H=>t σ H λvs H1=>vs.length≤1000∧∀x,H1 x=none →
 sp (.ref x :: vs) (upd H1 x (excF x C none)) (λv H2=>v=.non∧∃d,H2 x=some (excF x C (some d))∧E (.ref d) none (rmv H2 x)) E0
theorem ps_raiseX {P:Program}{w:World}{K:W.Frag}{mg:Str→Option Value}{base:Heap}{N:List Str}{qual:Str}{scope:Scope}{f:Addr}{cd:Value}{A:Around}{outer:List Env}{s0:Shared}{H0:Hp}{E:XK}{C G fI:Addr}{fd:FuncData}{k:Nat}{ps:List Str}{sp:Sp}{x:Str}{np cpos pos:Pos}{e₀:Expr}{es:List Expr}{t:TA}
  (c:XC K C fI G) (FI:FnOk P w K mg base CX0 k fI fd ps sp) (hr:Room (k + 1) (A.deeper (envOfC qual scope s0.heap.objs.size f cd))) (hbI:Binds K fd ps [])
  (hg:Gl (cxOf (CXd P w C) P w K mg base N qual scope f cd A outer s0 H0 E) x) (hm:mg x=some (.ref C)) (ha:PA (cxOf (CXd P w C) P w K mg base N qual scope f cd A outer s0 H0 E) (e₀ :: es) t)
  (he:starEach (e₀ :: es) (envOfC qual scope s0.heap.objs.size f cd)=(false,eval e₀ (envOfC qual scope s0.heap.objs.size f cd)) :: starEach es (envOfC qual scope s0.heap.objs.size f cd):=by rfl)
  (hpl:(backTo cpos (starEach es (envOfC qual scope s0.heap.objs.size f cd))).any (·.1)=false:=by rfl) (hdb:(x == ("__debug__" : Str))=false:=by decide) :
  PS (cxOf (CXd P w C) P w K mg base N qual scope f cd A outer s0 H0 E) (.Raise (some (.Call (.Name x np) (e₀ :: es) [] cpos)) none pos) (tRaiseX C sp t E):=by
 intro pins s σ H D I hw
 rw[arm_exec_Raise]
 refine wpAny_bind (wpAny_standAt ?_)
 show wpAny (model P w) _ (raiseStmt _ (some (do let v ← eval (.Call (.Name x np) (e₀ :: es) [] cpos) (envOfC qual scope s0.heap.objs.size f cd); standAt pos; pure v)) none) _ _ _
 refine raise_made (C:=C) (I.ok.hd rfl) (wpAny_bind (wpAny_mono ?_ (λv s₃ h₃=>wpAny_bind (wpAny_standAt (wpAny_pure h₃))) λ_ _ x=>x))
 refine wpAny_Call_Name_kw (Zfo I hg hm ?_ hdb)
 refine PySem.W.callWith_K (h₀:=base) I.ok.mod.kin c.kp (thn (ha cpos pins s σ H _ I hw) λus s2 hp0=>?_) he hpl
 obtain⟨vs,H1,I1,r,hz,q⟩:=hp0
 refine⟨I1.kIn,?_⟩
 -- the object
 have hsl:sizeLine=16777216:=sizeLine_eq
 have hus:=r.length
 have fresh0:=λe hle=>I1.hok.fresh (a:=e) hle
 have lay:=λ(h':Heap) (e te:Addr) (k:∀b u,s2.heap.get? b=some u→h'.get? b=some u) (hle:s2.heap.objs.size≤e) (hte:h'.get? e=some { cls:=.ref C,data:=.fields #[.ref te,.none,.none,.none,.bool false,.none] })=>I1.laid (a:=e) (o:=excF e C none) (h':=h') (t':=s2.toks) k hle (Zka hte)
 have key:∀(h':Heap) (e:Addr),Heap.MadeExcOf s2.heap h' e (.ref C) us→s2.heap.objs.size≤e →
   wpAny (model P w) ((A.deeper (envOfC qual scope s0.heap.objs.size f cd)).under (.builtin "type.__call__" ⟨.ref C :: us,[]⟩)) (call (.ref fI) (.ref e :: us)) (λr s'=>r=.none∧∃e' t dd,Value.ref e=.ref e'∧XAt s'.heap C∧s'.heap.get? e'=some { cls:=.ref C,dict:=dd,data:=.fields #[.ref t,.none,.none,.none,.bool false,.none] }∧(cxOf (CXd P w C) P w K mg base N qual scope f cd A outer s0 H0 E).xe (.ref e') s')
    (cxOf (CXd P w C) P w K mg base N qual scope f cd A outer s0 H0 E).xe { s2 with heap:=h' }:=λh' e hmade hle=>by
  obtain⟨te,hte,_,_⟩:=hmade.there
  have hne:=fresh0 e hle
  have I2:=lay h' e te hmade.keeps hle hte
  have hq:=q e hne
  have r2:Vals (V.ref e :: vs) (Value.ref e :: us):=.cons rfl r
  have hl:(Value.ref e :: us).length=ps.length:=by rw[← r2.length]; exact FI.len _ _ _ _ hq
  have hbind:=hbI { s2 with heap:=h' } (Value.ref e :: us) I2.kIn (by rw[append_nil]; exact hl)
  rw[append_nil]at hbind
  refine wpAny_call (codeAny_mono (FI.run _ (envOfC qual scope s0.heap.objs.size f cd :: outer) { s2 with heap:=h' } _ ⟨Value.ref e :: us,[]⟩ (Value.ref e :: us) _ _ E0 (hr.make C us []) (I2.env0.make C us []) hbind r2 hq) λrs s3 hq'=>?_)
  cases rs with
  | error e'=>exact hq'.elim
  | ok fl=>
   cases fl with
   | next=>exact False.elim hq'
   | brk=>exact False.elim hq'
   | cont=>exact False.elim hq'
   | ret u=>
    obtain⟨v,H2,os3,bare3,un3,hok3,rv,ev,d,ex2,qE⟩:=hq'
    subst ev
    obtain rfl:u=.none:=rv
    obtain⟨⟨t3,hx3⟩,_,_⟩:=hok3 _ _ ex2
    have I3:=I2.call' (s':=s3) (ch:=[]) os3 un3 hok3 bare3 (λb z=>nomatch z)
    refine⟨rfl,e,t3,some d,rfl,I3.xAt c,hx3,?_⟩
    -- it leaves the frame
    have hfree:=I3.stkFree
    have hin:∀env∈(envOfC qual scope s0.heap.objs.size f cd :: outer),∀b,env.frame=some b→b∈e :: frs (envOfC qual scope s0.heap.objs.size f cd :: outer):=λenv hm b hb=>.tail _ (mem_filterMap.mpr ⟨env,hm,hb⟩)
    obtain⟨B,eB⟩:∃B,B=hideAll s3.heap (e :: frs (envOfC qual scope s0.heap.objs.size f cd :: outer)):=⟨_,rfl⟩
    have funs:s3.heap.FunFrames B (envOfC qual scope s0.heap.objs.size f cd :: outer):=by rw[eB]; exact funFrames_hide I3.stack hin
    have hen:B.get? e=none:=by rw[eB]; exact hideAll_none _ (.head _)
    have getB:∀b o,s3.heap.get? b=some o→b≠e→b∉frs (envOfC qual scope s0.heap.objs.size f cd :: outer)→B.get? b=some o:=λb o z1 z2 z3=>by
     rw[eB]
     refine hideAll_get _ z1 λz=>?_
     rcases(mem_cons.mp z)with z | z
     ·exact z2 z
     exact z3 z
    have hfr:s2.heap.get? e=none:=hmade.new
    have old:∀b o,s2.heap.get? b=some o→b≠e:=λb o z1 z2=>by rw[z2,hfr]at z1; cases z1
    have F:Fly P w (envOfC qual scope s0.heap.objs.size f cd :: outer) H1 s2 e (rmv H2 e) B s3:=by
     refine⟨os3,bare3,⟨λb o z1 z2 z3 z4=>?_,λb o z1 z2 z3 z4=>?_,λb o z1 z2 z4=>?_,λb o z1 z4=>?_,λb xs z=>?_,λb o u z=>?_,λb ps' z=>?_⟩,λb u z=>?_,funs,Zki,hfr,λb o z1 z2 z3=>?_,λb v z1 z2=>?_,λb o z1 z3=>?_⟩
     ·exact un3.keep b o (hmade.keeps b o z1) (by rw[Zaj (old b o z1)]; exact z2) z3 z4
     ·exact un3.slot b o (hmade.keeps b o z1) (by rw[Zaj (old b o z1)]; exact z2) z3 z4
     ·rw[Ze2 (old b o z1)]
      exact un3.free b o (hmade.keeps b o z1) (by rw[Zaj (old b o z1)]; exact z2) z4
     ·exact un3.there b o (hmade.keeps b o z1) z4
     ·have nb:=Zag z hne
      rw[Ze2 nb]
      exact un3.tups b xs (by rw[Zaj nb]; exact z)
     ·have nb:=Zag z hne
      rw[Ze2 nb]
      exact un3.frzs b o u (by rw[Zaj nb]; exact z)
     ·have nb:=Zag z hne
      rw[Ze2 nb]
      exact un3.tbls b ps' (by rw[Zaj nb]; exact z)
     ·obtain⟨nb,z'⟩:=Zkh z
      refine(hok3 b u z').stay (λ_ _ _ q=>q) (λc' q'=>?_) λc' xs q'=>?_
      ·rw[Ze2 (λy=>by rw[y,ex2]at q'; cases q')]; exact q'
      rw[Ze2 (λy=>by rw[y,ex2]at q'; cases q')]; exact q'
     ·exact getB b o (un3.keep b o (hmade.keeps b o z1) (by rw[Zaj (old b o z1)]; exact z2) z3 (by simp)) (old b o z1) z3
     ·cases zu:rmv H2 e b with
      | none=>exact absurd zu z1
      | some u=>
       obtain⟨nb,z'⟩:=Zkh zu
       exact getB b v z2 nb λzz=>by
        have:=hfree b zz
        rw[z']at this
        cases this
     obtain⟨o',z'⟩:=un3.there b o (hmade.keeps b o z1) (by simp)
     exact⟨o',getB b o' z' (old b o z1) z3⟩
    refine wpAny_mono (Kd.any (Zhp _ _) (wpAny_leaving_firstW (E:=λ_ _=>False) (Q:=λ_ s''=>Heap.LeftW B (envOfC qual scope s0.heap.objs.size f cd :: outer) e (.ref C) (.ref t3) s3.heap s''.heap∧s''={ s3 with heap:=s''.heap }) I3.ok.frames funs rfl hx3 (λb o q=>by rw[eB]at q; exact of_hideAll _ q) hen rfl rfl rfl λh' hL=>⟨hL,rfl⟩)) (λ_ s'' hp0=>?_) (λ_ _ z=>z.1.elim)
    obtain⟨⟨hL,es⟩,ks⟩:=hp0
    obtain⟨l1,⟨_,_,l2⟩,l3,l4⟩:=hL
    have hfl:Heap.FlyingW B outer e (.ref C) (.ref t3) s''.heap:=⟨l1,hen,l2,l3⟩
    have hD:=(DictAt.of hx3 rfl).ks ks
    rw[es]
    exact⟨e,C,t3,rmv H2 e,B,rfl,Zjp I1 rfl rfl rfl rfl F hfl l4,hfl,.inr ⟨rfl,d,by rw[← es]; exact hD,qE⟩⟩
 exact make_exc I1.kIn c (show us.length≤sizeLine by lia) key
end L2
namespace L2
open PySem PySem.Spec PyProof.Rows PySem.W
end L2
namespace L2
open PySem PySem.Spec PyProof.Rows PySem.W
end L2
namespace L2
open PySem PySem.W PyProof.Rows
section
variable {X:Cx}
theorem Zhj:∀{vs:List Value}{ys:List Str},vs.length=ys.length→(∀(i:Nat) v y,vs[i]? = some v→ys[i]? = some y→∃t,v=.str y t)→StrsAre vs ys
 | [],[],_,_=>.nil
 | [],_ :: _,h,_=>by(simp at h)
 | _ :: _,[],h,_=>by(simp at h)
 | v :: vs,y :: ys,h,g=>by
  obtain⟨t,rfl⟩:=g 0 v y rfl rfl
  exact .cons y t (Zhj (by simpa using h) λi v' y' h1 h2=>g (i + 1) v' y' (by simpa using h1) (by simpa using h2))
theorem call_sortedD (hc:X.calm=true):Zcy X (.builtin "sorted") (λxs H Q=>∃(d:Addr) (ps:List (Str×V)),xs=[.ref d]∧H d=some (.dK (ps.map λp=>(Sum.inr p.1,p.2)))∧ps.length < 64 ∧
  ∀(l:Addr) (zs:List Str),H l=none→zs.Perm (ps.map (·.1))→sortedS zs=true→Q (.ref l) (upd H l (.lst (zs.map V.str)))):=by
 intro pins s σ H xs us Q I r h
 obtain⟨d,ps,rfl,hd,h64,q⟩:=h
 obtain⟨u,rfl,ru⟩:=Zdd r
 cases ru
 obtain⟨hz,hm,vs,hkv,o,es,ep,ho,ex,hdd,hK,hP,hnd⟩:=Zls I.hok hd
 have hat:s.heap.DictAt (Zat X.prog X.w) d vs ep:=⟨o,es,ho,ex,hdd,hK,hP,hnd⟩
 have hl:=hkv.length
 rw[length_map]at hl
 have hsl:sizeLine=16777216:=sizeLine_eq
 refine Calls.call_function_entry kind_sorted plain_sorted entry_sorted (args_sorted1 (.ref d)) ?_
 unfold Builtin.«sorted»
 (refine wpAny_bind (m:=checkCount "sorted" 1 1 _) (wpAny_pure ?_))
 refine wpAny_bind (kdu_collect (A:=X.A.in1) (kdl_dict (knd:=Zat X.prog X.w) (kvs:=vs) (ep:=ep) hm) (I.ok.hd hc) hat (by lia) λh1 tk acc k1 hacc=>?_)
 -- the keys are texts
 have al:acc.toList.length=ps.length:=by
  have e:acc.toList.length=acc.size:=by simp
  rw[e,hacc.1,hl]
 have texts:StrsAre acc.toList (ps.map (·.1)):=by
  refine Zhj (by rw[length_map]; exact al) λi v y hv hy=>?_
  obtain⟨k,z,e1,e2⟩:=hacc.2 i v (by simpa using hv)
  obtain⟨v',e3,_⟩:=KV.get hkv e1
  rw[getElem?_map]at e3 hy
  obtain⟨p,e4,e5⟩:=map_eq_some_iff.mp e3
  rw[e4]at hy
  cases hy
  cases e5
  rcases Zax (show Ze8 (Sum.inr p.1) v=true from e2)with⟨j,t,e6,_⟩ | ⟨y,t,e6,e7⟩
  ·cases e6
  cases e6
  exact⟨t,e7⟩
 refine wpAny_bind (wpAny_newList ?_ (show acc.toList.length≤sizeLine by lia))
 have atB:(h1.push (seqObj "list" acc.toList.toArray 0)).get? h1.objs.size=some (seqObj "list" acc.toList.toArray 0):=Heap.get?_push_size _ rfl
 refine wpAny_bind (wpAny_holding (wpAny_call_entry slot_list_sort ⟨_,atB,rfl⟩ entry_list_sort ?_ (args_list_sort _)))
 refine list_sort_treeK (s:={ s with heap:=h1.push (seqObj "list" acc.toList.toArray 0),toks:=tk }) strKind_oneLt atB texts.keysOf (λv₁ v₂ rest e=>keyKind_strs (by rw[← e]; exact texts)) (by lia) λst' pm so=>?_
 obtain⟨zs,z1,z2,z3⟩:=sorted_out_str texts pm so
 have keep:∀b o,s.heap.get? b=some o→(sortedHeap (h1.push (seqObj "list" acc.toList.toArray 0)) h1.objs.size acc.toList ((arrOf st').map (·.2))).get? b=some o:=λb o z=>by
  have z':=k1 b o z
  have lt:=Heap.lt_size z'
  rw[sortedHeap_old (ne_of_lt lt) (by rw[Heap.size_push]; exact lt_succ_of_lt lt)]
  exact Heap.get?_push_of_some _ z'
 obtain⟨e,atE⟩:=sortedHeap_at atB (out:=(arrOf st').map (·.2))
 have zl:=z2.length_eq
 rw[length_map]at zl
 have far:∀b o,s.heap.get? b=some o→b≠h1.objs.size:=λb o z=>ne_of_lt (Heap.lt_size (k1 b o z))
 obtain⟨m0,hn0,_⟩:=id I.loc
 obtain⟨oL,_,_,hoL,_⟩:=id hn0
 have fp:FpOk X pins H h1.objs.size:=by
  refine⟨?_,(far _ _ hoL).symm,λz=>?_,.inr ?_,λy c' z=>?_,λp hp z=>?_⟩
  ·cases z:H h1.objs.size with
   | none=>rfl
   | some u=>
    obtain⟨ob,z2⟩:=(I.hok _ u z).there
    exact absurd rfl (far _ _ z2)
  ·obtain⟨_,o',z2,_⟩:=I.funs.mem z
   exact absurd rfl (far _ _ z2)
  ·exact le_trans I.ok.above (le_of_lt (Heap.lt_size (k1 _ _ hoL)))
  ·obtain⟨v,oc,z2,_⟩:=I.cell y c' z
   exact far _ _ z2
  exact absurd z (far _ _ (I.pin p hp).1)
 have I1:=(I.kept (t':=tk) keep).trackF (S:=h1.objs.size) (ob:=.lst (zs.map V.str)) fp ⟨by rw[length_map]; lia,((arrOf st').map (·.2)).toList,e,Zi1 z1,by rw[Array.toArray_toList]; exact atE⟩
 refine⟨_,rfl,wpAny_pure ⟨_,rfl,?_⟩⟩
 exact⟨.ref _,_,I1,rfl,q _ _ fp.1 z2 z3⟩
end
end L2
namespace L2
open PySem PySem.Spec PyProof.Rows PySem.W
section
variable {X:Cx}
theorem Ziq:∀{ns:List Int}{us:List Value},Vals (ns.map V.int) us→IntsAre us ns
 | [],_,r=>by cases r; exact .nil
 | n :: ns,_,r=>by
  cases r with
  | cons h r=>
   obtain⟨t,rfl⟩:=h
   exact .cons n t (Ziq r)
theorem call_maxL (hc:X.calm=true):Zcy X (.builtin "max") (λxs H Q=>∃(p:Addr) (ns:List Int),xs=[.ref p]∧SqL X.K H p (ns.map V.int)∧0 < ns.length∧∀M,M∈ns→(∀a,a∈ns→a≤M)→Q (.int M) H):=by
 intro pins s σ H xs us Q I r h
 obtain⟨p,ns,rfl,hp,hne,q⟩:=h
 obtain⟨u,rfl,ru⟩:=Zdd r
 cases ru
 obtain⟨its,rv,pl,hz⟩:=I.list hp
 have hi:=Ziq rv
 obtain⟨ys,e⟩:=hi.allInts.items
 have hns:ns=ys.toList.map (·.1):=by
  (rw[← hi.numsOf,← nums_intItems,← e])
 have hsz:0 < ys.size:=by
  (have h3:=hne; rw[hns,length_map,Array.length_toList]at h3; exact h3)
 have hl:=pl.isList
 rw[e]at hl
 refine max_intList (I.ok.hd hc) hl hsz λv h' tk hv hk=>?_
 (obtain⟨t,rfl⟩:=intItems_at hv)
 obtain⟨h1,h2⟩:=argBest_gt (numAt ys) (ys.size - 1)
 refine⟨.int _,H,I.kept hk,⟨t,rfl⟩,q _ ?_ λa ha=>?_⟩
 ·rw[hns,(numAt_eq)]; exact getD_mem (by rw[length_map,Array.length_toList]; lia)
 rw[hns]at ha
 (obtain⟨j,hj,rfl⟩:=mem_getD ha)
 (rw[length_map,Array.length_toList]at hj)
 (rw[← numAt_eq]; exact h2 j (by lia))
end
end L2
namespace L2
open PySem PySem.Spec PyProof.Rows PySem.W
noncomputable abbrev dkw (d:Value):List (Str×Value):=[("default",d)]
section
variable {prog:Program}{w:World}{A:Around}{R:Result→Shared→Prop}{I l S:Addr}{xs:Array (Int×Tok)}{d:Value}
theorem Zin:(toString "min" ++ toString ".loop" : String) = "min.loop" := by decide
noncomputable abbrev bst (S:Addr) (vs:Array Value) (c:Nat) (s:Shared):Prop:=s.heap.get? S=some { cls:=.type "list",dict:=none,data:=.seq vs c,slots:=#[] }
theorem mn_go (hh:A.handled=none) (li:l≠I) (si:S≠I) (sl:S≠l):∀(k j i:Nat) (s:Shared) (v:Value) (c:Nat),j + k=xs.size→i < j→(intItems xs)[i]? = some v→(∀t,t < j→numAt xs i≤numAt xs t) →
  s.heap.IsListIter I l j∧s.heap.IsList l (intItems xs)→bst S #[v,v] c s →
  (∀i v h' tk,(intItems xs)[i]? = some v→(∀t,t < xs.size→numAt xs i≤numAt xs t)→(∀b o,b≠I→b≠S→s.heap.get? b=some o→h'.get? b=some o)→R (.ok (.ret v)) { s with heap:=h',toks:=tk }) →
  codeAny (model prog w) A (.builtin "min.loop" ⟨[.ref I,.none,.ref S],dkw d⟩) R s:=by
 have W:=Walks.list (prog:=prog) (w:=w) (A:=A.in1) hh I l li (intItems xs)
 have sz:(intItems xs).size=xs.size:=by simp[intItems]
 intro k
 induction k with
 | zero=>
  intro j i s v c ejk ij hv least hst hb hR
  (refine codeAny_builtin PySem.F.entry_min_loop ?_)
  (rw[Around.under_plainId PySem.F.plain_min_loop _])
  refine wpAny_bind (wpAny_seqItems hb rfl ?_)
  refine wpAny_bind (wpAny_tryCatch (W.done s _ _ (by rw[sz,← ejk]; exact hst) λh' tk kept=>?_))
  have hb':=kept S _ (by simpa using si) hb
  refine wpAny_bind ?_
  refine wpAny_updateSeq hb' rfl (wpAny_bind (wpAny_letGo (wpAny_pure ?_)))
  exact hR i v _ tk hv (λt ht=>least t (by lia)) λb o n1 n2 e=>(Heap.get?_update_other _ _ (Ne.symm n2)).trans (kept b o (by simpa using n1) e)
 | succ k ih=>
  intro j i s v c ejk ij hv least hst hb hR
  (refine codeAny_builtin PySem.F.entry_min_loop ?_)
  (rw[Around.under_plainId PySem.F.plain_min_loop _])
  refine wpAny_bind (wpAny_seqItems hb rfl ?_)
  refine wpAny_bind (wpAny_tryCatch (W.item j s _ _ (by lia) hst λu h' tk hu hst' kept=>?_))
  have hb':=kept S _ (by simpa using si) hb
  refine wpAny_bind (wpAny_pure ?_)
  refine wpAny_bind (wpAny_tryCatch (wpAny_holding (wpAny_bind (CmpOf.ints_lt (prog:=prog) (w:=w) (A:=A.in1) (P:=λi v=>(intItems xs)[i]? = some v) (numAt xs) (λ_ _=>intItems_at) j i u v _ _ _ hu hv ?_))))
  (refine wpAny_bind (wpAny_holding (wpAny_truthy_bool ?_)))
  (refine wpAny_bind (wpAny_letGo (wpAny_pure ?_)))
  by_cases lt:numAt xs j < numAt xs i
  ·simp only[lt,decide_true,if_true]
   refine wpAny_bind ?_
   refine wpAny_updateSeq hb' rfl (wpAny_bind (wpAny_letGo ?_))
   rw[Zin]
   refine wpAny_pure ⟨plainId_quiet PySem.F.plain_min_loop _,ih (j + 1) j _ u _ (by lia) (by lia) hu (λt ht=>?_) (W.frame _ _ _ hst' λb hb o e=>?_) (Heap.get?_update_self _ hb' rfl) λi' v' h'' tk'' q1 q2 k2=>?_⟩
   ·rcases lt_or_ge t j with h | h
    ·have:=least t h
     lia
    have:t=j:=by lia
    subst this
    exact Int.le_refl _
   ·refine(Heap.get?_update_other _ _ ?_).trans e
    rintro rfl
    simp[si,sl]at hb
   exact hR i' v' h'' tk'' q1 q2 λb o n1 n2 e=>k2 b o n1 n2 ((Heap.get?_update_other _ _ (Ne.symm n2)).trans (kept b o (by simpa using n1) e))
  simp only[lt,decide_false,false_eq_true,if_false]
  refine wpAny_bind (wpAny_letGo ?_)
  rw[Zin]
  refine wpAny_pure ⟨plainId_quiet PySem.F.plain_min_loop _,ih (j + 1) i _ v c (by lia) (by lia) hv (λt ht=>?_) hst' hb' λi' v' h'' tk'' q1 q2 k2=>?_⟩
  ·rcases lt_or_ge t j with h | h
   ·exact least t h
   have:t=j:=by lia
   subst this
   lia
  exact hR i' v' h'' tk'' q1 q2 λb o n1 n2 e=>k2 b o n1 n2 (kept b o (by simpa using n1) e)
theorem mn_at (hh:A.handled=none) (li:l≠I) (si:S≠I) (sl:S≠l) {s:Shared}{c:Nat}(hst:s.heap.IsListIter I l 0∧s.heap.IsList l (intItems xs)) (hb:bst S #[] c s)
  (h0:xs.size=0→∀h' tk,(∀b o,b≠I→b≠S→s.heap.get? b=some o→h'.get? b=some o)→R (.ok (.ret d)) { s with heap:=h',toks:=tk })
  (hR:∀i v h' tk,(intItems xs)[i]? = some v→(∀t,t < xs.size→numAt xs i≤numAt xs t)→(∀b o,b≠I→b≠S→s.heap.get? b=some o→h'.get? b=some o)→R (.ok (.ret v)) { s with heap:=h',toks:=tk }) :
  codeAny (model prog w) A (.builtin "min.loop" ⟨[.ref I,.none,.ref S],dkw d⟩) R s:=by
 have W:=Walks.list (prog:=prog) (w:=w) (A:=A.in1) hh I l li (intItems xs)
 have sz:(intItems xs).size=xs.size:=by simp[intItems]
 (refine codeAny_builtin PySem.F.entry_min_loop ?_)
 (rw[Around.under_plainId PySem.F.plain_min_loop _])
 refine wpAny_bind (wpAny_seqItems hb rfl ?_)
 rcases Nat.eq_zero_or_pos xs.size with z | z
 ·refine wpAny_bind (wpAny_tryCatch (W.done s _ _ (by rw[sz,z]; exact hst) λh' tk kept=>?_))
  refine wpAny_bind (wpAny_rule ?_)
  exact wpAny_pure (h0 z h' tk λb o n1 n2 e=>kept b o (by simpa using n1) e)
 refine wpAny_bind (wpAny_tryCatch (W.item 0 s _ _ (by lia) hst λu h' tk hu hst' kept=>?_))
 have hb':=kept S _ (by simpa using si) hb
 refine wpAny_bind (wpAny_pure ?_)
 refine wpAny_bind ?_
 refine wpAny_updateSeq hb' rfl ?_
 rw[Zin]
 refine wpAny_pure ⟨plainId_quiet PySem.F.plain_min_loop _,mn_go hh li si sl (xs.size - 1) 1 0 _ u _ (by lia) (by lia) hu (λt ht=>?_) (W.frame _ _ _ hst' λb hb o e=>?_) (Heap.get?_update_self _ hb' rfl) λi' v' h'' tk'' q1 q2 k2=>?_⟩
 ·have:t=0:=by lia
  rw[this]
  exact Int.le_refl _
 ·refine(Heap.get?_update_other _ _ ?_).trans e
  rintro rfl
  simp[si,sl]at hb
 exact hR i' v' h'' tk'' q1 q2 λb o n1 n2 e=>k2 b o n1 n2 ((Heap.get?_update_other _ _ (Ne.symm n2)).trans (kept b o (by simpa using n1) e))
end
theorem mn_args (a v:Value):argsOk "min" ⟨[a],dkw v⟩:=by unfold argsOk; kernel_rfl
theorem min_dflt {prog:Program}{w:World}{A:Around}{E:Value→Shared→Prop}{s:Shared}{l:Addr}{xs:Array (Int×Tok)}{d:Value}{Q:Value→Shared→Prop}(hh:A.handled=none) (hl:s.heap.IsList l (intItems xs))
  (h0:xs.size=0→∀h' tk,(∀b o,s.heap.get? b=some o→h'.get? b=some o)→Q d { s with heap:=h',toks:=tk })
  (h1:∀i v h' tk,(intItems xs)[i]? = some v→(∀t,t < xs.size→numAt xs i≤numAt xs t)→(∀b o,s.heap.get? b=some o→h'.get? b=some o)→Q v { s with heap:=h',toks:=tk }) :
  wpAny (model prog w) A (call (.builtin "min") [.ref l] (dkw d)) Q E s:=by
 refine kmk_tree PySem.F.kind_min PySem.F.plain_min PySem.F.entry_min (mn_args _ _) ?_
 refine wpAny_bind (wpAny_of_eq (show Builtin.Builtins.bindParams "min" ["key", "default"] 0 ⟨[],dkw d⟩=pure [none,some d] from rfl) ?_)
 refine wpAny_bind (wpAny_pure ?_)
 refine wpAny_bind (iter_intList hl λs₂ e st hfp li=>?_)
 subst e
 (refine wpAny_bind (wpAny_newObj_type ?_))
 rw[Zin]
 have sz:(s.heap.push { cls:=.type "list_iterator",data:=.fields #[.ref l,.int 0 0] }).objs.size=s.heap.objs.size + 1:=Heap.size_push ..
 have ll:=hfp l (by simp)
 have old:∀b o,s.heap.get? b=some o→b≠s.heap.objs.size∧b≠(s.heap.push { cls:=.type "list_iterator",data:=.fields #[.ref l,.int 0 0] }).objs.size:=λb o e=>by
  have:=Heap.lt_size e
  rw[sz]
  exact⟨ne_of_lt this,ne_of_lt (lt_succ_of_lt this)⟩
 refine wpAny_pure ⟨plainId_quiet PySem.F.plain_min_loop _,mn_at (S:=(s.heap.push { cls:=.type "list_iterator",data:=.fields #[.ref l,.int 0 0] }).objs.size) (c:=0) hh li (by rw[sz]; exact Nat.succ_ne_self _) (ne_of_gt ll) ⟨by obtain⟨o,e,q⟩:=st.1; exact⟨o,Heap.get?_push_of_some _ e,q⟩,st.2.push _⟩ (Heap.get?_push_size _ rfl) (λz h' tk k=>?_) λi v h' tk q1 q2 k=>?_⟩
 ·exact h0 z h' tk λb o e=>k b o (old b o e).1 (old b o e).2 (Heap.get?_push_of_some _ (Heap.get?_push_of_some _ e))
 exact h1 i v h' tk q1 q2 λb o e=>k b o (old b o e).1 (old b o e).2 (Heap.get?_push_of_some _ (Heap.get?_push_of_some _ e))
section
variable {X:Cx}
noncomputable def tMinD (K:W.Frag) (t:TA):TE:=λσ H Q=>t σ H λvs H1=>∃(p:Addr) (ns:List Int),vs=[.ref p]∧SqL K H1 p (ns.map V.int)∧((ns=[]∧Q .non H1)∨(ns≠[]∧∀M,M∈ns→(∀a,a∈ns→M≤a)→Q (.int M) H1))
theorem pe_minD (hc:X.calm=true) {e:Expr}{t:TA}{j}{p p2 p3 pos:Pos}(hg:Gl X "min") (hm:X.mg "min" = none) (hv:bootBuiltins "min" = some (.builtin "min")) (ha:PA X [e] t)
  (he:backTo pos (starEach [e] X.env)=(false,eval e X.env) :: backTo pos (starEach [] X.env):=by rfl) (hp:(backTo pos (starEach [e] X.env)).any (·.1)=false:=by rfl) :
  PE X (.Call (.Name "min" p) [e] [⟨some "default",.Constant .none j p2,p3⟩] pos) (tMinD X.K t):=by
 intro pins s σ H Q I h
 refine wpAny_Call_Name_kw (Zho I hg hm hv ?_ (by decide) (by decide))
 refine PyProof.Rows.callWith_kw (thn (ha pos pins s σ H _ I h) λus s1 hp0=>?_) he hp
 obtain⟨vs,H1,I1,r1,q1⟩:=hp0
 obtain⟨p,ns,rfl,hp,q⟩:=q1
 obtain⟨u,rfl,ru⟩:=Zdd r1
 cases ru
 refine PyProof.Rows.kws_cons (Constant_none (PyProof.Rows.kws_nil ?_))
 obtain⟨its,rv,pl,hz⟩:=I1.list hp
 have hi:=Ziq rv
 obtain⟨ys,e⟩:=hi.allInts.items
 have hns:ns=ys.toList.map (·.1):=by
  (rw[← hi.numsOf,← nums_intItems,← e])
 have hnl:ns.length=ys.size:=by rw[hns,length_map,Array.length_toList]
 have hl:=pl.isList
 rw[e]at hl
 refine min_dflt (I1.ok.hd hc) hl (λz h' tk k=>?_) λi v h' tk hv best k=>?_
 ·refine⟨.non,H1,I1.kept k,rfl,?_⟩
  rcases q with⟨_,q⟩ | ⟨ne,_⟩
  ·exact q
  exact absurd (length_eq_zero_iff.mp (hnl.trans z)) ne
 obtain⟨t,rfl⟩:=intItems_at hv
 have hil:i < ys.size:=by
  obtain⟨hh,_⟩:=Array.getElem?_eq_some_iff.mp hv
  simpa [intItems] using hh
 refine⟨.int _,H1,I1.kept k,⟨t,rfl⟩,?_⟩
 rcases q with⟨z,_⟩ | ⟨_,q⟩
 ·rw[z]at hnl
  exact absurd hil (by simp at hnl; lia)
 refine q _ ?_ λa ha=>?_
 ·rw[hns,(numAt_eq)]; exact getD_mem (by rw[length_map,Array.length_toList]; exact hil)
 rw[hns]at ha
 (obtain⟨j,hj,rfl⟩:=mem_getD ha)
 (rw[length_map,Array.length_toList]at hj)
 rw[← numAt_eq]; exact best j hj
end
end L2
namespace L2
open PySem PySem.Spec PyProof.Rows PySem.W
theorem pe_never {X:Cx}{e:Expr}:PE X e (λ_ _ _=>False):=λ_ _ _ _ _ _ h=>h.elim
theorem Zno {X:Cx}{P:Program}{w:World}{C0:Addr}:Zdu (CXd P w C0) X E0:=λ_ _ _ _ _ _ _ ⟨_,_,_,_,_,_,_,_,q⟩=>by
 rcases q with q | ⟨_,_,_,q⟩
 ·exact q.elim
 exact q.elim
theorem lc_free1 {scope sc:Scope}{x:Str}(h:∀y∈scope.names,y.2=NameKind.free→y.1=x) (hx:sc.names.lookup x=some NameKind.cell):∀y∈scope.names,y.2=NameKind.free→sc.names.lookup y.1=some NameKind.cell:=λy hy e=>by
 rw[h y hy e]
 exact hx
end L2
namespace L2
open PySem
theorem bt_min:bootBuiltins "min" = some (.builtin "min"):=by decide +kernel
end L2
namespace L2
open PySem PyProof.Rows
section
variable {X:Cx}
noncomputable def Zk9 (tl:TE):TI:=λσ H R=>tl σ H λx H1=>∃a kvs,x=.ref a∧((H1 a=some (.dK kvs)∧∀o,R (Itk a o kvs) (upd H1 a (.frz o (.dK kvs))))∨∃o,H1 a=some (.frz o (.dK kvs))∧R (Itk a o kvs) H1)
theorem pi_keysR {tg l:Expr}{tl:TE}(hl:PE X l tl):PI X tg l (Zk9 tl):=by
 intro pins s σ H R I h
 refine thn (hl pins s σ H _ I h) λu s1 hp0=>?_
 obtain⟨x,H1,I1,r1,q1⟩:=hp0
 obtain⟨a,kvs,rfl,q⟩:=q1
 cases r1
 rcases q with⟨ha,q⟩ | ⟨o0,ha,q⟩
 ·obtain⟨hz,hm,vs,hkv,o,es,ep,ho,ex,hd,r⟩:=Zls I1.hok ha
  have hat:s1.heap.DictAt (Zat X.prog X.w) a vs ep:=⟨o,es,ho,ex,hd,r⟩
  have hl':=hkv.length
  have If:=I1.freeze ha ho
  refine wpAny_pyIter_dict (knd:=Zat X.prog X.w) hm hat ⟨s1.heap.objs.size,[s1.heap.objs.size],_,_,upd H1 a (.frz o (.dK kvs)),rfl,If.kept (t':=s1.toks) (λb o e=>Heap.get?_push_of_some _ e),Zi6 _ a o kvs es ep hd,⟨_,Heap.get?_push_size _ rfl,rfl,by rw[hl'] <;> rfl⟩,λb hb=>?_,q o⟩
  obtain rfl:b=s1.heap.objs.size:=by simpa using hb
  exact If.fpOk (Nat.le_refl _) (If.hok.fresh (Nat.le_refl _))
 obtain⟨ho,hz,hm,vs,hkv,o',es,ep,ho',ex,hd,r⟩:=I1.hok a _ ha
 rw[ho]at ho'
 cases ho'
 have hat:s1.heap.DictAt (Zat X.prog X.w) a vs ep:=⟨o0,es,ho,ex,hd,r⟩
 have hl':=hkv.length
 refine wpAny_pyIter_dict (knd:=Zat X.prog X.w) hm hat ⟨s1.heap.objs.size,[s1.heap.objs.size],_,_,H1,rfl,I1.kept (t':=s1.toks) (λb o e=>Heap.get?_push_of_some _ e),Zi6 _ a o0 kvs es ep hd,⟨_,Heap.get?_push_size _ rfl,rfl,by rw[hl'] <;> rfl⟩,λb hb=>?_,q⟩
 obtain rfl:b=s1.heap.objs.size:=by simpa using hb
 exact I1.fpOk (Nat.le_refl _) (I1.hok.fresh (Nat.le_refl _))
theorem for_keys {a:Addr}{o:Obj}{kvs:List (Key×V)}{g:TG}{tb:TS}{D:Ends}{σ:L2.St}{H:Hp}(Pv:Nat→L2.St→Hp→Prop) (h0:Pv 0 σ H) (hl:∀i σ H,i≤kvs.length→Pv i σ H→H a=some (.frz o (.dK kvs)))
  (hs:∀i k v σ H,kvs[i]? = some (k,v)→Pv i σ H→g (kV k) σ H λσ2 H2=>tb { D with nx:=Pv (i + 1),ct:=Pv (i + 1),bk:=D.nx } σ2 H2) (hd:∀σ H,Pv kvs.length σ H→D.nx σ H) :
  ∃W:Nat→Nat→L2.St→Hp→Prop,(∃m,W 0 m σ H)∧∀i m σ H,W i m σ H →
   ((Itk a o kvs).stop i H∧D.nx σ H)∨((Itk a o kvs).go i H∧∃N:L2.St→Hp→Prop,(∀σ' H',N σ' H'→∃m',m' < m∧W (i + 1) m' σ' H')∧∀x H',(Itk a o kvs).yld i H x H'→g x σ H' λσ2 H2=>tb { D with nx:=N,ct:=N,bk:=D.nx } σ2 H2):=by
 refine⟨λi m σ H=>m=kvs.length - i∧i≤kvs.length∧Pv i σ H,⟨kvs.length,by simp,zero_le _,h0⟩,?_⟩
 rintro i m σ H ⟨rfl,hi,p⟩
 have q:=hl i σ H hi p
 rcases lt_or_ge i kvs.length with hlt | hge
 ·refine .inr ⟨⟨hlt,q⟩,Pv (i + 1),λσ' H' n=>⟨kvs.length - (i + 1),by lia,rfl,by lia,n⟩,?_⟩
  rintro x H' ⟨rfl,k,v,e,rfl⟩
  exact hs i k v σ H' e p
 obtain rfl:i=kvs.length:=by lia
 exact .inl ⟨⟨Nat.le_refl _,q⟩,hd σ H p⟩
end
end L2
namespace L2
open PySem PyProof.Rows
theorem call_allK {X:Cx}(K:W.Frag) (h:X.K=K) (hc:X.calm=true):Zcy X (.builtin "all") (λxs H Q=>∃(p:Addr) (bs:List Bool),xs=[.ref p]∧SqL K H p (bs.map V.bl)∧Q (.bl (bs.all λb=>b)) H):=by
 subst h
 exact Zll hc
end L2
namespace L2
open PySem PySem.Spec PyProof.Rows
structure FunD (K:W.Frag) (x qual:Str) (st:Stmt) (f:Addr) (fd:FuncData) (T:Addr):Prop where
 ex:∃(oc:Value) (od:Option Addr) (kV doc pm:Value) (an:Option Addr) (cdv ct:Value) (osl:Array (Option Value)),
  fd=PySem.W.fnOf x qual (Zal st) (Zak st) (Zab st) (.ref T) kV doc pm an cdv ct∧K.lookup f=some ⟨oc,od,.func fd,osl⟩∧PySem.W.codeIn K cdv qual=true
section
variable {P:Program}{w:World}{K:W.Frag}{mg:Str→Option Value}{base:Heap}
theorem FunD.ok {x qual:Str}{st:Stmt}{f T:Addr}{fd:FuncData}{N ps:List Str}{k:Nat}{sp:Sp}(F:FunD K x qual st f fd T) (S:FnScope N ps (Zab st)) (len:∀vs H Q E,sp vs H Q E→vs.length=ps.length)
  (hbody:∀(cdv:Value) (A:Around) (outer:List Env) (s:Shared) (H:Hp) (vs:List V) (Q:VK) (E:XK),Room k (A.deeper (envOfC qual (Zab st) s.heap.objs.size f cdv))→sp vs H Q E →
   ∃t,PSs (cxOf CX0 P w K mg base N qual (Zab st) f cdv A outer s H E).nox (Zak st) t∧t { nx:=λ_ H'=>Q .non H',rt:=Q } (Zgx N vs) H):FnOk P w K mg base CX0 (k + 1) f fd ps sp:=by
 obtain⟨oc,od,kV,doc,pm,an,cdv,ct,osl,e,lk,hcd⟩:=F.ex
 subst e
 exact Znb lk hcd S len λA outer s H vs Q E hr hsp=>(hbody cdv A outer s H vs Q E hr hsp).imp λt z=>⟨z.1.nox,z.2⟩
theorem FunD.binds {x qual:Str}{st:Stmt}{f T:Addr}{fd:FuncData}{ps:List Str}{oc:Value}{od:Option Addr}{items:Array Value}{n:Nat}{sl:Array (Option Value)}(F:FunD K x qual st f fd T) (lT:K.lookup T=some ⟨oc,od,.seq items n,sl⟩)
  (h:∀(kV doc pm:Value) (an:Option Addr) (cdv ct:Value) (us:List Value),us.length=ps.length→∃k,bindArgs (PySem.W.fnOf x qual (Zal st) (Zak st) (Zab st) (.ref T) kV doc pm an cdv ct) ⟨us,[]⟩=seqItems? (.ref T) >>= k∧k (some items)=pure (ps.zip us)):Binds K fd ps []:=by
 obtain⟨oc',od',kV,doc,pm,an,cdv,ct,osl,e,lk,hcd⟩:=F.ex
 subst e
 intro s us KX hl
 rw[append_nil]at hl ⊢
 obtain⟨k,h1,h2⟩:=h kV doc pm an cdv ct us hl
 exact PySem.W.binds_K KX rfl lT rfl h1 h2
theorem funD_mk {x qual:Str}{st:Stmt}{f T:Addr}{oc:Value}{od an:Option Addr}{osl:Array (Option Value)}{kV doc pm cdv ct:Value}(l:K.lookup f=some ⟨oc,od,.func (PySem.W.fnOf x qual (Zal st) (Zak st) (Zab st) (.ref T) kV doc pm an cdv ct),osl⟩)
  (c:PySem.W.codeIn K cdv qual=true):FunD K x qual st f (PySem.W.fnOf x qual (Zal st) (Zak st) (Zab st) (.ref T) kV doc pm an cdv ct) T:=⟨⟨oc,od,kV,doc,pm,an,cdv,ct,osl,rfl,l,c⟩⟩
end
end L2
namespace K44
open PySem L2 Tx Rk PyProof.Rows PySem.SeqAt
open PySem.PyData (strOk)
section
variable {P:Program}{w:World}{K:W.Frag}{mg:Str→Option Value}{base:Heap}
noncomputable def top (i:Nat):Stmt:=PySem.Challenge.pw_grope_k44_least_by_table.main.body.getD i (.Pass ⟨0,0,0,0⟩)
noncomputable abbrev Zca:Stmt:=Zbt (top 6) 0
noncomputable abbrev Zeo:Stmt:=top 8
noncomputable abbrev Zbn:Stmt:=top 9
noncomputable abbrev Zc1:Stmt:=top 10
noncomputable abbrev Zcf:Stmt:=top 11
noncomputable abbrev Zcz:Stmt:=top 12
noncomputable abbrev Zep:Stmt:=top 14
noncomputable abbrev Zf2:Stmt:=top 15
noncomputable abbrev Ze0:Stmt:=top 16
noncomputable abbrev Zbz:Stmt:=top 17
noncomputable abbrev Zft:Stmt:=top 18
noncomputable abbrev Zfu:Stmt:=top 21
noncomputable abbrev Zdx:Stmt:=top 22
noncomputable abbrev Zc2:Stmt:=top 23
noncomputable abbrev Zc0:Stmt:=top 24
noncomputable abbrev Zbw:Stmt:=top 25
noncomputable abbrev Zbl:Stmt:=top 26
noncomputable abbrev Zbg:Stmt:=top 27
noncomputable abbrev Zb0:Stmt:=top 28
noncomputable abbrev Zck:Stmt:=top 29
noncomputable abbrev Zby:Stmt:=top 35
noncomputable abbrev Zbd:Stmt:=top 36
noncomputable abbrev Zbx:Stmt:=top 37
noncomputable abbrev Zbh:Stmt:=top 38
noncomputable abbrev Zbc:Stmt:=top 39
noncomputable abbrev Zbe:Stmt:=top 40
noncomputable abbrev Zbk:Stmt:=top 41
noncomputable abbrev Zbu:Stmt:=top 42
noncomputable abbrev Zdy:Stmt:=top 43
noncomputable abbrev Za8:Stmt:=top 44
noncomputable abbrev Zi9:Stmt:=Zbt (top 45) 0
noncomputable abbrev Zcm:Stmt:=Zbt (top 45) 2
noncomputable abbrev Zcl:Stmt:=Zbt (top 45) 3
noncomputable abbrev Zed:Stmt:=Zbt (top 45) 4
noncomputable abbrev Zee:Stmt:=Zbt (top 45) 7
noncomputable abbrev Zcb:Stmt:=Zbt (top 45) 8
noncomputable abbrev Zff:Stmt:=Zbt (top 45) 9
noncomputable abbrev Zcp:Stmt:=Zbt (top 45) 10
noncomputable abbrev Zco:Stmt:=Zbt (top 45) 11
noncomputable abbrev Zcn:Stmt:=Zbt (top 45) 12
noncomputable abbrev Zb8:Stmt:=Zbt (top 47) 0
noncomputable abbrev Zbv:Stmt:=Zbt (top 47) 1
noncomputable abbrev Zb9:Stmt:=Zbt (top 47) 2
noncomputable abbrev Zb7:Stmt:=Zbt (top 47) 3
noncomputable abbrev Ze1:Stmt:=top 49
noncomputable abbrev Zb5:Stmt:=top 50
noncomputable abbrev Zfw:Stmt:=top 51
noncomputable abbrev Zcr:Stmt:=top 52
noncomputable abbrev Zdg:Stmt:=top 53
noncomputable abbrev Zd4:Stmt:=top 54
noncomputable abbrev Zdi:Stmt:=top 55
noncomputable abbrev Zfv:Stmt:=top 56
noncomputable abbrev Zdh:Stmt:=top 57
noncomputable abbrev Zhd:Stmt:=top 58
noncomputable abbrev Zd2:Stmt:=top 59
noncomputable abbrev Zcj:Stmt:=top 60
noncomputable abbrev Zf0:Stmt:=top 61
noncomputable abbrev Zfx:Stmt:=top 62
noncomputable abbrev Zd0:Stmt:=top 63
noncomputable abbrev Zf1:Stmt:=top 64
noncomputable abbrev Zfz:Stmt:=top 65
noncomputable abbrev Zd5:Stmt:=top 66
noncomputable abbrev Zi8:Stmt:=top 67
noncomputable abbrev Zfy:Stmt:=top 68
noncomputable abbrev Zdf:Stmt:=top 69
noncomputable abbrev Zd1:Stmt:=top 70
noncomputable abbrev Zdz:Stmt:=top 71
noncomputable abbrev Zde:Stmt:=top 72
noncomputable abbrev Zd3:Stmt:=top 73
noncomputable abbrev Zcd:Stmt:=top 74
noncomputable abbrev sLaw:Stmt:=top 75
structure Bl (mg:Str→Option Value):Prop where
 len:mg "len" = none
 range:mg "range" = none
 tuple:mg "tuple" = none
 zip:mg "zip" = none
 isi:mg "isinstance" = none
 str:mg "str" = none
 list:mg "list" = none
 set:mg "set" = none
 all:mg "all" = none
 sorted:mg "sorted" = none
 int:mg "int" = none
 bool:mg "bool" = none
 sum:mg "sum" = none
 max:mg "max" = none
 enumerate:mg "enumerate" = none
 dict:mg "dict" = none
 ve:mg "ValueError" = none
 min:mg "min" = none
noncomputable def Wd (ns:List Int):Prop:=∀n∈ns,0≤n∧n < 200
noncomputable def bt (ns:List Int):Nat:=ns.foldl (λm n=>m ||| 2 ^ n.toNat) 0
theorem Zga (a b:Nat):Builtin.bitOr (a:Int) b=((a ||| b:Nat):Int):=by
 have h1:¬(0:Int)≤Builtin.bitNot a:=by unfold Builtin.bitNot; lia
 have h2:¬(0:Int)≤Builtin.bitNot b:=by unfold Builtin.bitNot; lia
 have h3:∀x:Int,Builtin.bitNot (Builtin.bitNot x)=x:=λx=>by unfold Builtin.bitNot; lia
 unfold Builtin.bitOr Builtin.bitAnd
 rw[decide_eq_false h1,decide_eq_false h2]
 dsimp only
 rw[h3,h3,h3,toNat_natCast,toNat_natCast]
theorem Zeb (a b:Nat):Builtin.bitAnd (a:Int) b=((a &&& b:Nat):Int):=rfl
theorem Zny {a b:Nat}(h:a &&& b=0):a ||| b=a + b:=by
 have e:=bitOr_and (a:Int) b
 rw[Zga,Zeb,h]at e
 lia
theorem Zlb:∀(ns:List Int) (m i:Nat),(ns.foldl (λm n=>m ||| 2 ^ n.toNat) m).testBit i=(m.testBit i || ns.any λn=>n.toNat == i)
 | [],m,i=>by simp
 | n :: r,m,i=>by
  rw[foldl_cons,Zlb r,testBit_or,testBit_two_pow,any_cons,Bool.or_assoc,Bool.beq_eq_decide_eq]
theorem Zea (ns:List Int) (i:Nat):(bt ns).testBit i=ns.any λn=>n.toNat == i:=by
 unfold bt
 rw[Zlb,zero_testBit,Bool.false_or]
theorem Zm0 {ns:List Int}(h:Wd ns) {n:Int}(h0:0≤n):(bt ns).testBit n.toNat=decide (n∈ns):=by
 rw[Zea,Bool.eq_iff_iff,any_eq_true,decide_eq_true_eq]
 constructor
 ·rintro⟨m,hm,e⟩
  have e2:m.toNat=n.toNat:=by simpa using e
  have:=(h m hm).1
  rw[show n=m by lia]
  exact hm
 intro hm
 exact⟨n,hm,by simp⟩
theorem Zix (ns:List Int) (n:Int):bt (ns ++ [n])=bt ns ||| 2 ^ n.toNat:=by
 unfold bt
 rw[List.foldl_append]
 rfl
theorem Zh2 (k:Nat):(2:Int) ^ k=((2 ^ k:Nat):Int):=by
 rw[Int.natCast_pow]
 rfl
theorem Zla:∀(ns:List Int) (m:Nat),ns.Nodup→(∀n∈ns,0≤n∧m.testBit n.toNat=false)→(m:Int) + (ns.map λn=>(2:Int) ^ n.toNat).sum=((ns.foldl (λm n=>m ||| 2 ^ n.toNat) m:Nat):Int)
 | [],m,_,_=>by simp
 | n :: r,m,nd,h=>by
  (obtain⟨n1,n2⟩:=nodup_cons.mp nd)
  obtain⟨h0,hb⟩:=h n mem_cons_self
  have d:m &&& 2 ^ n.toNat=0:=by
   refine eq_of_testBit_eq λi=>?_
   rw[testBit_and,testBit_two_pow,zero_testBit]
   by_cases hi:n.toNat=i
   ·rw[← hi,hb]; rfl
   rw[decide_eq_false hi,Bool.and_false]
  have e:=Zla r (m ||| 2 ^ n.toNat) n2 (λx hx=>⟨(h x (mem_cons_of_mem _ hx)).1,?_⟩)
  ·rw[map_cons,List.sum_cons,foldl_cons,← e,Zny d,Zh2,Int.natCast_add]
   lia
  rw[testBit_or,(h x (mem_cons_of_mem _ hx)).2,testBit_two_pow,Bool.false_or]
  refine decide_eq_false λz=>n1 ?_
  have:=(h x (mem_cons_of_mem _ hx)).1
  rw[show n=x by lia]
  exact hx
theorem sum_bt {ns:List Int}(nd:ns.Nodup) (h:∀n∈ns,0≤n):(ns.map λn=>(2:Int) ^ n.toNat).sum=(bt ns:Int):=by
 have e:=Zla ns 0 nd λn hn=>⟨h n hn,zero_testBit _⟩
 unfold bt
 rw[← e]
 simp
noncomputable def nb (m:Nat):Nat:=Builtin.Int.intBits (m:Int)
theorem nb_top {m i:Nat}(h:nb m≤i):m.testBit i=false:=by
 unfold nb Builtin.Int.intBits at h
 refine testBit_lt_two_pow ?_
 split at h
 ·rename_i c
  have:m=0:=by simpa using c
  rw[this]
  exact two_pow_pos i
 rw[Int.natAbs_natCast]at h
 exact lt_of_lt_of_le Nat.lt_log2_self (pow_le_pow_right (by decide) h)
theorem nb_le {m k:Nat}(h:m < 2 ^ k):nb m≤k:=by
 unfold nb Builtin.Int.intBits
 split
 ·exact zero_le _
 rename_i c
 have:m≠0:=by simpa using c
 rw[Int.natAbs_natCast]
 exact(Nat.log2_lt this).mpr h
noncomputable def wl (m:Nat):List Int:=((List.range (nb m)).filter λi=>m.testBit i).map λ(i:Nat)=>(i:Int)
theorem wl_mem {m:Nat}{n:Int}:n∈wl m↔0≤n∧m.testBit n.toNat=true:=by
 unfold wl
 rw[mem_map]
 constructor
 ·rintro⟨i,hi,rfl⟩
  rw[toNat_natCast]
  exact⟨by lia,(mem_filter.mp hi).2⟩
 rintro⟨h0,hb⟩
 refine⟨n.toNat,mem_filter.mpr ⟨mem_range.mpr ?_,hb⟩,by lia⟩
 rcases lt_or_ge n.toNat (nb m)with z | z
 ·exact z
 rw[nb_top z]at hb
 cases hb
theorem Zeq (m:Nat):(wl m).Pairwise (· < ·):=by
 unfold wl
 refine pairwise_map.mpr ((List.Pairwise.filter _ pairwise_lt_range).imp λh=>?_)
 lia
theorem Znx (m i:Nat):Builtin.bitAnd ((m:Int) / 2 ^ i) 1=if m.testBit i then 1 else 0:=by
 rw[Zh2,← Int.natCast_ediv]
 show Builtin.bitAnd ((m / 2 ^ i:Nat):Int) ((1:Nat):Int)=_
 rw[Zeb,Nat.and_one_is_mod,Nat.testBit_eq_decide_div_mod_eq]
 have:m / 2 ^ i % 2 < 2:=mod_lt _ (by decide)
 by_cases h:m / 2 ^ i % 2=1
 ·simp[h]
 have h2:m / 2 ^ i % 2=0:=by lia
 simp[h2]
theorem out_is {xs ys:List Int}(hx:Wd xs) (hy:Wd ys):Builtin.bitXor (bt xs:Int) (Builtin.bitAnd (bt xs:Int) (bt ys))=(bt (xs.filter λx=>!decide (x∈ys)):Int):=by
 have hf:Wd (xs.filter λx=>!decide (x∈ys)):=λn hn=>hx n (mem_filter.mp hn).1
 have bitF:∀i:Nat,(bt (xs.filter λx=>!decide (x∈ys))).testBit i=((bt xs).testBit i && !(bt ys).testBit i):=λi=>by
  have h0:(0:Int)≤(i:Int):=by lia
  have e1:=Zm0 hx h0
  have e2:=Zm0 hy h0
  have e3:=Zm0 hf h0
  rw[toNat_natCast]at e1 e2 e3
  rw[e1,e2,e3,Bool.eq_iff_iff,decide_eq_true_eq,mem_filter]
  simp
 have c1:bt xs ||| (bt xs &&& bt ys)=bt xs:=by
  refine eq_of_testBit_eq λi=>?_
  rw[testBit_or,testBit_and]
  cases (bt xs).testBit i <;> rfl
 have c2:bt xs &&& (bt xs &&& bt ys)=bt xs &&& bt ys:=by
  refine eq_of_testBit_eq λi=>?_
  rw[testBit_and,testBit_and]
  cases (bt xs).testBit i <;> rfl
 have c3:bt (xs.filter λx=>!decide (x∈ys)) &&& (bt xs &&& bt ys)=0:=by
  refine eq_of_testBit_eq λi=>?_
  rw[testBit_and,testBit_and,bitF,zero_testBit]
  cases (bt xs).testBit i <;> cases (bt ys).testBit i <;> rfl
 have c4:bt (xs.filter λx=>!decide (x∈ys)) ||| (bt xs &&& bt ys)=bt xs:=by
  refine eq_of_testBit_eq λi=>?_
  rw[testBit_or,testBit_and,bitF]
  cases (bt xs).testBit i <;> cases (bt ys).testBit i <;> rfl
 have c5:=Zny c3
 rw[c4]at c5
 unfold Builtin.bitXor
 rw[Zeb,Zga,Zeb,c1,c2]
 lia
theorem Zn5 {c:Bool}{A B:Prop}(h:c=true) (a:A):if c=true then A else B:=by rw[if_pos h]; exact a
theorem Zn6 {c:Bool}{A B:Prop}(h:¬c=true) (b:B):if c=true then A else B:=by rw[if_neg h]; exact b
theorem seq_gen {s R:TS}{D:Ends}{σ:L2.St}{H:Hp}(I:L2.St→Hp→Prop) (hR:∀σ' H',I σ' H'→R D σ' H') (hs:∀N:L2.St→Hp→Prop,(∀σ' H',I σ' H'→N σ' H')→s { D with nx:=N } σ H):tSeq s R D σ H:=hs (R D) hR
theorem Zhy {i:Nat}{v:V}{s R:TS}{D:Ends}{σ:L2.St}{H:Hp}(I:L2.St→Hp→Prop) (hR:∀σ' H',I σ' H'→R D σ' H') (hs:∀N:L2.St→Hp→Prop,(∀σ' H',I σ' H'→N σ' H')→Zhf i v σ H λσ2 H2=>s { D with nx:=N } σ2 H2):Zhf i v σ H (tSeq s R D):=hs (R D) hR
theorem Zes {H:Hp}:∀ns:List Int,RdVs H (ns.map V.int) (ns.map PyData.int)
 | []=>.nil
 | n :: r=>.cons (.int n) (Zes r)
theorem eqv_int1 (n:Int):PyData.eqv (.int n) (.int n)=true:=by simp[PyData.eqv]
theorem Zhb:∀ns:List Int,PyData.eqvAll (ns.map PyData.int) (ns.map PyData.int)=true
 | []=>by simp[PyData.eqvAll]
 | n :: r=>by rw[map_cons,PyData.eqvAll,eqv_int1,Zhb r]; rfl
theorem Zld (ns:List Int):PyData.eqv (.list (ns.map PyData.int)) (.list (ns.map PyData.int))=true:=by
 rw[PyData.eqv,Zhb]
theorem Zk7:∀ns:List Int,PyData.canLayAll0 (ns.map PyData.int)=true
 | []=>by rw[map_nil,PyData.canLayAll0]
 | n :: r=>by
  rw[map_cons,PyData.canLayAll0,Zk7 r,PyData.canLay0]
  rfl
theorem Zju:∀ns:List Int,PyData.depthAll (ns.map PyData.int)≤0
 | []=>by rw[map_nil,PyData.depthAll]; exact zero_le _
 | n :: r=>by
  have h:=Zju r
  rw[map_cons,PyData.depthAll,PyData.depth]
  lia
theorem Zfe (ns:List Int):shaped (.list (ns.map PyData.int))=true:=by
 unfold shaped
 rw[PyData.canLay0,Zk7,PyData.depth]
 have:=Zju ns
 (rw[decide_eq_true (by lia)])
 rfl
theorem Zmw (ns:List Int):∃ds:List Int,SK.dd (kAt (ns.map (Sum.inl:Int→Key))) (ns.map (Sum.inl:Int→Key)).length=ds.map Sum.inl∧ds.Nodup∧(∀n,n∈ds↔n∈ns)∧ds.length≤ns.length:=by
 have hl:(ns.map (Sum.inl:Int→Key)).length=ns.length:=length_map ..
 rw[hl]
 have go:∀i,i≤ns.length→∃ds:List Int,SK.dd (kAt (ns.map (Sum.inl:Int→Key))) i=ds.map Sum.inl∧ds.Nodup∧(∀n,n∈ds↔n∈ns.take i)∧ds.length≤i:=by
  intro i
  induction i with
  | zero=>exact λ_=>⟨[],rfl,nodup_nil,λn=>by simp,Nat.le_refl _⟩
  | succ i ih=>
   intro hi
   have hi2:i < ns.length:=hi
   obtain⟨ds,e,nd,me,le⟩:=ih (by lia)
   have ev:kAt (ns.map (Sum.inl:Int→Key)) i=Sum.inl ns[i]:=by simp[kAt,List.getD,hi2]
   have htk:=take_succ_eq_append_getElem hi2
   have hin:(Sum.inl ns[i]:Key)∈ds.map (Sum.inl:Int→Key)↔ns[i]∈ds:=by
    rw[mem_map]
    exact⟨λ⟨m,hm,e⟩=>by cases e; exact hm,λh=>⟨_,h,rfl⟩⟩
   by_cases hm:ns[i]∈ds
   ·refine⟨ds,?_,nd,λn=>?_,by lia⟩
    ·unfold SK.dd
     rw[e,ev,if_pos (hin.mpr hm)]
    rw[htk,mem_append,mem_singleton,me n]
    exact⟨.inl,λz=>z.elim id λz=>by rw[z]; exact(me _).mp hm⟩
   refine⟨ds ++ [ns[i]],?_,Zil nd hm,λn=>?_,by rw[length_append]; exact Nat.succ_le_succ le⟩
   ·unfold SK.dd
    rw[e,ev,if_neg λz=>hm (hin.mp z),map_append]
    rfl
   rw[htk,mem_append,mem_append,me n]
 obtain⟨ds,e,nd,me,le⟩:=go ns.length (Nat.le_refl _)
 rw[take_length]at me
 exact⟨ds,e,nd,me,le⟩
inductive spSetOf (K:W.Frag) (vs:List V) (H:Hp) (Q:VK) (E0_:XK):Prop
 | mk (a:Addr) (ns:List Int) (c0:vs=[.ref a]) (c1:SqL K H a (ns.map V.int)) (c2:Wd ns) (c3:Q (.int (bt ns:Nat)) H):spSetOf K vs H Q E0_
inductive spWof (vs:List V) (H:Hp) (Q:VK) (E0_:XK):Prop
 | mk (m:Nat) (c0:vs=[.int (m:Nat)]) (c1:m < 2 ^ 200) (c2:∀(l:Addr) (H':Hp),Same H H'→H l=none→H' l=some (.lst ((wl m).map V.int))→Q (.ref l) H'):spWof  vs H Q E0_
noncomputable def headV:List Int→V
 | []=>.non
 | n :: _=>.int n
inductive spLeast (vs:List V) (H:Hp) (Q:VK) (E0_:XK):Prop
 | mk (m:Nat) (c0:vs=[.int (m:Nat)]) (c1:m < 2 ^ 200) (c2:∀(H':Hp),Same H H'→Q (headV (wl m)) H'):spLeast  vs H Q E0_
inductive spIn (vs:List V) (H:Hp) (Q:VK) (E0_:XK):Prop
 | mk (i j:Int) (c0:vs=[.int i,.int j]) (c1:Q (.bl (decide (V.int (Builtin.bitAnd i j)=V.int i))) H):spIn  vs H Q E0_
inductive spOut (vs:List V) (H:Hp) (Q:VK) (E0_:XK):Prop
 | mk (i j:Int) (c0:vs=[.int i,.int j]) (c1:Q (.int (Builtin.bitXor i (Builtin.bitAnd i j))) H):spOut  vs H Q E0_
inductive spLaw (K:W.Frag) (vs:List V) (H:Hp) (Q:VK) (E0_:XK):Prop
 | mk (a:Addr) (ns:List Int) (c0:vs=[.ref a]) (c1:SqL K H a (ns.map V.int)) (c2:ns.length≤63) (c3:∀H',Q (.bl true) H'):spLaw K vs H Q E0_
noncomputable abbrev Zf7:List Str:=["worlds"]
noncomputable abbrev nSetOf:List Str:=["worlds", "some", "world"]
theorem scSetOf:FnScope nSetOf Zf7 (Zab Zeo):=⟨rfl,rfl,rfl,by decide +kernel,rfl,by decide +kernel,by decide +kernel⟩
noncomputable abbrev Zdb:List Str:=["some"]
noncomputable abbrev nWorldsOf:List Str:=["some"]
theorem scWorldsOf:FnScope nWorldsOf Zdb (Zab Zbn):=⟨rfl,rfl,rfl,by decide +kernel,rfl,by decide +kernel,by decide +kernel⟩
noncomputable abbrev Zgn:List Str:=["some"]
noncomputable abbrev nLeastOf:List Str:=["some", "worlds"]
theorem scLeastOf:FnScope nLeastOf Zgn (Zab Zc1):=⟨rfl,rfl,rfl,by decide +kernel,rfl,by decide +kernel,by decide +kernel⟩
noncomputable abbrev Zcg:List Str:=["one", "other"]
noncomputable abbrev nWithin:List Str:=["one", "other"]
theorem scWithin:FnScope nWithin Zcg (Zab Zcf):=⟨rfl,rfl,rfl,by decide +kernel,rfl,by decide +kernel,by decide +kernel⟩
noncomputable abbrev Zgk:List Str:=["one", "other"]
noncomputable abbrev nWithout:List Str:=["one", "other"]
theorem scWithout:FnScope nWithout Zgk (Zab Zcz):=⟨rfl,rfl,rfl,by decide +kernel,rfl,by decide +kernel,by decide +kernel⟩
noncomputable abbrev Zf8:List Str:=["_law_some"]
noncomputable abbrev nLList:List Str:=["_law_some"]
theorem scLList:FnScope nLList Zf8 (Zab Zd2):=⟨rfl,rfl,rfl,by decide +kernel,rfl,by decide +kernel,by decide +kernel⟩
noncomputable abbrev Zku:List Str:=["_law_script", "_law_k", "_law_answers"]
noncomputable abbrev nLTold:List Str:=["_law_script", "_law_k", "_law_answers"]
theorem scLTold:FnScope nLTold Zku (Zab Zfv):=⟨rfl,rfl,rfl,by decide +kernel,rfl,by decide +kernel,by decide +kernel⟩
noncomputable abbrev pLaw:List Str:=["_law_script"]
noncomputable abbrev nLaw:List Str:=["_law_script", "_law_many_here", "_law_data", "_law_some", "_law_most", "_law_errand", "_law_due", "_law_other"]
theorem scLaw:FnScope nLaw pLaw (Zab sLaw):=⟨rfl,rfl,rfl,by decide +kernel,rfl,by decide +kernel,by decide +kernel⟩
theorem ok_setof {f:Addr}{fd:FuncData}(F:Fun K "set_of" "set_of" Zeo f fd):FnOk P w K mg base CX0 1 f fd Zf7 (spSetOf K):=by
 refine F.ok scSetOf (λvs H Q E h=>?_) (λcdv A outer s H vs Q E hr h=>?_)
 ·obtain⟨a,ns,rfl,_⟩:=h
  rfl
 obtain⟨a,ns,rfl,hS,wd,q⟩:=h
 refine⟨_,(Zad (Zas (i:=1) scSetOf.nd rfl (Or.inl rfl) Zah)
  (Zad (Zba PassesOwn.never rfl (Zaz (pv 0)) (Zao (i:=2) scSetOf.nd rfl (Or.inl rfl))
   (Zaf (Zas (i:=1) scSetOf.nd rfl (Or.inl rfl) (Zaw Zjg (pv 1) (Zaw Zd8 Zah (pv 2))))))
  (Zaf (Zan (pv 1))))),?_⟩
 refine⟨_,rfl,a,rfl,⟨_,hS⟩,Za5 (K:=K) (a:=a) (xs:=ns.map V.int) (λi σ H2=>∃v2:Option V,σ = [some (.ref a),some (.int (bt (ns.take i):Nat)),v2]∧H2=H) ⟨none,rfl,rfl⟩ (λi σ H2 _ hh0=>by obtain⟨_,_,e⟩:=hh0; rw[e]; exact hS) ?_ ?_⟩
 ·rintro i x σ H2 hx ⟨v2,rfl,e⟩
  rw[getElem?_map]at hx
  obtain⟨n,en,rfl⟩:=map_eq_some_iff.mp hx
  have hi:i < ns.length:=(List.getElem?_eq_some_iff.mp en).1
  have hni:ns[i]=n:=(List.getElem?_eq_some_iff.mp en).2
  have hw:=wd n (mem_of_getElem? en)
  have key:Builtin.bitOr ((bt (ns.take i):Nat):Int) (1 * 2 ^ n.toNat)=((bt (ns.take (i + 1)):Nat):Int):=by
   rw[take_succ_eq_append_getElem hi,hni,Zix,one_mul,Zh2,Zga]
  refine⟨_,rfl,_,rfl,_,_,rfl,rfl,⟨hw.1,by lia,by decide⟩,_,_,rfl,rfl,?_⟩
  exact⟨some (.int n),by rw[← key]; rfl,e⟩
 rintro σ H2 ⟨v2,rfl,e⟩
 rw[show(ns.map V.int).length=ns.length from length_map ..,take_length,e]
 exact⟨_,rfl,q⟩
structure Mc (mg:Str→Option Value):Prop where
 mw:∃t,mg "MOST_WORLDS" = some (.int 200 t)
 ms:∃t,mg "MOST_STEPS" = some (.int 40 t)
 mn:∃t,mg "MOST_SIGNS" = some (.int 30 t)
 mp:∃t,mg "MOST_PRICE" = some (.int 1000000000 t)
inductive StV (H:Hp) (v:V) (n:Str) (p:Int) (t:Addr):Prop
 | mk (a:Addr) (e:v=.ref a) (h:H a=some (.tup [.str n,.int p,.ref t])):StV H v n p t
theorem StV.same {H H':Hp}{v:V}{n:Str}{p:Int}{t:Addr}(s:Same H H') (h:StV H v n p t):StV H' v n p t:=by
 obtain⟨a,e,h⟩:=h
 exact⟨a,e,s _ _ h⟩
structure A2 {α:Type}(R:V→α→Prop) (vs:List V) (ts:List α):Prop where
 len:vs.length=ts.length
 got:∀(i:Nat) v t,vs[i]? = some v→ts[i]? = some t→R v t
theorem A2.mono {α:Type}{R S:V→α→Prop}{vs:List V}{ts:List α}(h:A2 R vs ts) (m:∀v t,v∈vs→R v t→S v t):A2 S vs ts:=⟨h.len,λi v t hv ht=>m v t (mem_of_getElem? hv) (h.got i v t hv ht)⟩
theorem A2.at {α:Type}{R:V→α→Prop}{vs:List V}{ts:List α}(h:A2 R vs ts) {i:Nat}{v:V}(hv:vs[i]? = some v):∃t,ts[i]? = some t∧t∈ts∧R v t:=by
 have hl:=(List.getElem?_eq_some_iff.mp hv).1
 have hl2:i < ts.length:=by rw[← h.len]; exact hl
 exact⟨ts[i],getElem?_eq_getElem hl2,getElem_mem hl2,h.got i v _ hv (getElem?_eq_getElem hl2)⟩
theorem A2.app {α:Type}{R:V→α→Prop}{vs vs':List V}{ts ts':List α}(h:A2 R vs ts) (h':A2 R vs' ts'):A2 R (vs ++ vs') (ts ++ ts'):=⟨by rw[length_append,length_append,h.len,h'.len],λi v t hv ht=>by
 by_cases hi:i < vs.length
 ·rw[getElem?_append_left hi]at hv
  rw[getElem?_append_left (by rw[← h.len]; exact hi)]at ht
  exact h.got i v t hv ht
 rw[getElem?_append_right (by lia)]at hv
 rw[getElem?_append_right (by rw[← h.len]; lia),← h.len]at ht
 exact h'.got _ v t hv ht⟩
structure Dee where
 name:Str
 price:Int
 tab:List (List Int)
structure Loo where
 name:Str
 price:Int
 tab:List (Option Str)
noncomputable def oS:Option Str→V
 | none=>.non
 | some x=>.str x
inductive EnV (H:Hp) (v:V) (ns:List Int):Prop
 | mk (b:Addr) (e:v=.ref b) (h:H b=some (.lst (ns.map V.int))):EnV H v ns
inductive DeV (H:Hp) (v:V) (d:Dee):Prop
 | mk (t:Addr) (es:List V) (s:StV H v d.name d.price t) (ht:H t=some (.lst es)) (he:A2 (EnV H) es d.tab):DeV H v d
inductive LoV (H:Hp) (v:V) (l:Loo):Prop
 | mk (t:Addr) (s:StV H v l.name l.price t) (ht:H t=some (.lst (l.tab.map oS))):LoV H v l
theorem EnV.same {H H':Hp}{v:V}{ns:List Int}(s:Same H H') (h:EnV H v ns):EnV H' v ns:=by
 obtain⟨b,e,h⟩:=h
 exact⟨b,e,s _ _ h⟩
theorem DeV.same {H H':Hp}{v:V}{d:Dee}(s:Same H H') (h:DeV H v d):DeV H' v d:=by
 obtain⟨t,es,st,ht,he⟩:=h
 exact⟨t,es,st.same s,s _ _ ht,he.mono λv t _ r=>r.same s⟩
theorem LoV.same {H H':Hp}{v:V}{l:Loo}(s:Same H H') (h:LoV H v l):LoV H' v l:=by
 obtain⟨t,st,ht⟩:=h
 exact⟨t,st.same s,s _ _ ht⟩
inductive spCheckMany (vs:List V) (H:Hp) (Q:VK) (E0_:XK):Prop
 | mk (m:Int) (c0:vs=[.int m]) (c1:1≤m) (c2:m≤200) (c3:Q .non H):spCheckMany  vs H Q E0_
inductive spCheckName (vs:List V) (H:Hp) (Q:VK) (E0_:XK):Prop
 | mk (x:Str) (c0:vs=[.str x]) (c1:1≤x.length) (c2:x.length≤30) (c3:Q .non H):spCheckName  vs H Q E0_
inductive spCheckPrice (vs:List V) (H:Hp) (Q:VK) (E0_:XK):Prop
 | mk (p:Int) (c0:vs=[.int p]) (c1:1≤p) (c2:p≤1000000000) (c3:Q .non H):spCheckPrice  vs H Q E0_
inductive spCheckTable (vs:List V) (H:Hp) (Q:VK) (E0_:XK):Prop
 | mk (m:Int) (n:V) (t:Addr) (xs:List V) (c0:vs=[.int m,n,.ref t]) (c1:H t=some (.lst xs)) (c2:(xs.length:Int)=m) (c3:Q .non H):spCheckTable  vs H Q E0_
inductive spCheckEntry (vs:List V) (H:Hp) (Q:VK) (E0_:XK):Prop
 | mk (m:Int) (n:V) (b:Addr) (ns:List Int) (c0:vs=[.int m,n,.ref b]) (c1:H b=some (.lst (ns.map V.int))) (c2:ns.Pairwise (· < ·)) (c3:(∀x∈ns,0≤x∧x < m)) (c4:ns.length≤60) (c5:∀H':Hp,Same H H'→Q .non H'):spCheckEntry  vs H Q E0_
noncomputable abbrev Zem:List Str:=["many"]
noncomputable abbrev nCheckMany:List Str:=["many"]
theorem scCheckMany:FnScope nCheckMany Zem (Zab Zby):=⟨rfl,rfl,rfl,by decide +kernel,rfl,by decide +kernel,by decide +kernel⟩
noncomputable abbrev Zel:List Str:=["name"]
noncomputable abbrev nCheckName:List Str:=["name"]
theorem scCheckName:FnScope nCheckName Zel (Zab Zbx):=⟨rfl,rfl,rfl,by decide +kernel,rfl,by decide +kernel,by decide +kernel⟩
noncomputable abbrev Zdp:List Str:=["price"]
noncomputable abbrev nCheckPrice:List Str:=["price"]
theorem scCheckPrice:FnScope nCheckPrice Zdp (Zab Zbh):=⟨rfl,rfl,rfl,by decide +kernel,rfl,by decide +kernel,by decide +kernel⟩
noncomputable abbrev Zcc:List Str:=["many", "name", "table"]
noncomputable abbrev nCheckTable:List Str:=["many", "name", "table"]
theorem scCheckTable:FnScope nCheckTable Zcc (Zab Zbc):=⟨rfl,rfl,rfl,by decide +kernel,rfl,by decide +kernel,by decide +kernel⟩
noncomputable abbrev Zdq:List Str:=["many", "name", "entry"]
noncomputable abbrev nCheckEntry:List Str:=["many", "name", "entry"]
theorem scCheckEntry:FnScope nCheckEntry Zdq (Zab Zbe):=⟨rfl,rfl,rfl,by decide +kernel,rfl,by decide +kernel,by decide +kernel⟩
noncomputable abbrev Zdo:List Str:=["deeds", "looks"]
noncomputable abbrev nCheckSteps:List Str:=["deeds", "looks", "steps", "names", "step"]
theorem scCheckSteps:FnScope nCheckSteps Zdo (Zab Zbd):=⟨rfl,rfl,rfl,by decide +kernel,rfl,by decide +kernel,by decide +kernel⟩
structure StOk (s:Str×Int):Prop where
 n1:1≤s.1.length
 n2:s.1.length≤30
 p1:1≤s.2
 p2:s.2≤1000000000
inductive spCheckSteps (vs:List V) (H:Hp) (Q:VK) (E0_:XK):Prop
 | mk (a b:Addr) (ds ls:List V) (st:List (Str×Int)) (c0:vs=[.ref a,.ref b]) (c1:H a=some (.lst ds)) (c2:H b=some (.lst ls)) (c3:A2 (λv s=>∃t,StV H v s.1 s.2 t) (ds ++ ls) st) (c4:ds.length≤40) (c5:ls.length≤40) (c6:(st.map (·.1)).Nodup) (c7:(∀s∈st,StOk s)) (c8:∀H':Hp,Same H H'→Q .non H'):spCheckSteps  vs H Q E0_
structure KA {α:Type}(nm:α→Str) (R:V→α→Prop) (kvs:List (Key×V)) (ds:List α):Prop where
 len:kvs.length=ds.length
 got:∀(i:Nat) kv d,kvs[i]? = some kv→ds[i]? = some d→kv.1=Sum.inr (nm d)∧R kv.2 d
theorem KA.nil {α:Type}{nm:α→Str}{R:V→α→Prop}:KA nm R [] []:=⟨rfl,λi kv d h _=>by cases h⟩
theorem KA.mono {α:Type}{nm:α→Str}{R S:V→α→Prop}{kvs:List (Key×V)}{ds:List α}(h:KA nm R kvs ds) (m:∀v d,d∈ds→R v d→S v d):KA nm S kvs ds:=⟨h.len,λi kv d h1 h2=>⟨(h.got i kv d h1 h2).1,m _ _ (mem_of_getElem? h2) (h.got i kv d h1 h2).2⟩⟩
theorem KA.snoc {α:Type}{nm:α→Str}{R:V→α→Prop}{kvs:List (Key×V)}{ds:List α}{d:α}{v:V}(h:KA nm R kvs ds) (r:R v d):KA nm R (kvs ++ [(Sum.inr (nm d),v)]) (ds ++ [d]):=⟨by simp[h.len],λi kv x hk hx=>by
 by_cases hi:i < kvs.length
 ·rw[getElem?_append_left hi]at hk
  rw[getElem?_append_left (by rw[← h.len]; exact hi)]at hx
  exact h.got i kv x hk hx
 rw[getElem?_append_right (by lia)]at hk
 rw[getElem?_append_right (by rw[← h.len]; lia),← h.len]at hx
 have h0:i - kvs.length=0:=by
  have:=(List.getElem?_eq_some_iff.mp hk).1
  simp at this
  lia
 rw[h0]at hk hx
 cases hk
 cases hx
 exact⟨rfl,r⟩⟩
theorem KA.keysE {α:Type}{nm:α→Str}{R:V→α→Prop}{kvs:List (Key×V)}{ds:List α}(h:KA nm R kvs ds):kvs.map (·.1)=ds.map λd=>(Sum.inr (nm d):Key):=by
 apply List.ext_getElem?
 intro i
 rw[getElem?_map,getElem?_map]
 cases hk:kvs[i]? with
 | none=>
  have:kvs.length≤i:=List.getElem?_eq_none_iff.mp hk
  rw[getElem?_eq_none (by rw[← h.len]; exact this)]
  rfl
 | some kv=>
  have hl:=(List.getElem?_eq_some_iff.mp hk).1
  have hl2:i < ds.length:=by rw[← h.len]; exact hl
  rw[getElem?_eq_getElem hl2]
  show some kv.1=some _
  rw[(h.got i kv _ hk (getElem?_eq_getElem hl2)).1]
theorem KA.none {α:Type}{nm:α→Str}{R:V→α→Prop}{kvs:List (Key×V)}{ds:List α}(h:KA nm R kvs ds) {x:Str}(hx:x∉ds.map nm):valV kvs (Sum.inr x:Key)=none:=by
 cases e:valV kvs (Sum.inr x:Key)with
 | none=>rfl
 | some v=>
  exfalso
  have:=Zhx e
  rw[h.keysE]at this
  obtain⟨d,hd,ed⟩:=mem_map.mp this
  exact hx (mem_map.mpr ⟨d,hd,Sum.inr.inj ed⟩)
theorem Zlw {kvs:List (Key×V)}(nd:(kvs.map (·.1)).Nodup) {i:Nat}{kv:Key×V}(h:kvs[i]? = some kv):valV kvs kv.1=some kv.2:=by
 induction (kvs) generalizing i with
 | nil=>cases h
 | cons p r ih=>
  rw[map_cons]at nd
  (obtain⟨n1,n2⟩:=nodup_cons.mp nd)
  cases i with
  | zero=>
   cases h
   exact Zbp rfl
  | succ i=>
   have h':r[i]? = some kv:=h
   rw[Zbq (λe=>n1 (by rw[e]; exact mem_map.mpr ⟨kv,mem_of_getElem? h',rfl⟩))]
   exact ih n2 h'
theorem KA.val {α:Type}{nm:α→Str}{R:V→α→Prop}{kvs:List (Key×V)}{ds:List α}(h:KA nm R kvs ds) (nd:(ds.map nm).Nodup) {d:α}(hd:d∈ds):∃v,valV kvs (Sum.inr (nm d):Key)=some v∧R v d:=by
 obtain⟨i,hi⟩:=getElem?_of_mem hd
 have hl:=(List.getElem?_eq_some_iff.mp hi).1
 have hl2:i < kvs.length:=by rw[h.len]; exact hl
 have hk:kvs[i]? = some kvs[i]:=getElem?_eq_getElem hl2
 obtain⟨e,r⟩:=h.got i _ d hk hi
 refine⟨kvs[i].2,?_,r⟩
 rw[← e]
 refine Zlw ?_ hk
 rw[h.keysE]
 have:(ds.map λd=>(Sum.inr (nm d):Key))=(ds.map nm).map Sum.inr:=by rw[map_map]; rfl
 rw[this]
 exact pairwise_map.mpr (List.Pairwise.imp (λh e=>h (Sum.inr.inj e)) nd)
inductive OuV (H:Hp) (v:V) (d:Dee):Prop
 | mk (t:Addr) (e:v=.ref t) (h:H t=some (.tup (d.tab.map λn=>V.int (bt n:Nat)))):OuV H v d
inductive AnV (H:Hp) (v:V) (l:Loo):Prop
 | mk (t:Addr) (e:v=.ref t) (h:H t=some (.tup (l.tab.map oS))):AnV H v l
structure DeOk (many:Nat) (d:Dee):Prop where
 len:d.tab.length=many
 up:∀e∈d.tab,e.Pairwise (· < ·)
 inn:∀e∈d.tab,∀x∈e,0≤x∧x < (many:Int)
 few:∀e∈d.tab,e.length≤60
theorem DeOk.wd {many:Nat}{d:Dee}(h:DeOk many d) (m:many≤200):∀e∈d.tab,Wd e:=λe he n hn=>⟨(h.inn e he n hn).1,by have:=(h.inn e he n hn).2; lia⟩
inductive spReadDeeds (vs:List V) (H:Hp) (Q:VK) (E0_:XK):Prop
 | mk (m:Nat) (a:Addr) (us:List V) (ds:List Dee) (c0:vs=[.int (m:Int),.ref a]) (c1:m≤200) (c2:H a=some (.lst us)) (c3:A2 (DeV H) us ds) (c4:(∀d∈ds,DeOk m d)) (c5:(ds.map Dee.name).Nodup) (c6:ds.length≤40) (c7:∀(d:Addr) (kvs:List (Key×V)) (H':Hp),Same H H'→H d=none→H' d=some (.dK kvs)→KA Dee.name (OuV H') kvs ds→Q (.ref d) H'):spReadDeeds  vs H Q E0_
inductive spReadLooks (vs:List V) (H:Hp) (Q:VK) (E0_:XK):Prop
 | mk (m:Nat) (a:Addr) (us:List V) (ls:List Loo) (c0:vs=[.int (m:Int),.ref a]) (c1:m≤200) (c2:H a=some (.lst us)) (c3:A2 (LoV H) us ls) (c4:(∀l∈ls,l.tab.length=m)) (c5:(ls.map Loo.name).Nodup) (c6:ls.length≤40) (c7:∀(d:Addr) (kvs:List (Key×V)) (H':Hp),Same H H'→H d=none→H' d=some (.dK kvs)→KA Loo.name (AnV H') kvs ls→Q (.ref d) H'):spReadLooks  vs H Q E0_
noncomputable abbrev Zeh:List Str:=["many", "deeds"]
noncomputable abbrev nReadDeeds:List Str:=["many", "deeds", "found", "deed", "name", "table", "entry"]
theorem scReadDeeds:FnScope nReadDeeds Zeh (Zab Zbk):=⟨rfl,rfl,rfl,by decide +kernel,rfl,by decide +kernel,by decide +kernel⟩
noncomputable abbrev Zeg:List Str:=["many", "looks"]
noncomputable abbrev nReadLooks:List Str:=["many", "looks", "found", "look"]
theorem scReadLooks:FnScope nReadLooks Zeg (Zab Zbu):=⟨rfl,rfl,rfl,by decide +kernel,rfl,by decide +kernel,by decide +kernel⟩
theorem OuV.keep {H H':Hp}{v:V}{d:Dee}(k:∀b xs,H b=some (.tup xs)→H' b=some (.tup xs)) (h:OuV H v d):OuV H' v d:=by
 obtain⟨t,e,h⟩:=h
 exact⟨t,e,k _ _ h⟩
theorem AnV.keep {H H':Hp}{v:V}{l:Loo}(k:∀b xs,H b=some (.tup xs)→H' b=some (.tup xs)) (h:AnV H v l):AnV H' v l:=by
 obtain⟨t,e,h⟩:=h
 exact⟨t,e,k _ _ h⟩
theorem ok_checkmany {f:Addr}{fd:FuncData}(F:Fun K "check_many" "check_many" Zby f fd) (M:Mc mg):FnOk P w K mg base CX0 1 f fd Zem spCheckMany:=by
 obtain⟨t1,m1⟩:=M.mw
 refine F.ok scCheckMany (λvs H Q E h=>?_) (λcdv A outer s H vs Q E hr h=>?_)
 ·obtain⟨m,rfl,_⟩:=h
  rfl
 obtain⟨m,rfl,h1,h2,q⟩:=h
 refine⟨_,(Zaf (Za4 (Zg1 (Zh0 Zj7 Zj7 Zah (pv 0) (Zfg (v:=.int 200) (by rfl) m1 ⟨_,rfl⟩))) Zb1 Zar)),?_⟩
 refine⟨_,rfl,_,_,rfl,rfl,_,rfl,?_⟩
 rw[decide_eq_true h1]
 refine iteT ?_
 refine⟨_,_,rfl,rfl,_,rfl,?_⟩
 rw[decide_eq_true h2]
 exact iteF q
theorem ok_checkname {f:Addr}{fd:FuncData}(F:Fun K "check_name" "check_name" Zbx f fd) (T:Bl mg) (M:Mc mg):FnOk P w K mg base CX0 1 f fd Zel spCheckName:=by
 obtain⟨t1,m1⟩:=M.mn
 refine F.ok scCheckName (λvs H Q E h=>?_) (λcdv A outer s H vs Q E hr h=>?_)
 ·obtain⟨x,rfl,_⟩:=h
  rfl
 obtain⟨x,rfl,h1,h2,q⟩:=h
 have hsl:sizeLine=16777216:=sizeLine_eq
 refine⟨_,(Zaf (Za4 (Zg1 (Zh0 Zj7 Zj7 Zah (Za0 Zds (by rfl) T.len PySem.boot_len (Zaa (pv 0) Zae)) (Zfg (v:=.int 30) (by rfl) m1 ⟨_,rfl⟩))) Zb1 Zar)),?_⟩
 refine⟨_,rfl,_,_,rfl,⟨by lia,rfl⟩,_,_,rfl,rfl,_,rfl,?_⟩
 rw[decide_eq_true (show(1:Int)≤(x.length:Int) by lia)]
 refine iteT ?_
 refine⟨_,_,rfl,rfl,_,rfl,?_⟩
 rw[decide_eq_true (show(x.length:Int)≤30 by lia)]
 exact iteF q
theorem ok_checkprice {f:Addr}{fd:FuncData}(F:Fun K "check_price" "check_price" Zbh f fd) (M:Mc mg):FnOk P w K mg base CX0 1 f fd Zdp spCheckPrice:=by
 obtain⟨t1,m1⟩:=M.mp
 refine F.ok scCheckPrice (λvs H Q E h=>?_) (λcdv A outer s H vs Q E hr h=>?_)
 ·obtain⟨m,rfl,_⟩:=h
  rfl
 obtain⟨m,rfl,h1,h2,q⟩:=h
 refine⟨_,(Zaf (Za4 (Zg1 (Zh0 Zj7 Zj7 Zah (pv 0) (Zfg (v:=.int 1000000000) (by rfl) m1 ⟨_,rfl⟩))) Zb1 Zar)),?_⟩
 refine⟨_,rfl,_,_,rfl,rfl,_,rfl,?_⟩
 rw[decide_eq_true h1]
 refine iteT ?_
 refine⟨_,_,rfl,rfl,_,rfl,?_⟩
 rw[decide_eq_true h2]
 exact iteF q
theorem ok_checktable {f:Addr}{fd:FuncData}(F:Fun K "check_table" "check_table" Zbc f fd) (T:Bl mg):FnOk P w K mg base CX0 1 f fd Zcc spCheckTable:=by
 refine F.ok scCheckTable (λvs H Q E h=>?_) (λcdv A outer s H vs Q E hr h=>?_)
 ·obtain⟨m,n,t,xs,rfl,_⟩:=h
  rfl
 obtain⟨m,n,t,xs,rfl,ht,hm,q⟩:=h
 refine⟨_,(Zaf (Za4 (Zau Zm8 (Za0 Zds (by rfl) T.len PySem.boot_len (Zaa (pv 2) Zae)) (pv 0) (Zay _)) Zb1 Zar)),?_⟩
 refine⟨_,rfl,_,_,rfl,.inl ⟨_,SqL.of ht,rfl⟩,_,rfl,rfl,_,rfl,?_⟩
 rw[hm]
 refine ite2 (λz=>?_) (λ_=>q)
 simp at z
theorem ok_checkentry {f:Addr}{fd:FuncData}(F:Fun K "check_entry" "check_entry" Zbe f fd) (T:Bl mg):FnOk P w K mg base CX0 1 f fd Zdq spCheckEntry:=by
 refine F.ok scCheckEntry (λvs H Q E h=>?_) (λcdv A outer s H vs Q E hr h=>?_)
 ·obtain⟨m,n,b,ns,rfl,_⟩:=h
  rfl
 obtain⟨m,n,b,ns,rfl,hb,hp,hx,hl,q⟩:=h
 have hun:=hr.units
 have hsl:sizeLine=16777216:=sizeLine_eq
 refine⟨_,(Zad (Za4 (Zau (op_neLD hun) (Za2 Zbj (by rfl) T.list Zcx (Zaa (pv 2) Zae)) (Za0 (Zgd rfl) (by rfl) T.sorted Zfc (Zaa (Za2 (Zjx rfl) (by rfl) T.set Zmz (Zaa (pv 2) Zae)) Zae)) (Zay _)) Zb1 Zar)
  (Zaf (Za4 (Zg1 (Zcs (Za0 (Zll rfl) (by rfl) T.all Znw (Zaa (Zdv (N:=["world", "many"]) (sc:=Zab Zbe) (own:=["world"]) (fr:=["many"]) (js:=[0]) ⟨rfl,rfl,rfl,rfl,by decide +kernel,by decide +kernel,by decide +kernel,rfl,by decide +kernel⟩ rfl (Zaz (pv 2)) (λ_ _ _ _=>Zao (i:=0) (show List.Nodup (["world", "many"]:List Str) by decide +kernel) rfl (Or.inl rfl)) (λ_ _ _ _=>Zbs) (λ_ _ _ _=>(pe_chain Zj7 Zik Zah (pv 0) (pv 1)))) Zae)))) Zb1 Zar))),?_⟩
 refine⟨_,rfl,b,_,rfl,.inl (SqL.of hb),λl1 hl1=>?_⟩
 have s1:Same H (upd H l1 (.lst (ns.map V.int))):=Same.new hl1
 have e1:(upd H l1 (.lst (ns.map V.int))) l1=some (.lst (ns.map V.int)):=Zac
 generalize (upd H l1 (.lst (ns.map V.int)))=H1 at s1 e1 ⊢
 have hb1:=s1 _ _ hb
 obtain⟨ds,ed,nd,me,ld⟩:=Zmw ns
 have ek:ns.map V.int=(ns.map (Sum.inl:Int→Key)).map kV:=by rw[map_map]; rfl
 refine⟨_,rfl,b,ns.map Sum.inl,rfl,SqL.of (by rw[← ek]; exact hb1),by rw[length_map]; lia,λst hst=>?_⟩
 rw[ed]
 have s2:Same H1 (upd H1 st (setG P w st (ds.map Sum.inl))):=Same.new hst
 refine⟨st,ds,rfl,Zac,nd,by lia,λl2 zs hl2 pm so=>?_⟩
 have hz:zs=ns:=by
  have pn:ds.Perm ns:=(perm_ext_iff_of_nodup nd (hp.imp λh=>Int.ne_of_lt h)).mpr me
  exact List.Perm.eq_of_pairwise (le:=(·≤·)) (λa b _ _ h1 h2=>by lia) so (hp.imp λh=>Int.le_of_lt h) (pm.trans pn)
 subst hz
 have s3:Same H1 (upd (upd H1 st (setG P w st (ds.map Sum.inl))) l2 (.lst (zs.map V.int))):=Same.put (H':=upd H1 st (setG P w st (ds.map Sum.inl))) (o:=.lst (zs.map V.int)) s2 (s2.free hl2)
 have e3:(upd (upd H1 st (setG P w st (ds.map Sum.inl))) l2 (.lst (zs.map V.int))) l2=some (.lst (zs.map V.int)):=Zac
 refine⟨l1,l2,_,_,_,_,rfl,rfl,s3 _ _ e1,e3,Zes _,Zes _,Zfe _,Zfe _,_,rfl,?_⟩
 rw[Zld]
 refine iteF ?_
 have hb2:=s3 _ _ hb1
 refine⟨_,rfl,b,rfl,⟨_,SqL.of hb2⟩,λD hD=>?_⟩
 refine lcJ (n:=zs.length) (λi ys H3=>ys=(replicate i true).map V.bl∧Same (upd (upd H1 st (setG P w st (ds.map Sum.inl))) l2 (.lst (zs.map V.int))) H3∧H3 D=some (.lst ys)) ⟨rfl,Same.new hD,Zac⟩
  (λi ys H3 hi hh0=>by obtain⟨_,s4,_⟩:=hh0; exact⟨_,.int zs[i],SqL.of (s4 _ _ hb2),by simp[hi]⟩) (λys H3 hh0=>by obtain⟨_,s4,_⟩:=hh0; exact⟨_,SqL.of (s4 _ _ hb2),by simp⟩) ?_ ?_
 ·rintro i ys H3 y H4 hi ⟨rfl,s4,e4⟩ ⟨rfl,hy⟩
  refine Zce ?_
  have hy2:y=.int zs[i]:=by
   have:=hy _ (SqL.of (s4 _ _ hb2))
   rw[getElem?_map,getElem?_eq_getElem hi]at this
   (exact(Option.some.inj this).symm)
  subst hy2
  obtain⟨x0,x1⟩:=hx _ (getElem_mem hi)
  refine⟨_,rfl,_,_,rfl,rfl,_,rfl,?_⟩
  rw[decide_eq_true x0]
  refine iteT ?_
  refine⟨_,rfl,_,_,rfl,rfl,?_⟩
  rw[decide_eq_true x1]
  refine⟨_,e4,by rw[length_map,length_replicate]; lia,?_,s4.put hD,Zac⟩
  rw[List.replicate_succ',map_append]
  rfl
 rintro ys H3 ⟨rfl,s4,e4⟩
 refine⟨D,_,rfl,SqL.of e4,_,rfl,?_⟩
 rw[show(replicate zs.length true).all (λb=>b)=true from all_eq_true.mpr λb hb=>(List.mem_replicate.mp hb).2]
 exact iteF (q H3 ((s1.trans s3).trans s4))
theorem ok_checksteps {f f1 f2:Addr}{fd d1 d2:FuncData}(F:Fun K "check_steps" "check_steps" Zbd f fd) (T:Bl mg) (M:Mc mg) (D_check_name:Df K mg "check_name" Zbx Zel f1 d1) (G_check_name:FnOk P w K mg base CX0 1 f1 d1 Zel spCheckName) (D_check_price:Df K mg "check_price" Zbh Zdp f2 d2) (G_check_price:FnOk P w K mg base CX0 1 f2 d2 Zdp spCheckPrice):FnOk P w K mg base CX0 2 f fd Zdo spCheckSteps:=by
 obtain⟨t1,m1⟩:=M.ms
 refine F.ok scCheckSteps (λvs H Q E h=>?_) (λcdv A outer s H vs Q E hr1 h=>?_)
 ·obtain⟨a,b,ds,ls,st,rfl,_⟩:=h
  rfl
 obtain⟨a,b,ds,ls,st,rfl,ha,hb,hst,fd',fl,nd,ok,q⟩:=h
 have hsl:sizeLine=16777216:=sizeLine_eq
 refine⟨_,(Zad (Za4 (PW.pt (Zn2 (Zau Zm9 (Za0 Zds (by rfl) T.len PySem.boot_len (Zaa (pv 0) Zae)) (Zfg (v:=.int 40) (by rfl) m1 ⟨_,rfl⟩) (Zay _)) (Zl4 (Zau Zm9 (Za0 Zds (by rfl) T.len PySem.boot_len (Zaa (pv 1) Zae)) (Zfg (v:=.int 40) (by rfl) m1 ⟨_,rfl⟩) (Zay _))))) Zb1 Zar)
  (Zad (Zas (i:=2) scCheckSteps.nd rfl (Or.inl rfl) (Zaw Zme (Za2 Zbj (by rfl) T.list Zcx (Zaa (pv 0) Zae)) (Za2 Zbj (by rfl) T.list Zcx (Zaa (pv 1) Zae))))
  (Zad (Zm5 (i:=3) (N:=["step"]) (sc:=Zab Zbd) (own:=["step"]) (fr:=[]) (js:=[]) scCheckSteps.nd rfl rfl ⟨rfl,rfl,rfl,rfl,by decide +kernel,by decide +kernel,by decide +kernel,rfl,by decide +kernel⟩ rfl (Zaz (pv 2)) (λ_ _ _ _=>Zao (i:=0) (show List.Nodup (["step"]:List Str) by decide +kernel) rfl (Or.inl rfl)) (λ_ _ _ _=>Zbs) (λ_ _ _ _=>(Za3 (Zez K rfl) (pv 0) Zah (λ_ _=>rfl))))
  (Zad (Za4 (Zau Zik (Za0 call_lenS (by rfl) T.len PySem.boot_len (Zaa (Za2 (call_setK rfl) (by rfl) T.set Zmz (Zaa (pv 3) Zae)) Zae)) (Za0 Zds (by rfl) T.len PySem.boot_len (Zaa (pv 3) Zae)) (Zay _)) Zb1 Zar)
  (Zaf (Zba PassesOwn.never rfl (Zaz (pv 2)) (Zao (i:=4) scCheckSteps.nd rfl (Or.inl rfl))
   (Zad (Za1 (Zai G_check_name hr1 (by rfl) D_check_name.m D_check_name.F.kp D_check_name.b .nil Zap (Zaa (Za3 Za6 (pv 4) Zah (λ_ _=>rfl)) Zae)))
  (Zaf (Za1 (Zai G_check_price hr1 (by rfl) D_check_price.m D_check_price.F.kp D_check_price.b .nil Zap (Zaa (Za3 Za6 (pv 4) Zah (λ_ _=>rfl)) Zae))))))))))),?_⟩
 refine⟨_,rfl,_,_,rfl,.inl ⟨_,SqL.of ha,rfl⟩,_,_,rfl,rfl,_,rfl,?_⟩
 refine ite2 (λz=>?_) (λ_=>?_)
 ·exfalso
  have:=of_decide_eq_true z
  lia
 refine⟨_,rfl,_,_,rfl,.inl ⟨_,SqL.of hb,rfl⟩,_,_,rfl,rfl,_,rfl,?_⟩
 refine ite2 (λz=>?_) (λ_=>?_)
 ·exfalso
  have:=of_decide_eq_true z
  lia
 refine⟨_,rfl,a,_,rfl,.inl (SqL.of ha),λl1 hl1=>?_⟩
 have s1:Same H (upd H l1 (.lst ds)):=Same.new hl1
 have e1:(upd H l1 (.lst ds)) l1=some (.lst ds):=Zac
 generalize (upd H l1 (.lst ds))=H1 at s1 e1 ⊢
 refine⟨_,rfl,b,_,rfl,.inl (SqL.of (s1 _ _ hb)),λl2 hl2=>?_⟩
 have s2:Same H1 (upd H1 l2 (.lst ls)):=Same.new hl2
 have e2:(upd H1 l2 (.lst ls)) l2=some (.lst ls):=Zac
 generalize (upd H1 l2 (.lst ls))=H2 at s2 e2 ⊢
 refine⟨l1,l2,_,_,rfl,rfl,s2 _ _ e1,e2,by lia,λl3 hl3=>?_⟩
 have s3:Same H2 (upd H2 l3 (.lst (ds ++ ls))):=Same.new hl3
 have e3:(upd H2 l3 (.lst (ds ++ ls))) l3=some (.lst (ds ++ ls)):=Zac
 generalize (upd H2 l3 (.lst (ds ++ ls)))=H3 at s3 e3 ⊢
 have s13:=(s1.trans s2).trans s3
 have hst3:=hst.mono λv s _ ⟨t,r⟩=>(⟨t,r.same s13⟩:∃t,StV H3 v s.1 s.2 t)
 have hsl2:=hst.len
 have hdl:(ds ++ ls).length≤80:=by rw[length_append]; lia
 generalize ds ++ ls=xs at e3 hst3 hsl2 hdl
 -- the names
 refine⟨_,rfl,l3,rfl,⟨_,SqL.of e3⟩,λD hD=>?_⟩
 refine lcJ (n:=xs.length) (λi ys H4=>ys=((st.take i).map (·.1)).map V.str∧Same H3 H4∧H4 D=some (.lst ys)) ⟨rfl,Same.new hD,Zac⟩
  (λi ys H4 hi hh0=>by obtain⟨_,s4,_⟩:=hh0; exact⟨_,xs[i],SqL.of (s4 _ _ e3),by simp[hi]⟩) (λys H4 hh0=>by obtain⟨_,s4,_⟩:=hh0; exact⟨_,SqL.of (s4 _ _ e3),by simp⟩) ?_ ?_
 ·rintro i ys H4 y H5 hi ⟨rfl,s4,e4⟩ ⟨rfl,hy⟩
  refine Zce ?_
  obtain⟨sp,hsp,hmem,t,a',rfl,et⟩:=hst3.at (hy _ (SqL.of (s4 _ _ e3)))
  have at0:atI [V.str sp.1,V.int sp.2,V.ref t] ((0:Nat):Int)=some (.str sp.1):=Zav rfl
  refine⟨_,rfl,a',_,_,_,rfl,rfl,SqT.of (s4 _ _ et),at0,_,e4,by simp only[length_map,length_take]; lia,?_,s4.put hD,Zac⟩
  obtain⟨hi2,e⟩:=List.getElem?_eq_some_iff.mp hsp
  rw[take_succ_eq_append_getElem hi2,map_append,map_append,e]
  rfl
 rintro ys H4 ⟨rfl,s4,e4⟩
 rw[hsl2,take_length]at e4
 have hnl:(st.map (·.1)).length=st.length:=length_map ..
 have ek:(st.map (·.1)).map V.str=((st.map (·.1)).map (Sum.inr:Str→Key)).map kV:=by
  rw[map_map,map_map,map_map]
  rfl
 have hdd:=set_len nd
 have hks:((st.map (·.1)).map (Sum.inr:Str→Key)).length=st.length:=by rw[length_map,length_map]
 refine⟨_,rfl,D,(st.map (·.1)).map Sum.inr,rfl,SqL.of (by rw[← ek]; exact e4),by lia,λst' hst'=>?_⟩
 have s5:Same H4 (upd H4 st' (setO P w st' (SK.dd (kAt ((st.map (·.1)).map (Sum.inr:Str→Key))) ((st.map (·.1)).map (Sum.inr:Str→Key)).length).length)):=Same.new hst'
 refine⟨st',_,rfl,Zac,_,rfl,_,_,rfl,.inl ⟨_,SqL.of (s5 _ _ e4),rfl⟩,_,_,rfl,rfl,_,rfl,?_⟩
 have hml:((st.map (·.1)).map V.str).length=(st.map (·.1)).length:=length_map ..
 refine ite2 (λhlt=>?_) (λ_=>?_)
 ·exfalso
  have:=of_decide_eq_true hlt
  rw[hml,hdd]at this
  lia
 have s45:=s4.trans s5
 have e35:=s45 _ _ e3
 refine⟨_,rfl,l3,rfl,⟨_,SqL.of e35⟩,Za5 (K:=K) (a:=l3) (xs:=xs) (λi σ H6=>∃v4:Option V,σ = [some (.ref a),some (.ref b),some (.ref l3),some (.ref D),v4]∧Same H3 H6) ⟨none,rfl,s45⟩ (λi σ H6 _ hh0=>by obtain⟨_,_,s6⟩:=hh0; exact SqL.of (s6 _ _ e3)) ?_ ?_⟩
 ·rintro i y σ H6 hy ⟨v4,rfl,s6⟩
  obtain⟨sp,hsp,hmem,t,a',rfl,et⟩:=hst3.at hy
  have at0:atI [V.str sp.1,V.int sp.2,V.ref t] ((0:Nat):Int)=some (.str sp.1):=Zav rfl
  have at1:atI [V.str sp.1,V.int sp.2,V.ref t] ((1:Nat):Int)=some (.int sp.2):=Zav rfl
  have et6:=s6 _ _ et
  have o:=ok _ hmem
  refine⟨_,rfl,a',_,_,_,rfl,rfl,SqT.of et6,at0,sp.1,rfl,o.n1,o.n2,?_⟩
  refine⟨_,rfl,a',_,_,_,rfl,rfl,SqT.of et6,at1,sp.2,rfl,o.p1,o.p2,?_⟩
  exact⟨_,rfl,s6⟩
 rintro σ H6 ⟨v4,rfl,s6⟩
 exact q H6 (s13.trans s6)
theorem ok_readlooks {f f1:Addr}{fd d1:FuncData}(F:Fun K "read_looks" "read_looks" Zbu f fd) (T:Bl mg) (D_check_table:Df K mg "check_table" Zbc Zcc f1 d1) (G_check_table:FnOk P w K mg base CX0 1 f1 d1 Zcc spCheckTable):FnOk P w K mg base CX0 2 f fd Zeg spReadLooks:=by
 refine F.ok scReadLooks (λvs H Q E h=>?_) (λcdv A outer s H vs Q E hr1 h=>?_)
 ·obtain⟨m,a,us,ls,rfl,_⟩:=h
  rfl
 obtain⟨m,a,us,ls,rfl,hm,ha,hl,ok,nd,few,q⟩:=h
 have hu:=Zdr hr1
 have hsl:sizeLine=16777216:=sizeLine_eq
 have hul:=hl.len
 refine⟨_,(Zad (Zas (i:=2) scReadLooks.nd rfl (Or.inl rfl) Zc5)
  (Zad (Zba PassesOwn.never rfl (Zaz (pv 1)) (Zao (i:=3) scReadLooks.nd rfl (Or.inl rfl))
   (Zad (Za1 (Zai G_check_table hr1 (by rfl) D_check_table.m D_check_table.F.kp D_check_table.b .nil Zap (Zaa (pv 0) (Zaa (Za3 Za6 (pv 3) Zah (λ_ _=>rfl)) (Zaa (Za3 Za6 (pv 3) Zah (λ_ _=>rfl)) Zae)))))
  (Zaf (Zc7 hu (pv 2) (Za3 Za6 (pv 3) Zah (λ_ _=>rfl)) (Za2 Zfb (by rfl) T.tuple Ziw (Zaa (Za3 Za6 (pv 3) Zah (λ_ _=>rfl)) Zae)) rfl))))
  (Zaf (Zan (pv 2))))),?_⟩
 intro d hd
 have s0:Same H (upd H d (.dK [])):=Same.new hd
 refine⟨_,rfl,a,rfl,⟨_,SqL.of (s0 _ _ ha)⟩,Za5 (K:=K) (a:=a) (xs:=us) (λi σ H2=>∃(v3:Option V) (kvs:List (Key×V)),σ = [some (.int (m:Int)),some (.ref a),some (.ref d),v3]∧Same H H2∧H2 d=some (.dK kvs)∧KA Loo.name (AnV H2) kvs (ls.take i)) ⟨none,[],rfl,s0,Zac,by rw[take_zero]; exact KA.nil⟩
  (λi σ H2 _ hh0=>by obtain⟨_,_,_,s2,_⟩:=hh0; exact SqL.of (s2 _ _ ha)) ?_ ?_⟩
 ·rintro i y σ H2 hy ⟨v3,kvs,rfl,s2,e2,ka⟩
  obtain⟨l,hli,hlm,t,⟨a',rfl,et⟩,ht⟩:=hl.at hy
  have at0:atI [V.str l.name,V.int l.price,V.ref t] ((0:Nat):Int)=some (.str l.name):=Zav rfl
  have at2:atI [V.str l.name,V.int l.price,V.ref t] ((2:Nat):Int)=some (.ref t):=Zav rfl
  have et2:=s2 _ _ et
  have ht2:=s2 _ _ ht
  have htl:(l.tab.map oS).length=m:=by rw[length_map]; exact ok l hlm
  have hkl:=ka.len
  rw[length_take]at hkl
  obtain⟨hi2,ei⟩:=List.getElem?_eq_some_iff.mp hli
  have hnone:valV kvs (Sum.inr l.name:Key)=none:=ka.none λz=>by
   have hnd:((ls.take (i + 1)).map Loo.name).Nodup:=by
    rw[map_take]
    exact List.Sublist.nodup (take_sublist _ _) nd
   rw[take_succ_eq_append_getElem hi2,ei,map_append]at hnd
   exact(nodup_append.mp hnd).2.2 _ z l.name (mem_singleton.mpr rfl) rfl
  refine⟨_,rfl,_,rfl,a',_,_,_,rfl,rfl,SqT.of et2,at0,_,rfl,a',_,_,_,rfl,rfl,SqT.of et2,at2,_,_,t,_,rfl,ht2,by rw[htl],?_⟩
  refine⟨_,rfl,a',_,_,_,rfl,rfl,SqT.of et2,at2,t,_,rfl,.inl ⟨SqL.of ht2,λtp htp=>?_⟩⟩
  have s3:Same H2 (upd H2 tp (.tup (l.tab.map oS))):=Same.new htp
  refine⟨_,rfl,_,rfl,a',_,_,_,rfl,rfl,SqT.of (s3 _ _ et2),at0,d,_,rfl,DPut.k (k:=(Sum.inr l.name:Key)) (s3 _ _ e2) (by lia),?_⟩
  rw[Zc3 _ hnone]
  refine⟨_,_,rfl,(s2.trans s3).put hd,Zac,?_⟩
  have dt:tp≠d:=(Zag e2 htp).symm
  rw[take_succ_eq_append_getElem hi2,ei]
  refine KA.snoc (ka.mono λv x _ r=>r.keep λb xs e=>?_) ⟨tp,rfl,by rw[Zaj dt]; exact Zac⟩
  rw[Zaj (Zb4 e e2 (by intro z; cases z))]
  exact s3 _ _ e
 rintro σ H2 ⟨v3,kvs,rfl,s2,e2,ka⟩
 rw[hul,take_length]at ka
 exact⟨_,rfl,q d kvs H2 s2 hd e2 ka⟩
theorem ok_readdeeds {f f1 f2 f3:Addr}{fd d1 d2 d3:FuncData}(F:Fun K "read_deeds" "read_deeds" Zbk f fd) (T:Bl mg) (D_check_table:Df K mg "check_table" Zbc Zcc f1 d1) (G_check_table:FnOk P w K mg base CX0 1 f1 d1 Zcc spCheckTable) (D_check_entry:Df K mg "check_entry" Zbe Zdq f2 d2) (G_check_entry:FnOk P w K mg base CX0 1 f2 d2 Zdq spCheckEntry) (D_set_of:Df K mg "set_of" Zeo Zf7 f3 d3) (G_set_of:FnOk P w K mg base CX0 1 f3 d3 Zf7 (spSetOf K)):FnOk P w K mg base CX0 2 f fd Zeh spReadDeeds:=by
 refine F.ok scReadDeeds (λvs H Q E h=>?_) (λcdv A outer s H vs Q E hr1 h=>?_)
 ·obtain⟨m,a,us,ds,rfl,_⟩:=h
  rfl
 obtain⟨m,a,us,ds,rfl,hm,ha,hl,ok,nd,few,q⟩:=h
 have hu:=Zdr hr1
 have hsl:sizeLine=16777216:=sizeLine_eq
 have hul:=hl.len
 refine⟨_,(Zad (Zas (i:=2) scReadDeeds.nd rfl (Or.inl rfl) Zc5)
  (Zad (Zba PassesOwn.never rfl (Zaz (pv 1)) (Zao (i:=3) scReadDeeds.nd rfl (Or.inl rfl))
   (Zad (Zas (i:=4) scReadDeeds.nd rfl (Or.inl rfl) (Za3 Za6 (pv 3) Zah (λ_ _=>rfl)))
  (Zad (Zas (i:=5) scReadDeeds.nd rfl (Or.inl rfl) (Za3 Za6 (pv 3) Zah (λ_ _=>rfl)))
  (Zad (Za1 (Zai G_check_table hr1 (by rfl) D_check_table.m D_check_table.F.kp D_check_table.b .nil Zap (Zaa (pv 0) (Zaa (pv 4) (Zaa (pv 5) Zae)))))
  (Zad (Zba PassesOwn.never rfl (Zaz (pv 5)) (Zao (i:=6) scReadDeeds.nd rfl (Or.inl rfl))
   (Zaf (Za1 (Zai G_check_entry hr1 (by rfl) D_check_entry.m D_check_entry.F.kp D_check_entry.b .nil Zap (Zaa (pv 0) (Zaa (pv 4) (Zaa (pv 6) Zae)))))))
  (Zaf (Zc7 hu (pv 2) (pv 4) (Za2 Zfb (by rfl) T.tuple Ziw (Zaa (Zdv (N:=["entry"]) (sc:=Zab Zbk) (own:=["entry"]) (fr:=[]) (js:=[]) ⟨rfl,rfl,rfl,rfl,by decide +kernel,by decide +kernel,by decide +kernel,rfl,by decide +kernel⟩ rfl (Zaz (pv 5)) (λ_ _ _ _=>Zao (i:=0) (show List.Nodup (["entry"]:List Str) by decide +kernel) rfl (Or.inl rfl)) (λ_ _ _ _=>Zbs) (λ_ _ _ _=>(Zai G_set_of hr1 (by rfl) D_set_of.m D_set_of.F.kp D_set_of.b .nil Zap (Zaa (pv 0) Zae)))) Zae)) rfl)))))))
  (Zaf (Zan (pv 2))))),?_⟩
 intro d hd
 have s0:Same H (upd H d (.dK [])):=Same.new hd
 refine⟨_,rfl,a,rfl,⟨_,SqL.of (s0 _ _ ha)⟩,Za5 (K:=K) (a:=a) (xs:=us) (λi σ H2=>∃(v3 v4 v5 v6:Option V) (kvs:List (Key×V)),σ = [some (.int (m:Int)),some (.ref a),some (.ref d),v3,v4,v5,v6]∧Same H H2∧H2 d=some (.dK kvs)∧KA Dee.name (OuV H2) kvs (ds.take i)) ⟨none,none,none,none,[],rfl,s0,Zac,by rw[take_zero]; exact KA.nil⟩
  (λi σ H2 _ hh0=>by obtain⟨_,_,_,_,_,_,s2,_⟩:=hh0; exact SqL.of (s2 _ _ ha)) ?_ ?_⟩
 ·rintro i y σ H2 hy ⟨v3,v4,v5,v6,kvs,rfl,s2,e2,ka⟩
  obtain⟨l,hli,hlm,t,es,⟨a',rfl,et⟩,ht,he⟩:=hl.at hy
  have at0:atI [V.str l.name,V.int l.price,V.ref t] ((0:Nat):Int)=some (.str l.name):=Zav rfl
  have at2:atI [V.str l.name,V.int l.price,V.ref t] ((2:Nat):Int)=some (.ref t):=Zav rfl
  have et2:=s2 _ _ et
  have ht2:=s2 _ _ ht
  have o:=ok l hlm
  have hel:=he.len
  have hkl:=ka.len
  rw[length_take]at hkl
  obtain⟨hi2,ei⟩:=List.getElem?_eq_some_iff.mp hli
  have hnone:valV kvs (Sum.inr l.name:Key)=none:=ka.none λz=>by
   have hnd:((ds.take (i + 1)).map Dee.name).Nodup:=by
    rw[map_take]
    exact List.Sublist.nodup (take_sublist _ _) nd
   rw[take_succ_eq_append_getElem hi2,ei,map_append]at hnd
   exact(nodup_append.mp hnd).2.2 _ z l.name (mem_singleton.mpr rfl) rfl
  refine⟨_,rfl,a',_,_,_,rfl,rfl,SqT.of et2,at0,?_⟩
  refine⟨_,rfl,a',_,_,_,rfl,rfl,SqT.of et2,at2,?_⟩
  refine⟨_,rfl,_,rfl,_,rfl,_,_,t,_,rfl,ht2,by rw[hel,o.len],?_⟩
  refine⟨_,rfl,t,rfl,⟨_,SqL.of ht2⟩,Za5 (K:=K) (a:=t) (xs:=es) (λj σ H3=>(∃v6':Option V,σ = [some (.int (m:Int)),some (.ref a),some (.ref d),some (.ref a'),some (.str l.name),some (.ref t),v6'])∧Same H2 H3) ⟨⟨_,rfl⟩,Same.refl _⟩ (λj σ H3 _ hh0=>by obtain⟨_,s3⟩:=hh0; exact SqL.of (s3 _ _ ht2)) ?_ ?_⟩
  ·rintro j y σ H3 hy' ⟨⟨v6',rfl⟩,s3⟩
   obtain⟨ns,hns,hnm,b,rfl,eb⟩:=he.at hy'
   exact⟨_,rfl,_,rfl,_,rfl,_,_,b,ns,rfl,(s2.trans s3) _ _ eb,o.up ns hnm,o.inn ns hnm,o.few ns hnm,λH4 s4=>⟨⟨_,rfl⟩,s3.trans s4⟩⟩
  rintro σ H3 ⟨⟨v6',rfl⟩,s3⟩
  have ht3:=s3 _ _ ht2
  refine⟨_,rfl,t,rfl,⟨_,SqL.of ht3⟩,λD hD=>?_⟩
  refine lcJ (n:=es.length) (λj ys H4=>ys=(l.tab.take j).map (λn=>V.int (bt n:Nat))∧Same H3 H4∧H4 D=some (.lst ys)) ⟨rfl,Same.new hD,Zac⟩
   (λj ys H4 hj hh0=>by obtain⟨_,s4,_⟩:=hh0; exact⟨_,es[j],SqL.of (s4 _ _ ht3),by simp[hj]⟩) (λys H4 hh0=>by obtain⟨_,s4,_⟩:=hh0; exact⟨_,SqL.of (s4 _ _ ht3),by simp⟩) ?_ ?_
  ·rintro j ys H4 y H5 hj ⟨rfl,s4,e4⟩ ⟨rfl,hy'⟩
   refine Zce ?_
   obtain⟨ns,hns,hnm,b,rfl,eb⟩:=he.at (hy' _ (SqL.of (s4 _ _ ht3)))
   refine⟨_,rfl,b,ns,rfl,SqL.of (((s2.trans s3).trans s4) _ _ eb),o.wd hm ns hnm,_,e4,by rw[length_map,length_take,o.len]; lia,?_,s4.put hD,Zac⟩
   obtain⟨hj2,ej⟩:=List.getElem?_eq_some_iff.mp hns
   rw[take_succ_eq_append_getElem hj2,map_append,ej]
   rfl
  rintro ys H4 ⟨rfl,s4,e4⟩
  rw[hel,take_length]at e4
  refine⟨D,_,rfl,.inl ⟨SqL.of e4,λtp htp=>?_⟩⟩
  have s24:=s3.trans s4
  have s3':Same H4 (upd H4 tp (.tup (l.tab.map λn=>V.int (bt n:Nat)))):=Same.new htp
  have e24:=s24 _ _ e2
  refine⟨_,rfl,_,rfl,d,_,rfl,DPut.k (k:=(Sum.inr l.name:Key)) (s3' _ _ e24) (by lia),?_⟩
  rw[Zc3 _ hnone]
  refine⟨_,_,_,_,_,rfl,((s2.trans s24).trans s3').put hd,Zac,?_⟩
  have dt:tp≠d:=(Zag e24 htp).symm
  rw[take_succ_eq_append_getElem hi2,ei]
  refine KA.snoc (ka.mono λv x _ r=>r.keep λb xs e=>?_) ⟨tp,rfl,by rw[Zaj dt]; exact Zac⟩
  rw[Zaj (Zb4 e e2 (by intro z; cases z))]
  exact s3' _ _ (s24 _ _ e)
 rintro σ H2 ⟨v3,v4,v5,v6,kvs,rfl,s2,e2,ka⟩
 rw[hul,take_length]at ka
 exact⟨_,rfl,q d kvs H2 s2 hd e2 ka⟩
theorem Zkb:bootBuiltins "enumerate" = some (.type "enumerate"):=by decide +kernel
theorem Zm1:bootBuiltins "dict" = some (.type "dict"):=by decide +kernel
theorem lcJ2 {J:It}{n:Nat}{D:Addr}{ρ:L2.St}{tc:TT}{te:TE}{fin:Hp→Prop}{H0:Hp}(Pv:Nat→List V→Hp→Prop) (h0:Pv 0 [] (upd H0 D (.lst [])))
  (go:∀i ys H,i < n→Pv i ys H→J.go i H) (stop:∀ys H,Pv n ys H→J.stop n H)
  (hs:∀i ys H x H1,i < n→Pv i ys H→J.yld i H x H1→∃(a:Addr) (u v:V),x=.ref a∧SqT K H1 a [u,v]∧tc (some u :: some v :: ρ) H1 λb H3=>if b=true then te (some u :: some v :: ρ) H3 λy H4=>∃zs,H4 D=some (.lst zs)∧zs.length < sizeLine∧Pv (i + 1) (zs ++ [y]) (upd H4 D (.lst (zs ++ [y])))else Pv (i + 1) ys H3)
  (hd:∀ys H,Pv n ys H→fin H):∃W:Nat→Nat→List V→Hp→Prop,(∃m,W 0 m [] (upd H0 D (.lst [])))∧tLcB J D (none :: none :: ρ) (gTup K 2 (gCons (Zhf 0) (gCons (Zhf 1) gNil))) tc te fin W:=by
 refine⟨λi m ys H=>m=n - i∧i≤n∧Pv i ys H,⟨n,rfl,zero_le _,h0⟩,?_⟩
 rintro i m ys H ⟨rfl,hi,p⟩
 by_cases hlt:i < n
 ·refine .inr ⟨go i ys H hlt p,Pv (i + 1),λys' H' p'=>⟨n - (i + 1),by lia,rfl,hlt,p'⟩,λx H1 y=>?_⟩
  obtain⟨a,u,v,rfl,hq,h⟩:=hs i ys H x H1 hlt p y
  exact⟨a,_,rfl,hq,rfl,_,_,rfl,_,_,rfl,rfl,sub_nones,h⟩
 have e:i=n:=by lia
 subst e
 exact .inl ⟨stop ys H p,hd ys H p⟩
theorem for_enum {a:Addr}{xs:List V}{g:TG}{tb:TS}{D:Ends}{σ:L2.St}{H:Hp}(Pv:Nat→L2.St→Hp→Prop) (h0:Pv 0 σ H) (hl:∀i σ H,i≤xs.length→Pv i σ H→SqT K H a xs)
  (hs:∀i x p σ H,xs[i]? = some x→Pv i σ H→H p=none→g (.ref p) σ (upd H p (.tup [.int (i:Nat),x])) λσ2 H2=>tb { D with nx:=Pv (i + 1),ct:=Pv (i + 1),bk:=D.nx } σ2 H2) (hd:∀σ H,Pv xs.length σ H→D.nx σ H) :
  ∃W:Nat→Nat→L2.St→Hp→Prop,(∃m,W 0 m σ H)∧∀i m σ H,W i m σ H →
   ((Ite K a).stop i H∧D.nx σ H)∨((Ite K a).go i H∧∃N:L2.St→Hp→Prop,(∀σ' H',N σ' H'→∃m',m' < m∧W (i + 1) m' σ' H')∧∀x H',(Ite K a).yld i H x H'→g x σ H' λσ2 H2=>tb { D with nx:=N,ct:=N,bk:=D.nx } σ2 H2):=by
 refine⟨λi m σ H=>m=xs.length - i∧i≤xs.length∧Pv i σ H,⟨xs.length,by simp,zero_le _,h0⟩,?_⟩
 rintro i m σ H ⟨rfl,hi,p⟩
 have q:=hl i σ H hi p
 by_cases hlt:i < xs.length
 ·refine .inr ⟨⟨xs,xs[i],q,by simp[hlt]⟩,Pv (i + 1),λσ' H' p'=>⟨xs.length - (i + 1),by lia,rfl,hlt,p'⟩,λx H' y=>?_⟩
  obtain⟨pp,x',rfl,hp,rfl,hx⟩:=y
  exact hs i x' pp σ H (hx xs q) p hp
 have e:i=xs.length:=by lia
 subst e
 exact .inl ⟨⟨xs,q,rfl⟩,hd σ H p⟩
theorem Zjo {a:Addr}{o:Obj}{kvs:List (Key×V)}{g:TG}{tb:TS}{D:Ends}{σ:L2.St}{H:Hp}(Pv:Nat→L2.St→Hp→Prop) (h0:Pv 0 σ H) (hl:∀i σ H,i≤kvs.length→Pv i σ H→H a=some (.frz o (.dK kvs)))
  (hs:∀i kv p σ H,kvs[i]? = some kv→Pv i σ H→H p=none→g (.ref p) σ (upd H p (.tup [kV kv.1,kv.2])) λσ2 H2=>tb { D with nx:=Pv (i + 1),ct:=Pv (i + 1),bk:=D.nx } σ2 H2) (hd:∀σ H,Pv kvs.length σ H→D.nx σ H) :
  ∃W:Nat→Nat→L2.St→Hp→Prop,(∃m,W 0 m σ H)∧∀i m σ H,W i m σ H →
   ((Iti a o kvs).stop i H∧D.nx σ H)∨((Iti a o kvs).go i H∧∃N:L2.St→Hp→Prop,(∀σ' H',N σ' H'→∃m',m' < m∧W (i + 1) m' σ' H')∧∀x H',(Iti a o kvs).yld i H x H'→g x σ H' λσ2 H2=>tb { D with nx:=N,ct:=N,bk:=D.nx } σ2 H2):=by
 refine⟨λi m σ H=>m=kvs.length - i∧i≤kvs.length∧Pv i σ H,⟨kvs.length,by simp,zero_le _,h0⟩,?_⟩
 rintro i m σ H ⟨rfl,hi,p⟩
 have q:=hl i σ H hi p
 by_cases hlt:i < kvs.length
 ·refine .inr ⟨⟨hlt,q⟩,Pv (i + 1),λσ' H' p'=>⟨kvs.length - (i + 1),by lia,rfl,hlt,p'⟩,λx H' y=>?_⟩
  obtain⟨pp,k,v,rfl,hp,rfl,hx⟩:=y
  exact hs i (k,v) pp σ H hx p hp
 have e:i=kvs.length:=by lia
 subst e
 exact .inl ⟨⟨Nat.le_refl _,q⟩,hd σ H p⟩
noncomputable def ixs (tab:List (Option Str)) (s:Str):List Int:=((List.range tab.length).filter λi=>decide (tab[i]? = some (some s))).map λi:Nat=>(i:Int)
theorem Zgt (tab:List (Option Str)) (x:Option Str) (s:Str):ixs (tab ++ [x]) s=ixs tab s ++ (if x=some s then [(tab.length:Int)]else []):=by
 unfold ixs
 rw[length_append,length_singleton,range_succ,filter_append,map_append]
 congr 1
 ·congr 1
  refine filter_congr λi hi=>?_
  rw[getElem?_append_left (mem_range.mp hi)]
 by_cases h:x=some s
 ·rw[if_pos h,List.filter_cons_of_pos (by simp[h])]
  rfl
 rw[if_neg h,List.filter_cons_of_neg (by simp[h])]
 rfl
structure PsOk (tab:List (Option Str)) (ps:List (Str×V)):Prop where
 nd:(ps.map (·.1)).Nodup
 val:∀p∈ps,p.2=V.int (bt (ixs tab p.1):Nat)
 has:∀s,some s∈tab↔s∈ps.map (·.1)
noncomputable abbrev kf (p:Str×V):Key×V:=(Sum.inr p.1,p.2)
theorem PsOk.zero:PsOk [] []:=⟨nodup_nil,(λp h=>nomatch h),λs=>⟨(λh=>nomatch h),(λh=>nomatch h)⟩⟩
theorem PsOk.skip {tab:List (Option Str)}{ps:List (Str×V)}(h:PsOk tab ps):PsOk (tab ++ [none]) ps:=⟨h.nd,λp hp=>by
 rw[Zgt,if_neg (by simp),append_nil]
 exact h.val p hp,λs=>by
 rw[← h.has s]
 simp⟩
theorem Zi4 {ps:List (Str×V)}{s:Str}(h:s∉ps.map (·.1)):valV (ps.map kf) (Sum.inr s:Key)=none:=by
 cases e:valV (ps.map kf) (Sum.inr s:Key)with
 | none=>rfl
 | some v=>
  exfalso
  have:=Zhx e
  rw[map_map]at this
  obtain⟨p,hp,ep⟩:=mem_map.mp this
  exact h (mem_map.mpr ⟨p,hp,Sum.inr.inj ep⟩)
theorem PsOk.old {tab:List (Option Str)}{ps:List (Str×V)}(h:PsOk tab ps) (s:Str):(valV (ps.map kf) (Sum.inr s:Key)).getD (.int 0)=V.int (bt (ixs tab s):Nat):=by
 by_cases hs:s∈ps.map (·.1)
 ·obtain⟨p,hp,ep⟩:=mem_map.mp hs
  obtain⟨i,hi⟩:=getElem?_of_mem hp
  have hk:(ps.map kf)[i]? = some (kf p):=by rw[getElem?_map,hi]; rfl
  have nd:((ps.map kf).map (·.1)).Nodup:=by
   rw[map_map,show((λx:Key×V=>x.1) ∘ kf)=(Sum.inr ∘ λp:Str×V=>p.1) from rfl,← map_map]
   exact pairwise_map.mpr (List.Pairwise.imp (λh e=>h (Sum.inr.inj e)) h.nd)
  have:=Zlw nd hk
  rw[show(kf p).1=(Sum.inr s:Key) from by rw[← ep]]at this
  rw[this,← ep]
  exact h.val p hp
 rw[Zi4 hs]
 have e:ixs tab s=[]:=by
  unfold ixs
  rw[filter_eq_nil_iff.mpr λi hi z=>?_]
  ·rfl
  exact hs ((h.has s).mp (mem_of_getElem? (of_decide_eq_true z)))
 rw[e]
 rfl
theorem PsOk.put {tab:List (Option Str)}{ps:List (Str×V)}(h:PsOk tab ps) (s:Str):∃ps':List (Str×V),putK (ps.map kf) (Sum.inr s:Key) (V.int (bt (ixs (tab ++ [some s]) s):Nat))=ps'.map kf∧PsOk (tab ++ [some s]) ps':=by
 generalize hv:V.int (bt (ixs (tab ++ [some s]) s):Nat)=v
 have other:∀x,x≠s→ixs (tab ++ [some s]) x=ixs tab x:=λx hx=>by
  rw[Zgt,if_neg (λe=>hx (Option.some.inj e).symm),append_nil]
 have mem:∀x,some x∈tab ++ [some s]↔(some x∈tab∨x=s):=λx=>by
  rw[mem_append,mem_singleton,Option.some.injEq]
 by_cases hs:s∈ps.map (·.1)
 ·refine⟨ps.map λp=>if p.1=s then(p.1,v)else p,?_,?_⟩
  ·unfold putK
   rw[if_pos]
   ·rw[map_map,map_map]
    refine map_congr_left λp _=>?_
    show(if (Sum.inr p.1:Key)=Sum.inr s then((Sum.inr p.1:Key),v)else(Sum.inr p.1,p.2))=kf (if p.1=s then(p.1,v)else p)
    by_cases e:p.1=s
    ·rw[if_pos (by rw[e]),if_pos e]
    rw[if_neg (λz=>e (Sum.inr.inj z)),if_neg e]
   obtain⟨p,hp,ep⟩:=mem_map.mp hs
   exact any_eq_true.mpr ⟨kf p,mem_map.mpr ⟨p,hp,rfl⟩,decide_eq_true (by rw[← ep])⟩
  have ek:(ps.map λp=>if p.1=s then(p.1,v)else p).map (·.1)=ps.map (·.1):=by
   rw[map_map]
   refine map_congr_left λp _=>?_
   show(if p.1=s then(p.1,v)else p).1=p.1
   split <;> rfl
  refine⟨by rw[ek]; exact h.nd,λp hp=>?_,λx=>?_⟩
  ·obtain⟨p0,hp0,e⟩:=mem_map.mp hp
   by_cases e0:p0.1=s
   ·rw[if_pos e0]at e
    rw[← e]
    show v=_
    rw[← hv,e0]
   rw[if_neg e0]at e
   rw[← e,other _ e0]
   exact h.val p0 hp0
  rw[ek,mem,h.has]
  exact⟨λz=>z.elim id (λe=>by rw[e]; exact hs),.inl⟩
 refine⟨ps ++ [(s,v)],?_,?_⟩
 ·rw[Zc3 _ (Zi4 hs),map_append]
  rfl
 refine⟨?_,λp hp=>?_,λx=>?_⟩
 ·rw[map_append]
  exact nodup_append.mpr ⟨h.nd,by simp,λa ha b hb e=>hs (by
   have hb':b=s:=mem_singleton.mp hb
   rw[← hb',← e]
   exact ha)⟩
 ·rcases(mem_append.mp hp)with z | z
  ·rw[other _ (λe=>hs (by rw[← e]; exact mem_map.mpr ⟨p,z,rfl⟩))]
   exact h.val p z
  rw[mem_singleton.mp z]
  exact hv.symm
 rw[mem,h.has,map_append,mem_append]
 simp
inductive spParted (vs:List V) (H:Hp) (Q:VK) (E0_:XK):Prop
 | mk (t:Addr) (tab:List (Option Str)) (as:List Str) (c0:vs=[.ref t]) (c1:H t=some (.tup (tab.map oS))) (c2:tab.length≤200) (c3:(∀s,some s∈tab→s∈as)) (c4:as.length≤3) (c5:as.Nodup) (c6:∀(r:Addr) (ro:Obj) (ts:List Addr) (ps zs:List (Str×V)) (H':Hp),Same H H'→ro.dict=none→H' r=some (.frz ro (.tup (ts.map V.ref)))→PrAt H' ts zs→zs.Perm ps→ltP zs=true→PsOk tab ps→Q (.ref r) H'):spParted  vs H Q E0_
noncomputable abbrev Zh8:List Str:=["answers"]
noncomputable abbrev nParted:List Str:=["answers", "found", "world", "answer"]
theorem scParted:FnScope nParted Zh8 (Zab Zdy):=⟨rfl,rfl,rfl,by decide +kernel,rfl,by decide +kernel,by decide +kernel⟩
theorem ok_parted {f f1:Addr}{fd d1:FuncData}(F:Fun K "parted" "parted" Zdy f fd) (T:Bl mg) (D_set_of:Df K mg "set_of" Zeo Zf7 f1 d1) (G_set_of:FnOk P w K mg base CX0 1 f1 d1 Zf7 (spSetOf K)):FnOk P w K mg base CX0 2 f fd Zh8 spParted:=by
 refine F.ok scParted (λvs H Q E h=>?_) (λcdv A outer s H vs Q E hr1 h=>?_)
 ·obtain⟨t,tab,as,rfl,_⟩:=h
  rfl
 obtain⟨t,tab,as,rfl,ht,hl,has,a3,and',q⟩:=h
 have hu:=Zdr hr1
 have hsl:sizeLine=16777216:=sizeLine_eq
 refine⟨_,(Zad (Zas (i:=1) scParted.nd rfl (Or.inl rfl) Zc5)
  (Zad (Zba PassesOwn.never rfl (Zj4 (by rfl) T.enumerate Zkb (Zaa (pv 0) Zae)) (Zf4 rfl (Za9 (Zao (i:=2) scParted.nd rfl (Or.inl rfl)) (Za9 (Zao (i:=3) scParted.nd rfl (Or.inl rfl)) Zd6)))
   (Zaf (Za4 (Zau Zj6 (pv 3) Zf6 (Zay _)) (Zaf (Zc7 hu (pv 1) (pv 3) (Zaw Zjg (Zkn hu (pv 1) (pv 3) Zah ⟨by rfl,by rfl,by rfl,by rfl⟩) (Zai G_set_of hr1 (by rfl) D_set_of.m D_set_of.F.kp D_set_of.b .nil Zap (Zaa (Zb6 (Zaa (pv 2) Zae)) Zae))) rfl)) Zar)))
  (Zaf (Zan (Za2 call_tupF (by rfl) T.tuple Ziw (Zaa (Za0 (call_sortedI rfl) (by rfl) T.sorted Zfc (Zaa (Zmb PySem.F.plainAttrs_dict PySem.F.slot_dict_items PySem.F.type_dict_items mt_items (pv 1)) Zae)) Zae)))))),?_⟩
 intro d hd
 have s0:Same H (upd H d (.dK [])):=Same.new hd
 refine⟨_,rfl,t,rfl,⟨_,SqT.of (s0 _ _ ht)⟩,for_enum (K:=K) (a:=t) (xs:=tab.map oS) (λi σ H2=>∃(v2 v3:Option V) (ps:List (Str×V)),σ = [some (.ref t),some (.ref d),v2,v3]∧Same H H2∧H2 d=some (.dK (ps.map kf))∧PsOk (tab.take i) ps) ⟨none,none,[],rfl,s0,Zac,by rw[take_zero]; exact PsOk.zero⟩
  (λi σ H2 _ hh0=>by obtain⟨_,_,_,_,s2,_⟩:=hh0; exact SqT.of (s2 _ _ ht)) ?_ ?_⟩
 ·rintro i x p σ H2 hx ⟨v2,v3,ps,rfl,s2,e2,po⟩ hp
  rw[getElem?_map]at hx
  cases hti:tab[i]? with
  | none=>rw[hti]at hx; cases hx
  | some o=>
   rw[hti]at hx
   have hx':x=oS o:=(Option.some.inj hx).symm
   subst hx'
   obtain⟨hi,ei⟩:=List.getElem?_eq_some_iff.mp hti
   have htk:tab.take (i + 1)=tab.take i ++ [o]:=by rw[take_succ_eq_append_getElem hi,ei]
   have s3:Same H2 (upd H2 p (.tup [.int (i:Nat),oS o])):=Same.new hp
   refine⟨p,_,rfl,SqT.of Zac,rfl,_,_,rfl,_,_,rfl,rfl,?_⟩
   generalize (upd H2 p (.tup [.int (i:Nat),oS o]))=H3 at s3 ⊢
   have e3:=s3 _ _ e2
   cases o with
   | none=>
    refine⟨_,rfl,rfl,_,rfl,?_⟩
    refine iteF ⟨_,_,ps,rfl,s2.trans s3,e3,?_⟩
    rw[htk]
    exact po.skip
   | some sa=>
    refine⟨_,rfl,rfl,_,rfl,?_⟩
    refine iteT ?_
    refine⟨_,rfl,d,rfl,.inl ⟨_,.inl e3⟩,_,rfl,_,DGet.k (k:=(Sum.inr sa:Key)) e3,?_⟩
    rw[po.old sa]
    refine⟨_,rfl,by show 1≤sizeLine; lia,λlb hlb=>?_⟩
    have s4:Same H3 (upd H3 lb (.lst [.int (i:Nat)])):=Same.new hlb
    refine⟨lb,[(i:Int)],rfl,SqL.of Zac,λn hn=>by rw[mem_singleton.mp hn]; exact⟨by lia,by lia⟩,_,_,rfl,rfl,?_⟩
    have hbo:Builtin.bitOr ((bt (ixs (tab.take i) sa):Nat):Int) ((bt [(i:Int)]:Nat):Int)=((bt (ixs (tab.take (i + 1)) sa):Nat):Int):=by
     rw[Zga,htk,Zgt,if_pos rfl,length_take,Nat.min_eq_left (by lia),Zix,show bt [(i:Int)]=2 ^ ((i:Int)).toNat from by unfold bt; simp]
    rw[hbo]
    obtain⟨ps',e',po'⟩:=po.put sa
    rw[← htk]at e' po'
    have hpl:(ps.map kf).length≤200:=by
     have h1:(ps.map (·.1)).length≤as.length:=List.Nodup.length_le_of_subset po.nd λz hz=>has z (mem_of_mem_take ((po.has z).mpr hz))
     rw[length_map]at h1 ⊢
     lia
    refine⟨_,rfl,_,rfl,d,_,rfl,DPut.k (k:=(Sum.inr sa:Key)) (s4 _ _ e3) (by lia),?_⟩
    rw[e']
    exact⟨_,_,ps',rfl,((s2.trans s3).trans s4).put hd,Zac,po'⟩
 rintro σ H2 ⟨v2,v3,ps,rfl,s2,e2,po⟩
 rw[length_map,take_length]at po
 have h3:ps.length≤3:=by
  have h1:(ps.map (·.1)).length≤as.length:=List.Nodup.length_le_of_subset po.nd λz hz=>has z ((po.has z).mpr hz)
  rw[length_map]at h1
  lia
 refine⟨_,rfl,.inr (.inr (.inl ⟨rfl,.inl ⟨_,e2⟩⟩)),d,_,rfl,rfl,e2,λv hv=>?_⟩
 have s3:Same H2 (upd H2 v (Zda v d)):=Same.new hv
 refine⟨v,d,ps,rfl,Zac,s3 _ _ e2,h3,λl ts zs H4 s4 hl4 pm lt el pr=>?_⟩
 refine⟨l,_,rfl,SqL.of el,λr ro hr hd0=>?_⟩
 have s5:Same H4 (upd H4 r (.frz ro (.tup (ts.map V.ref)))):=Same.new hr
 exact q r ro ts ps zs _ (((s2.trans s3).trans s4).trans s5) hd0 Zac ⟨pr.1,λi a p h1 h2=>s5 _ _ (pr.2 i a p h1 h2)⟩ pm lt po
noncomputable abbrev Zdn:List Str:=["outs", "answers"]
noncomputable abbrev nDoableSets:List Str:=["outs", "answers", "found", "name", "sets", "told"]
theorem scDoableSets:FnScope nDoableSets Zdn (Zab Za8):=⟨rfl,rfl,rfl,by decide +kernel,rfl,by decide +kernel,by decide +kernel⟩
noncomputable def doI {α:Type}(p:α→Bool) (tab:List α):List Int:=((List.range tab.length).filter λi=>(tab[i]?.map p).getD false).map λi:Nat=>(i:Int)
theorem Zlf {α:Type}(p:α→Bool) (tab:List α) (x:α):doI p (tab ++ [x])=doI p tab ++ (if p x=true then [(tab.length:Int)]else []):=by
 unfold doI
 rw[length_append,length_singleton,range_succ,filter_append,map_append]
 congr 1
 ·congr 1
  refine filter_congr λi hi=>?_
  rw[getElem?_append_left (mem_range.mp hi)]
 by_cases h:p x=true
 ·rw[if_pos h,List.filter_cons_of_pos (by simp[h])]
  rfl
 rw[if_neg h,List.filter_cons_of_neg (by simp[h])]
 rfl
theorem Zns {α:Type}(p:α→Bool) {tab:List α}(h:tab.length≤200):Wd (doI p tab):=λn hn=>by
 unfold doI at hn
 obtain⟨i,hi,rfl⟩:=mem_map.mp hn
 have:=mem_range.mp (mem_filter.mp hi).1
 exact⟨by lia,by lia⟩
theorem doI_len {α:Type}(p:α→Bool) (tab:List α):(doI p tab).length≤tab.length:=by
 unfold doI
 rw[length_map]
 exact le_trans (length_filter_le _ _) (by rw[length_range]; exact Nat.le_refl _)
inductive spDoable (vs:List V) (H:Hp) (Q:VK) (E0_:XK):Prop
 | mk (a b:Addr) (ka kb:List (Key×V)) (ds:List Dee) (ls:List Loo) (o2:Obj) (c0:vs=[.ref a,.ref b]) (c1:a≠b) (c2:H a=some (.dK ka)) (c3:H b=some (.frz o2 (.dK kb))) (c4:KA Dee.name (OuV H) ka ds) (c5:KA Loo.name (AnV H) kb ls) (c6:(ds.map Dee.name ++ ls.map Loo.name).Nodup) (c7:ds.length≤40) (c8:ls.length≤40) (c9:(∀d∈ds,d.tab.length≤200)) (c10:(∀l∈ls,l.tab.length≤200)) (c11:∀(d:Addr) (kvs:List (Key×V)) (H':Hp) (o1:Obj),(∀c u,H c=some u→c≠a→H' c=some u)→H d=none→H' d=some (.dK kvs)→H' a=some (.frz o1 (.dK ka)) →     KA (λp:Str×Nat=>p.1) (λv p=>v=V.int (p.2:Int)) kvs (ds.map (λd=>(d.name,bt (doI (λn=>decide (bt n≠0)) d.tab))) ++ ls.map λl=>(l.name,bt (doI isSome l.tab)))→Q (.ref d) H'):spDoable  vs H Q E0_
theorem KA.snoc2 {kvs:List (Key×V)}{L:List (Str×Nat)}{n:Str}{k:Nat}(h:KA (λp:Str×Nat=>p.1) (λv p=>v=V.int (p.2:Int)) kvs L):KA (λp:Str×Nat=>p.1) (λv p=>v=V.int (p.2:Int)) (kvs ++ [(Sum.inr n,V.int (k:Int))]) (L ++ [(n,k)]):=KA.snoc (d:=(n,k)) h rfl
theorem Zec {α:Type}{xs:List α}{i:Nat}{x:α}(h:xs[i]? = some x):xs.take (i + 1)=xs.take i ++ [x]:=by
 (obtain⟨hi,e⟩:=List.getElem?_eq_some_iff.mp h)
 rw[take_succ_eq_append_getElem hi,e]
theorem Znr {α:Type}(p:α→Bool) {K:W.Frag}{t D:Addr}{xs:List V}{tab:List α}{H3:Hp}(hlen:xs.length=tab.length) (ht3:H3 t=some (.tup xs)) (hl:tab.length≤200) {fin:Hp→Prop}{tc:TT}{ρ:L2.St}(hD:H3 D=none)
  (test:∀(j:Nat) (x:V) (y:α) (H4:Hp) (A B:Hp→Prop),xs[j]? = some x→tab[j]? = some y→(p y=true→A H4)→(¬p y=true→B H4)→tc (some (.int (j:Nat)) :: some x :: ρ) H4 λb H5=>if b=true then A H5 else B H5)
  (q:∀H4:Hp,Same H3 H4→H4 D=some (.lst ((doI p tab).map V.int))→fin H4):∃W:Nat→Nat→List V→Hp→Prop,(∃m,W 0 m [] (upd H3 D (.lst [])))∧tLcB (Ite K t) D (none :: none :: ρ) (gTup K 2 (gCons (Zhf 0) (gCons (Zhf 1) gNil))) tc (tVar 0) fin W:=by
 have hsl:sizeLine=16777216:=sizeLine_eq
 refine lcJ2 (K:=K) (n:=xs.length) (λj ys H4=>ys=(doI p (tab.take j)).map V.int∧Same H3 H4∧H4 D=some (.lst ys)) ⟨rfl,Same.new hD,Zac⟩
  (λj ys H4 hj hh0=>by obtain⟨_,s4,_⟩:=hh0; exact⟨_,xs[j],SqT.of (s4 _ _ ht3),by simp[hj]⟩) (λys H4 hh0=>by obtain⟨_,s4,_⟩:=hh0; exact⟨_,SqT.of (s4 _ _ ht3),rfl⟩) ?_ ?_
 ·rintro j ys H4 x H5 hj ⟨rfl,s4,e4⟩ ⟨pp,x',rfl,hpp,rfl,hx⟩
  have hx2:=hx _ (SqT.of (s4 _ _ ht3))
  have hjt:j < tab.length:=by lia
  have hy:tab[j]? = some tab[j]:=getElem?_eq_getElem hjt
  have s5:Same H4 (upd H4 pp (.tup [.int (j:Nat),x'])):=Same.new hpp
  have htk:tab.take (j + 1)=tab.take j ++ [tab[j]]:=Zec hy
  have hlk:(tab.take j).length=j:=by rw[length_take]; lia
  have hle:=doI_len p (tab.take j)
  refine⟨pp,_,_,rfl,SqT.of Zac,test j x' _ _ _ _ hx2 hy (λh=>?_) (λh=>⟨?_,s4.trans s5,s5 _ _ e4⟩)⟩
  ·refine⟨_,rfl,_,s5 _ _ e4,by rw[length_map]; lia,?_,(s4.trans s5).put hD,Zac⟩
   rw[htk,Zlf,if_pos h,map_append,hlk]
   rfl
  rw[htk,Zlf,if_neg h,append_nil]
 rintro ys H4 ⟨rfl,s4,e4⟩
 rw[hlen,take_length]at e4
 exact q H4 s4 e4
theorem ok_doable {f f1:Addr}{fd d1:FuncData}(F:Fun K "doable_sets" "doable_sets" Za8 f fd) (T:Bl mg) (D_set_of:Df K mg "set_of" Zeo Zf7 f1 d1) (G_set_of:FnOk P w K mg base CX0 1 f1 d1 Zf7 (spSetOf K)):FnOk P w K mg base CX0 2 f fd Zdn spDoable:=by
 refine F.ok scDoableSets (λvs H Q E h=>?_) (λcdv A outer s H vs Q E hr1 h=>?_)
 ·obtain⟨a,b,ka,kb,ds,ls,o2,rfl,_⟩:=h
  rfl
 obtain⟨a,b,ka,kb,ds,ls,o2,rfl,ab,ha,hb,hka,hkb,nd,fd',fl,td,tl,q⟩:=h
 have hu:=Zdr hr1
 have hsl:sizeLine=16777216:=sizeLine_eq
 refine⟨_,(Zad (Zas (i:=2) scDoableSets.nd rfl (Or.inl rfl) Zc5)
  (Zad (Zba PassesOwn.never rfl (Zg2 (Zh4 (pv 0))) (Zf4 rfl (Za9 (Zao (i:=3) scDoableSets.nd rfl (Or.inl rfl)) (Za9 (Zao (i:=4) scDoableSets.nd rfl (Or.inl rfl)) Zd6)))
   (Zaf (Zc7 hu (pv 2) (pv 3) (Zai G_set_of hr1 (by rfl) D_set_of.m D_set_of.F.kp D_set_of.b .nil Zap (Zaa (Zdv (N:=["world", "some"]) (sc:=Zab Za8) (own:=["world", "some"]) (fr:=[]) (js:=[]) ⟨rfl,rfl,rfl,rfl,by decide +kernel,by decide +kernel,by decide +kernel,rfl,by decide +kernel⟩ rfl (Zj4 (by rfl) T.enumerate Zkb (Zaa (pv 4) Zae)) (λ_ _ _ _=>Zmm K rfl (Zf4 (n:=2) rfl (Za9 (Zao (i:=0) (show List.Nodup (["world", "some"]:List Str) by decide +kernel) rfl (Or.inl rfl)) (Za9 (Zao (i:=1) (show List.Nodup (["world", "some"]:List Str) by decide +kernel) rfl (Or.inl rfl)) Zd6)))) (λ_ _ _ _=>Zet (Zau Zm8 (pv 1) Zah (Zay _))) (λ_ _ _ _=>(pv 0))) Zae)) rfl)))
  (Zad (Zba PassesOwn.never rfl (Zg2 (Zh4 (pv 1))) (Zf4 rfl (Za9 (Zao (i:=3) scDoableSets.nd rfl (Or.inl rfl)) (Za9 (Zao (i:=5) scDoableSets.nd rfl (Or.inl rfl)) Zd6)))
   (Zaf (Zc7 hu (pv 2) (pv 3) (Zai G_set_of hr1 (by rfl) D_set_of.m D_set_of.F.kp D_set_of.b .nil Zap (Zaa (Zdv (N:=["world", "answer"]) (sc:=Zab Za8) (own:=["world", "answer"]) (fr:=[]) (js:=[]) ⟨rfl,rfl,rfl,rfl,by decide +kernel,by decide +kernel,by decide +kernel,rfl,by decide +kernel⟩ rfl (Zj4 (by rfl) T.enumerate Zkb (Zaa (pv 5) Zae)) (λ_ _ _ _=>Zmm K rfl (Zf4 (n:=2) rfl (Za9 (Zao (i:=0) (show List.Nodup (["world", "answer"]:List Str) by decide +kernel) rfl (Or.inl rfl)) (Za9 (Zao (i:=1) (show List.Nodup (["world", "answer"]:List Str) by decide +kernel) rfl (Or.inl rfl)) Zd6)))) (λ_ _ _ _=>Zet (Zau Zj6 (pv 1) Zf6 (Zay _))) (λ_ _ _ _=>(pv 0))) Zae)) rfl)))
  (Zaf (Zan (pv 2)))))),?_⟩
 intro d hd
 have s0:Same H (upd H d (.dK [])):=Same.new hd
 have da:a≠d:=Zag ha hd
 have db:b≠d:=Zag hb hd
 refine⟨_,rfl,a,ka,rfl,.inl (s0 _ _ ha),λv hv=>?_⟩
 have s1:Same (upd H d (.dK [])) (upd (upd H d (.dK [])) v (Zda v a)):=Same.new hv
 have s01:=s0.trans s1
 have vd:d≠v:=λz=>by rw[← z,Zac]at hv; cases hv
 refine⟨v,a,ka,rfl,Zac,.inl ⟨s01 _ _ ha,λo1=>?_⟩⟩
 have kp0:∀c u,H c=some u→c≠a→(upd (upd (upd H d (.dK [])) v (Zda v a)) a (.frz o1 (.dK ka))) c=some u:=λc u e hc=>by rw[Zaj hc]; exact s01 _ _ e
 have ea0:(upd (upd (upd H d (.dK [])) v (Zda v a)) a (.frz o1 (.dK ka))) a=some (.frz o1 (.dK ka)):=Zac
 have ed0:(upd (upd (upd H d (.dK [])) v (Zda v a)) a (.frz o1 (.dK ka))) d=some (.dK []):=by rw[Zaj da.symm,Zaj vd]; exact Zac
 generalize (upd (upd (upd H d (.dK [])) v (Zda v a)) a (.frz o1 (.dK ka)))=H1 at kp0 ea0 ed0 ⊢
 have hkl:=hka.len
 have hkl2:=hkb.len
 refine Zjo (a:=a) (o:=o1) (kvs:=ka) (λi σ H2=>∃(v3 v4 v5:Option V) (kvs:List (Key×V)),σ = [some (.ref a),some (.ref b),some (.ref d),v3,v4,v5]∧(∀c u,H c=some u→c≠a→H2 c=some u)∧H2 a=some (.frz o1 (.dK ka))∧H2 d=some (.dK kvs)∧KA (λp:Str×Nat=>p.1) (λv p=>v=V.int (p.2:Int)) kvs ((ds.map (λd=>(d.name,bt (doI (λn=>decide (bt n≠0)) d.tab)))).take i)) ⟨none,none,none,[],rfl,kp0,ea0,ed0,by rw[take_zero]; exact KA.nil⟩
  (λi σ H2 _ hh0=>by obtain⟨_,_,_,_,_,_,e,_⟩:=hh0; exact e) ?_ ?_
 ·rintro i kv p σ H2 hkv ⟨v3,v4,v5,kvs,rfl,kp,ea,ed,kk⟩ hp
  have hil:i < ds.length:=by
   have:=(List.getElem?_eq_some_iff.mp hkv).1
   lia
  have hdi:ds[i]? = some ds[i]:=getElem?_eq_getElem hil
  obtain⟨ek,t,ev,ht⟩:=hka.got i kv _ hkv hdi
  have hdm:ds[i]∈ds:=getElem_mem hil
  generalize ds[i]=de at hdi ek ht hdm
  obtain⟨k0,v0⟩:=kv
  have ek':k0=Sum.inr de.name:=ek
  have ev':v0=V.ref t:=ev
  subst ek' ev'
  have s3:Same H2 (upd H2 p (.tup [kV (Sum.inr de.name:Key),V.ref t])):=Same.new hp
  refine⟨p,_,rfl,SqT.of Zac,rfl,_,_,rfl,_,_,rfl,rfl,?_⟩
  have ta:t≠a:=Zb4 ht ha (by intro z; cases z)
  have ht3:=s3 _ _ (kp _ _ ht ta)
  have ed3:=s3 _ _ ed
  have ea3:=s3 _ _ ea
  have kp3:∀c u,H c=some u→c≠a→(upd H2 p (.tup [kV (Sum.inr de.name:Key),V.ref t])) c=some u:=λc u e hc=>s3 _ _ (kp c u e hc)
  generalize (upd H2 p (.tup [kV (Sum.inr de.name:Key),V.ref t]))=H3 at ht3 ed3 ea3 kp3 ⊢
  have htl:=td de hdm
  refine⟨_,rfl,t,rfl,⟨_,SqT.of ht3⟩,λD hD=>?_⟩
  refine Znr (λn=>decide (bt n≠0)) (length_map ..) ht3 htl hD (λj x y H4 A B hx hy h1 h2=>?_) λH4 s4 e4=>?_
  ·rw[getElem?_map,hy]at hx
   have hx':x=V.int (bt y:Nat):=(Option.some.inj hx).symm
   subst hx'
   refine⟨_,rfl,rfl,_,rfl,?_⟩
   refine ite2 (λz=>h1 (decide_eq_true λe=>?_)) (λz=>h2 λe=>z ?_)
   ·rw[e]at z
    exact absurd z (by decide)
   have:=of_decide_eq_true e
   show(!decide (V.int ((bt y:Nat):Int)=V.int 0))=true
   rw[decide_eq_false λw=>this (by have:=V.int.inj w; lia)]
   rfl
  refine⟨D,_,rfl,SqL.of e4,Zns _ htl,?_⟩
  have ed4:=s4 _ _ ed3
  have hnone:valV kvs (Sum.inr de.name:Key)=none:=kk.none λz=>?_
  ·have hkl4:=kk.len
   rw[length_take,length_map]at hkl4
   refine⟨_,rfl,_,rfl,d,_,rfl,DPut.k (k:=(Sum.inr de.name:Key)) ed4 (by lia),?_⟩
   rw[Zc3 _ hnone]
   refine⟨_,_,_,_,rfl,λc u e hc=>?_,?_,Zac,?_⟩
   ·rw[Zaj (λz=>by rw[z,hd]at e; cases e)]
    exact s4 _ _ (kp3 c u e hc)
   ·rw[Zaj da]
    exact s4 _ _ ea3
   rw[Zec (x:=(de.name,bt (doI (λn=>decide (bt n≠0)) de.tab))) (by rw[getElem?_map,hdi]; rfl)]
   exact kk.snoc2
  rw[← map_take,map_map]at z
  have nd1:=(nodup_append.mp nd).1
  have hnd:((ds.take (i + 1)).map Dee.name).Nodup:=by
   rw[map_take]
   exact List.Sublist.nodup (take_sublist _ _) nd1
  rw[Zec hdi,map_append]at hnd
  exact(nodup_append.mp hnd).2.2 _ z de.name (mem_singleton.mpr rfl) rfl
 rintro σ H2 ⟨v3,v4,v5,kvs0,rfl,kp,ea,ed,kk0⟩
 rw[hkl,take_of_length_le (by rw[length_map]; exact Nat.le_refl _)]at kk0
 have hb2:=kp _ _ hb ab.symm
 refine⟨_,rfl,b,kb,rfl,.inr ⟨o2,hb2⟩,λv hv=>?_⟩
 have s1:Same H2 (upd H2 v (Zda v b)):=Same.new hv
 refine⟨v,b,kb,rfl,Zac,.inr ⟨o2,s1 _ _ hb2,?_⟩⟩
 have hb1:=s1 _ _ hb2
 have kp1:∀c u,H c=some u→c≠a→(upd H2 v (Zda v b)) c=some u:=λc u e hc=>s1 _ _ (kp c u e hc)
 have ea1:=s1 _ _ ea
 have ed1:=s1 _ _ ed
 generalize (upd H2 v (Zda v b))=H1 at kp1 ea1 ed1 hb1 ⊢
 refine Zjo (a:=b) (o:=o2) (kvs:=kb) (λi σ H2=>∃(v3 v4 v5:Option V) (kvs:List (Key×V)),σ = [some (.ref a),some (.ref b),some (.ref d),v3,v4,v5]∧(∀c u,H c=some u→c≠a→H2 c=some u)∧H2 a=some (.frz o1 (.dK ka))∧H2 d=some (.dK kvs)∧KA (λp:Str×Nat=>p.1) (λv p=>v=V.int (p.2:Int)) kvs (ds.map (λd=>(d.name,bt (doI (λn=>decide (bt n≠0)) d.tab))) ++ (ls.map λl=>(l.name,bt (doI isSome l.tab))).take i)) ⟨_,_,_,kvs0,rfl,kp1,ea1,ed1,by rw[take_zero,append_nil]; exact kk0⟩
  (λi σ H2 _ hh0=>by obtain⟨_,_,_,_,_,k,_⟩:=hh0; exact k _ _ hb ab.symm) ?_ ?_
 ·rintro i kv p σ H2 hkv ⟨v3,v4,v5,kvs,rfl,kp,ea,ed,kk⟩ hp
  have hil:i < ls.length:=by
   have:=(List.getElem?_eq_some_iff.mp hkv).1
   lia
  have hdi:ls[i]? = some ls[i]:=getElem?_eq_getElem hil
  obtain⟨ek,t,ev,ht⟩:=hkb.got i kv _ hkv hdi
  have hdm:ls[i]∈ls:=getElem_mem hil
  generalize ls[i]=de at hdi ek ht hdm
  obtain⟨k0,v0⟩:=kv
  have ek':k0=Sum.inr de.name:=ek
  have ev':v0=V.ref t:=ev
  subst ek' ev'
  have s3:Same H2 (upd H2 p (.tup [kV (Sum.inr de.name:Key),V.ref t])):=Same.new hp
  refine⟨p,_,rfl,SqT.of Zac,rfl,_,_,rfl,_,_,rfl,rfl,?_⟩
  have ta:t≠a:=Zb4 ht ha (by intro z; cases z)
  have ht3:=s3 _ _ (kp _ _ ht ta)
  have ed3:=s3 _ _ ed
  have ea3:=s3 _ _ ea
  have kp3:∀c u,H c=some u→c≠a→(upd H2 p (.tup [kV (Sum.inr de.name:Key),V.ref t])) c=some u:=λc u e hc=>s3 _ _ (kp c u e hc)
  generalize (upd H2 p (.tup [kV (Sum.inr de.name:Key),V.ref t]))=H3 at ht3 ed3 ea3 kp3 ⊢
  have htl:=tl de hdm
  refine⟨_,rfl,t,rfl,⟨_,SqT.of ht3⟩,λD hD=>?_⟩
  refine Znr isSome (length_map ..) ht3 htl hD (λj x y H4 A B hx hy h1 h2=>?_) λH4 s4 e4=>?_
  ·rw[getElem?_map,hy]at hx
   have hx':x=oS y:=(Option.some.inj hx).symm
   subst hx'
   refine⟨_,rfl,rfl,_,rfl,?_⟩
   cases y with
   | none=>exact iteF (h2 (by decide))
   | some z=>exact iteT (h1 rfl)
  refine⟨D,_,rfl,SqL.of e4,Zns _ htl,?_⟩
  have ed4:=s4 _ _ ed3
  have hnone:valV kvs (Sum.inr de.name:Key)=none:=kk.none λz=>?_
  ·have hkl4:=kk.len
   rw[length_append,length_take,length_map,length_map]at hkl4
   refine⟨_,rfl,_,rfl,d,_,rfl,DPut.k (k:=(Sum.inr de.name:Key)) ed4 (by lia),?_⟩
   rw[Zc3 _ hnone]
   refine⟨_,_,_,_,rfl,λc u e hc=>?_,?_,Zac,?_⟩
   ·rw[Zaj (λz=>by rw[z,hd]at e; cases e)]
    exact s4 _ _ (kp3 c u e hc)
   ·rw[Zaj da]
    exact s4 _ _ ea3
   rw[Zec (x:=(de.name,bt (doI isSome de.tab))) (by rw[getElem?_map,hdi]; rfl),← append_assoc]
   exact kk.snoc2
  rw[map_append,map_map,← map_take,map_map]at z
  have hnd:(ds.map Dee.name ++ (ls.take (i + 1)).map Loo.name).Nodup:=by
   rw[map_take]
   exact List.Sublist.nodup (List.Sublist.append (List.Sublist.refl _) (take_sublist _ _)) nd
  rw[Zec hdi,map_append,← append_assoc]at hnd
  exact(nodup_append.mp hnd).2.2 _ z de.name (mem_singleton.mpr rfl) rfl
 rintro σ H2 ⟨v3,v4,v5,kvs,rfl,kp,ea,ed,kk⟩
 rw[hkl2,take_of_length_le (by rw[length_map]; exact Nat.le_refl _)]at kk
 exact⟨_,rfl,q d kvs H2 o1 kp hd ed ea kk⟩
structure Cl (K:W.Frag) (C:Addr):Prop where
 cl:Cls K C
 n1:NoAttr K C "many"
 n2:NoAttr K C "prices"
 n3:NoAttr K C "told_outs"
 n4:NoAttr K C "told_answers"
 n5:NoAttr K C "told_parts"
 n6:NoAttr K C "told_doable"
noncomputable def f1 (m:Int):List (Str×V):=putF "many" (.int m) []
noncomputable def f2 (m:Int) (p:Addr):List (Str×V):=putF "prices" (.ref p) (f1 m)
noncomputable def f3 (m:Int) (p o:Addr):List (Str×V):=putF "told_outs" (.ref o) (f2 m p)
noncomputable def f4 (m:Int) (p o a:Addr):List (Str×V):=putF "told_answers" (.ref a) (f3 m p o)
noncomputable def f5 (m:Int) (p o a q:Addr):List (Str×V):=putF "told_parts" (.ref q) (f4 m p o a)
noncomputable def f6 (m:Int) (p o a q d:Addr):List (Str×V):=putF "told_doable" (.ref d) (f5 m p o a q)
structure ChOk (m:Nat) (ds:List Dee) (ls:List Loo) (as:List Str):Prop where
 m1:1≤m
 m2:m≤200
 fd:ds.length≤40
 fl:ls.length≤40
 nd:(ds.map Dee.name ++ ls.map Loo.name).Nodup
 so:∀d∈ds,StOk (d.name,d.price)
 sl:∀l∈ls,StOk (l.name,l.price)
 de:∀d∈ds,DeOk m d
 lo:∀l∈ls,l.tab.length=m
 an:∀l∈ls,∀s,some s∈l.tab→s∈as
 a3:as.length≤3
 ad:as.Nodup
noncomputable abbrev Zbr (ds:List Dee) (ls:List Loo):List (Str×Int):=ds.map (λd=>(d.name,d.price)) ++ ls.map λl=>(l.name,l.price)
noncomputable abbrev doOf (ds:List Dee) (ls:List Loo):List (Str×Nat):=ds.map (λd=>(d.name,bt (doI (λn=>decide (bt n≠0)) d.tab))) ++ ls.map λl=>(l.name,bt (doI isSome l.tab))
inductive PaV (H:Hp) (v:V) (l:Loo):Prop
 | mk (r:Addr) (ro:Obj) (ts:List Addr) (ps zs:List (Str×V)) (e:v=.ref r) (d0:ro.dict=none) (h:H r=some (.frz ro (.tup (ts.map V.ref)))) (hp:PrAt H ts zs) (pm:zs.Perm ps) (lt:ltP zs=true) (ok:PsOk l.tab ps):PaV H v l
structure ChAt (C:Addr) (H:Hp) (x:Addr) (m:Nat) (ds:List Dee) (ls:List Loo):Prop where
 ex:∃(dx p o a q d:Addr) (kp ko ka kq kd:List (Key×V)) (o1 o2:Obj),H x=some (.ins C dx (f6 (m:Int) p o a q d))∧H p=some (.dK kp)∧H o=some (.frz o1 (.dK ko))∧H a=some (.frz o2 (.dK ka))∧H q=some (.dK kq)∧H d=some (.dK kd) ∧
  KA (λs:Str×Int=>s.1) (λv s=>v=V.int s.2) kp (Zbr ds ls)∧KA Dee.name (OuV H) ko ds∧KA Loo.name (AnV H) ka ls∧KA Loo.name (PaV H) kq ls∧KA (λs:Str×Nat=>s.1) (λv s=>v=V.int (s.2:Int)) kd (doOf ds ls)
inductive spInitC (C:Addr) (vs:List V) (H:Hp) (Q:VK) (E0_:XK):Prop
 | mk (x dx a b:Addr) (m:Nat) (us ws:List V) (ds:List Dee) (ls:List Loo) (as:List Str) (c0:vs=[.ref x,.int (m:Int),.ref a,.ref b]) (c1:H x=some (.ins C dx [])) (c2:H a=some (.lst us)) (c3:H b=some (.lst ws)) (c4:A2 (DeV H) us ds) (c5:A2 (LoV H) ws ls) (c6:ChOk m ds ls as) (c7:∀H':Hp,(∀c u,H c=some u→c≠x→H' c=some u)→ChAt C H' x m ds ls→Q .non H'):spInitC C vs H Q E0_
noncomputable abbrev Zn3:List Str:=["self", "many", "deeds", "looks"]
noncomputable abbrev nInit:List Str:=["self", "many", "deeds", "looks"]
theorem scInit:FnScope nInit Zn3 (Zab Zi9):=⟨rfl,rfl,rfl,by decide +kernel,rfl,by decide +kernel,by decide +kernel⟩
theorem StV.kx {H H':Hp}{x C dx:Addr}{fs:List (Str×V)}(k:∀c u,H c=some u→c≠x→H' c=some u) (hx:H x=some (.ins C dx fs)) {v:V}{n:Str}{p:Int}{t:Addr}(h:StV H v n p t):StV H' v n p t:=by
 obtain⟨a,e,h⟩:=h
 exact⟨a,e,k _ _ h (Zb4 h hx (by intro z; cases z))⟩
theorem EnV.kx {H H':Hp}{x C dx:Addr}{fs:List (Str×V)}(k:∀c u,H c=some u→c≠x→H' c=some u) (hx:H x=some (.ins C dx fs)) {v:V}{ns:List Int}(h:EnV H v ns):EnV H' v ns:=by
 obtain⟨a,e,h⟩:=h
 exact⟨a,e,k _ _ h (Zb4 h hx (by intro z; cases z))⟩
theorem DeV.kx {H H':Hp}{x C dx:Addr}{fs:List (Str×V)}(k:∀c u,H c=some u→c≠x→H' c=some u) (hx:H x=some (.ins C dx fs)) {v:V}{d:Dee}(h:DeV H v d):DeV H' v d:=by
 obtain⟨t,es,st,ht,he⟩:=h
 exact⟨t,es,st.kx k hx,k _ _ ht (Zb4 ht hx (by intro z; cases z)),he.mono λv t _ r=>r.kx k hx⟩
theorem LoV.kx {H H':Hp}{x C dx:Addr}{fs:List (Str×V)}(k:∀c u,H c=some u→c≠x→H' c=some u) (hx:H x=some (.ins C dx fs)) {v:V}{l:Loo}(h:LoV H v l):LoV H' v l:=by
 obtain⟨t,st,ht⟩:=h
 exact⟨t,st.kx k hx,k _ _ ht (Zb4 ht hx (by intro z; cases z))⟩
theorem A2.map {α β:Type}{R:V→α→Prop}{S:V→β→Prop}{g:α→β}{vs:List V}{ts:List α}(h:A2 R vs ts) (m:∀v t,R v t→S v (g t)):A2 S vs (ts.map g):=⟨by rw[length_map]; exact h.len,λi v t hv ht=>by
 rw[getElem?_map]at ht
 cases e:ts[i]? with
 | none=>rw[e]at ht; cases ht
 | some x=>
  rw[e]at ht
  cases ht
  exact m v x (h.got i v x hv e)⟩
theorem putAll_go (kvs:List (Key×V)):∀acc:List (Key×V),((acc ++ kvs).map (·.1)).Nodup→kvs.foldl (λm kv=>putK m kv.1 kv.2) acc=acc ++ kvs:=by
 induction kvs with
 | nil=>exact λacc _=>(append_nil _).symm
 | cons p r ih=>
  intro acc nd
  have e:acc ++ p :: r=(acc ++ [p]) ++ r:=by simp
  rw[foldl_cons,Zc3,ih]
  ·rw[e]
  ·rw[← e]; exact nd
  cases hv:valV acc p.1 with
  | none=>rfl
  | some v=>
   exfalso
   rw[map_append,map_cons]at nd
   exact(nodup_append.mp nd).2.2 _ (Zhx hv) p.1 mem_cons_self rfl
theorem Zjb {kvs:List (Key×V)}(nd:(kvs.map (·.1)).Nodup):L2.putAll kvs=kvs:=by
 show kvs.foldl (λm kv=>putK m kv.1 kv.2) []=kvs
 rw[putAll_go kvs [] (by simpa using nd)]
 rfl
theorem Zmi {α:Type}{g:α→Str}{xs:List α}(nd:(xs.map g).Nodup):(xs.map λx=>(Sum.inr (g x):Key)).Nodup:=by
 have:(xs.map λx=>(Sum.inr (g x):Key))=(xs.map g).map Sum.inr:=by rw[map_map]; rfl
 rw[this]
 exact pairwise_map.mpr (List.Pairwise.imp (λh e=>h (Sum.inr.inj e)) nd)
theorem Zcq (ds:List Dee) (ls:List Loo):(Zbr ds ls).map (λs=>s.1)=ds.map Dee.name ++ ls.map Loo.name:=by
 unfold Zbr
 rw[map_append,map_map,map_map]
 rfl
theorem PaV.same {H H':Hp}(s:Same H H') {v:V}{l:Loo}(h:PaV H v l):PaV H' v l:=by
 obtain⟨r,ro,ts,ps,zs,e,d0,h,hp,pm,lt,ok⟩:=h
 exact⟨r,ro,ts,ps,zs,e,d0,s _ _ h,⟨hp.1,λi a p h1 h2=>s _ _ (hp.2 i a p h1 h2)⟩,pm,lt,ok⟩
theorem PaV.keep {H H':Hp}(k:∀b xs,H b=some (.tup xs)→H' b=some (.tup xs)) (k2:∀b o xs,H b=some (.frz o (.tup xs))→H' b=some (.frz o (.tup xs))) {v:V}{l:Loo}(h:PaV H v l):PaV H' v l:=by
 obtain⟨r,ro,ts,ps,zs,e,d0,h,hp,pm,lt,ok⟩:=h
 exact⟨r,ro,ts,ps,zs,e,d0,k2 _ _ _ h,⟨hp.1,λi a p h1 h2=>k _ _ (hp.2 i a p h1 h2)⟩,pm,lt,ok⟩
theorem KA.of_map {α:Type}{nm:α→Str}{R:V→α→Prop}{g:α→V}(xs:List α) (r:∀x,R (g x) x):KA nm R (xs.map λx=>((Sum.inr (nm x):Key),g x)) xs:=⟨length_map ..,λi kv d h1 h2=>by
 rw[getElem?_map,h2]at h1
 cases h1
 exact⟨rfl,r d⟩⟩
theorem ok_init {f C f1' f2' f3' f4' f5' f6':Addr}{fd d1 d2 d3 d4 d5 d6:FuncData}(F:Fun K "__init__" "Chart.__init__" Zi9 f fd) (L:Cl K C) (T:Bl mg) (D_check_many:Df K mg "check_many" Zby Zem f1' d1) (G_check_many:FnOk P w K mg base CX0 1 f1' d1 Zem spCheckMany) (D_check_steps:Df K mg "check_steps" Zbd Zdo f2' d2) (G_check_steps:FnOk P w K mg base CX0 2 f2' d2 Zdo spCheckSteps)
  (D_read_deeds:Df K mg "read_deeds" Zbk Zeh f3' d3) (G_read_deeds:FnOk P w K mg base CX0 2 f3' d3 Zeh spReadDeeds) (D_read_looks:Df K mg "read_looks" Zbu Zeg f4' d4) (G_read_looks:FnOk P w K mg base CX0 2 f4' d4 Zeg spReadLooks) (D_parted:Df K mg "parted" Zdy Zh8 f5' d5) (G_parted:FnOk P w K mg base CX0 2 f5' d5 Zh8 spParted)
  (D_doable_sets:Df K mg "doable_sets" Za8 Zdn f6' d6) (G_doable_sets:FnOk P w K mg base CX0 2 f6' d6 Zdn spDoable):FnOk P w K mg base CX0 3 f fd Zn3 (spInitC C):=by
 refine F.ok scInit (λvs H Q E h=>?_) (λcdv A outer s H vs Q E hr2 h=>?_)
 ·obtain⟨x,dx,a,b,m,us,ws,ds,ls,as,rfl,_⟩:=h
  rfl
 obtain⟨x,dx,a,b,m,us,ws,ds,ls,as,rfl,hx,ha,hb,hd,hl,ok,q⟩:=h
 have hr1:Room 1 _:=hr2.mono (by decide)
 have hsl:sizeLine=16777216:=sizeLine_eq
 refine⟨_,(Zad (Za1 (Zai G_check_many hr1 (by rfl) D_check_many.m D_check_many.F.kp D_check_many.b .nil Zap (Zaa (pv 1) Zae)))
  (Zad (Za1 (Zai G_check_steps hr2 (by rfl) D_check_steps.m D_check_steps.F.kp D_check_steps.b .nil Zap (Zaa (pv 2) (Zaa (pv 3) Zae))))
  (Zad (Ze3 (pv 0) (pv 1) rfl)
  (Zad (Ze3 (pv 0) (Za2 (Zhw rfl) (by rfl) T.dict Zm1 (Zaa (Zdv (N:=["step"]) (sc:=Zab Zi9) (own:=["step"]) (fr:=[]) (js:=[]) ⟨rfl,rfl,rfl,rfl,by decide +kernel,by decide +kernel,by decide +kernel,rfl,by decide +kernel⟩ rfl (Zaz (Zaw Zme (Za2 Zbj (by rfl) T.list Zcx (Zaa (pv 2) Zae)) (Za2 Zbj (by rfl) T.list Zcx (Zaa (pv 3) Zae)))) (λ_ _ _ _=>Zao (i:=0) (show List.Nodup (["step"]:List Str) by decide +kernel) rfl (Or.inl rfl)) (λ_ _ _ _=>Zbs) (λ_ _ _ _=>(Zct (Zaa (Za3 (Zez K rfl) (pv 0) Zah (λ_ _=>rfl)) (Zaa (Za3 (Zez K rfl) (pv 0) Zah (λ_ _=>rfl)) Zae))))) Zae)) rfl)
  (Zad (Ze3 (pv 0) (Zai G_read_deeds hr2 (by rfl) D_read_deeds.m D_read_deeds.F.kp D_read_deeds.b .nil Zap (Zaa (pv 1) (Zaa (pv 2) Zae))) rfl)
  (Zad (Ze3 (pv 0) (Zai G_read_looks hr2 (by rfl) D_read_looks.m D_read_looks.F.kp D_read_looks.b .nil Zap (Zaa (pv 1) (Zaa (pv 3) Zae))) rfl)
  (Zad (Ze3 (pv 0) (Za2 (Zhw rfl) (by rfl) T.dict Zm1 (Zaa (Zdv (N:=["name", "answers"]) (sc:=Zab Zi9) (own:=["name", "answers"]) (fr:=[]) (js:=[]) ⟨rfl,rfl,rfl,rfl,by decide +kernel,by decide +kernel,by decide +kernel,rfl,by decide +kernel⟩ rfl (Zg2 (Zh4 (Zcu (pv 0) rfl))) (λ_ _ _ _=>Zmm K rfl (Zf4 (n:=2) rfl (Za9 (Zao (i:=0) (show List.Nodup (["name", "answers"]:List Str) by decide +kernel) rfl (Or.inl rfl)) (Za9 (Zao (i:=1) (show List.Nodup (["name", "answers"]:List Str) by decide +kernel) rfl (Or.inl rfl)) Zd6)))) (λ_ _ _ _=>Zbs) (λ_ _ _ _=>(Zct (Zaa (pv 0) (Zaa (Zai G_parted hr2 (by rfl) D_parted.m D_parted.F.kp D_parted.b .nil Zap (Zaa (pv 1) Zae)) Zae))))) Zae)) rfl)
  (Zaf (Ze3 (pv 0) (Zai G_doable_sets hr2 (by rfl) D_doable_sets.m D_doable_sets.F.kp D_doable_sets.b .nil Zap (Zaa (Zcu (pv 0) rfl) (Zaa (Zcu (pv 0) rfl) Zae))) rfl))))))))),?_⟩
 -- the checks
 refine⟨_,rfl,(m:Int),rfl,by have:=ok.m1; lia,by have:=ok.m2; lia,?_⟩
 have hst:A2 (λv s=>∃t,StV H v s.1 s.2 t) (us ++ ws) (Zbr ds ls):=A2.app (hd.map λv d r=>by obtain⟨t,es,st,_⟩:=r; exact⟨t,st⟩) (hl.map λv l r=>by obtain⟨t,st,_⟩:=r; exact⟨t,st⟩)
 have fd':=ok.fd
 have fl':=ok.fl
 have hdl:=hd.len
 have hll:=hl.len
 have snd:((Zbr ds ls).map (λs=>s.1)).Nodup:=by rw[Zcq]; exact ok.nd
 refine⟨_,rfl,_,rfl,a,b,us,ws,Zbr ds ls,rfl,ha,hb,hst,by lia,by lia,snd,λs hs=>?_,λH1 s1=>?_⟩
 ·rcases(mem_append.mp hs)with z | z
  ·obtain⟨d,hd',rfl⟩:=mem_map.mp z
   exact ok.so d hd'
  obtain⟨l,hl',rfl⟩:=mem_map.mp z
  exact ok.sl l hl'
 -- the number of worlds
 have hx1:=s1 _ _ hx
 refine⟨_,rfl,_,rfl,x,C,dx,[],rfl,hx1,L.cl,L.n1,by show 0 < 1000; decide,?_⟩
 have kc2:∀c u,H c=some u→c≠x→(upd H1 x (.ins C dx (putF "many" (.int (m:Int)) []))) c=some u:=λc u e hc=>by rw[Zaj hc]; exact s1 _ _ e
 have xc2:(upd H1 x (.ins C dx (putF "many" (.int (m:Int)) []))) x=some (.ins C dx (putF "many" (.int (m:Int)) [])):=Zac
 generalize (upd H1 x (.ins C dx (putF "many" (.int (m:Int)) [])))=H2 at kc2 xc2 ⊢
 have ax:a≠x:=Zb4 ha hx (by intro z; cases z)
 have bx:b≠x:=Zb4 hb hx (by intro z; cases z)
 -- the prices
 refine⟨_,rfl,a,_,rfl,.inl (SqL.of (kc2 _ _ ha ax)),λl1 hl1=>?_⟩
 have s3:Same H2 (upd H2 l1 (.lst us)):=Same.new hl1
 have e3:(upd H2 l1 (.lst us)) l1=some (.lst us):=Zac
 generalize (upd H2 l1 (.lst us))=H3 at s3 e3 ⊢
 refine⟨_,rfl,b,_,rfl,.inl (SqL.of (s3 _ _ (kc2 _ _ hb bx))),λl2 hl2=>?_⟩
 have s4:Same H3 (upd H3 l2 (.lst ws)):=Same.new hl2
 have e4:(upd H3 l2 (.lst ws)) l2=some (.lst ws):=Zac
 generalize (upd H3 l2 (.lst ws))=H4 at s4 e4 ⊢
 refine⟨l1,l2,_,_,rfl,rfl,s4 _ _ e3,e4,by lia,λl3 hl3=>?_⟩
 have s5:Same H4 (upd H4 l3 (.lst (us ++ ws))):=Same.new hl3
 have e5:(upd H4 l3 (.lst (us ++ ws))) l3=some (.lst (us ++ ws)):=Zac
 generalize (upd H4 l3 (.lst (us ++ ws)))=H5 at s5 e5 ⊢
 have s25:=(s3.trans s4).trans s5
 have kc5:∀c u,H c=some u→c≠x→H5 c=some u:=λc u e hc=>s25 _ _ (kc2 c u e hc)
 have hst5:A2 (λv s=>∃t,StV H5 v s.1 s.2 t) (us ++ ws) (Zbr ds ls):=hst.mono λv s _ ⟨t,r⟩=>⟨t,r.kx kc5 hx⟩
 have hsl2:=hst.len
 have hul:(us ++ ws).length≤80:=by rw[length_append]; lia
 refine⟨l3,rfl,⟨_,SqL.of e5⟩,λD hD=>?_⟩
 refine lcJ (n:=(us ++ ws).length) (λi ys H6=>∃ts:List Addr,ys=ts.map V.ref∧ts.length=i∧(∀(j:Nat) t s,ts[j]? = some t→(Zbr ds ls)[j]? = some s→H6 t=some (.tup [.str s.1,.int s.2]))∧Same H5 H6∧H6 D=some (.lst ys)) ⟨[],rfl,rfl,(λj t s h=>by cases h),Same.new hD,Zac⟩
  (λi ys H6 hi ⟨_,_,_,_,s6,_⟩=>⟨_,(us ++ ws)[i],SqL.of (s6 _ _ e5),getElem?_eq_getElem hi⟩) (λys H6 hh0=>by obtain⟨_,_,_,_,s6,_⟩:=hh0; exact⟨_,SqL.of (s6 _ _ e5),Nat.le_refl _⟩) ?_ ?_
 ·rintro i ys H6 y H7 hi ⟨ts,rfl,hts,ht,s6,e6⟩ ⟨rfl,hy⟩
  refine Zce ?_
  obtain⟨sp,hsp,hmem,t,a',rfl,et⟩:=hst5.at (hy _ (SqL.of (s6 _ _ e5)))
  have at0:atI [V.str sp.1,V.int sp.2,V.ref t] ((0:Nat):Int)=some (.str sp.1):=Zav rfl
  have at1:atI [V.str sp.1,V.int sp.2,V.ref t] ((1:Nat):Int)=some (.int sp.2):=Zav rfl
  have et6:=s6 _ _ et
  refine⟨_,rfl,a',_,_,_,rfl,rfl,SqT.of et6,at0,_,rfl,a',_,_,_,rfl,rfl,SqT.of et6,at1,by show 2≤sizeLine; lia,λtp htp=>?_⟩
  have s7:Same H7 (upd H7 tp (.tup [.str sp.1,.int sp.2])):=Same.new htp
  have tD:tp≠D:=(Zag e6 htp).symm
  refine⟨_,s7 _ _ e6,by rw[length_map]; lia,ts ++ [tp],by rw[map_append]; rfl,by rw[length_append,hts]; rfl,λj t' s' h1 h2=>?_,(s6.trans s7).put hD,Zac⟩
  by_cases hj:j < ts.length
  ·rw[getElem?_append_left hj]at h1
   have:=ht j t' s' h1 h2
   rw[Zaj (Zb4 this e6 (by intro z; cases z))]
   exact s7 _ _ this
  rw[getElem?_append_right (by lia)]at h1
  have h0:j - ts.length=0:=by
   have:=(List.getElem?_eq_some_iff.mp h1).1
   simp at this
   lia
  rw[h0]at h1
  cases h1
  have ej:j=i:=by lia
  subst ej
  rw[hsp]at h2
  cases h2
  rw[Zaj tD]
  exact Zac
 rintro ys H6 ⟨ts,rfl,hts,ht,s6,e6⟩
 have nk:(((Zbr ds ls).map λs=>((Sum.inr s.1:Key),V.int s.2)).map (·.1)).Nodup:=by
  rw[map_map]
  exact Zmi (g:=λs:Str×Int=>s.1) snd
 refine⟨D,ts,(Zbr ds ls).map λs=>((Sum.inr s.1:Key),V.int s.2),rfl,e6,by rw[length_map,hts,hsl2],by rw[length_map,← hsl2]; lia,λi t k v h1 h2=>?_,λdp hdp=>?_⟩
 ·rw[getElem?_map]at h2
  cases hs:(Zbr ds ls)[i]? with
  | none=>rw[hs]at h2; cases h2
  | some s=>
   rw[hs]at h2
   cases h2
   exact ht i t s h1 hs
 rw[Zjb nk]
 have kaP:KA (λs:Str×Int=>s.1) (λv s=>v=V.int s.2) ((Zbr ds ls).map λs=>((Sum.inr s.1:Key),V.int s.2)) (Zbr ds ls):=KA.of_map (nm:=λs:Str×Int=>s.1) (g:=λs:Str×Int=>V.int s.2) _ λ_=>rfl
 generalize ((Zbr ds ls).map λs=>((Sum.inr s.1:Key),V.int s.2))=kp at kaP ⊢
 have s7:Same H6 (upd H6 dp (.dK kp)):=Same.new hdp
 have s27:=(s25.trans s6).trans s7
 have xp:x≠dp:=λz=>by
  have:=(s25.trans s6) _ _ xc2
  rw[z,hdp]at this
  cases this
 refine⟨_,rfl,x,C,dx,_,rfl,s27 _ _ xc2,L.cl,L.n2,by show 1 < 1000; decide,?_⟩
 have kcA:∀c u,H c=some u→c≠x→(upd (upd H6 dp (.dK kp)) x (.ins C dx (putF "prices" (.ref dp) (putF "many" (.int (m:Int)) [])))) c=some u:=λc u e hc=>by rw[Zaj hc]; exact s27 _ _ (kc2 c u e hc)
 have xcA:(upd (upd H6 dp (.dK kp)) x (.ins C dx (putF "prices" (.ref dp) (putF "many" (.int (m:Int)) [])))) x=some (.ins C dx (f2 (m:Int) dp)):=Zac
 have pA:(upd (upd H6 dp (.dK kp)) x (.ins C dx (putF "prices" (.ref dp) (putF "many" (.int (m:Int)) [])))) dp=some (.dK kp):=by rw[Zaj xp.symm]; exact Zac
 generalize (upd (upd H6 dp (.dK kp)) x (.ins C dx (putF "prices" (.ref dp) (putF "many" (.int (m:Int)) []))))=HA at kcA xcA pA ⊢
 -- the deeds
 have ndD:=(nodup_append.mp ok.nd).1
 have ndL:=(nodup_append.mp ok.nd).2.1
 refine⟨_,rfl,_,rfl,m,a,us,ds,rfl,ok.m2,kcA _ _ ha ax,hd.mono (λv d _ r=>r.kx kcA hx),ok.de,ndD,fd',λdO kO HB sB fB eB kaO=>?_⟩
 have xO:x≠dO:=λz=>by rw[z,fB]at xcA; cases xcA
 refine⟨_,rfl,x,C,dx,_,rfl,sB _ _ xcA,L.cl,L.n3,by show 2 < 1000; decide,?_⟩
 have kcC:∀c u,H c=some u→c≠x→(upd HB x (.ins C dx (putF "told_outs" (.ref dO) (f2 (m:Int) dp)))) c=some u:=λc u e hc=>by rw[Zaj hc]; exact sB _ _ (kcA c u e hc)
 have xcC:(upd HB x (.ins C dx (putF "told_outs" (.ref dO) (f2 (m:Int) dp)))) x=some (.ins C dx (f3 (m:Int) dp dO)):=Zac
 have pC:(upd HB x (.ins C dx (putF "told_outs" (.ref dO) (f2 (m:Int) dp)))) dp=some (.dK kp):=by rw[Zaj xp.symm]; exact sB _ _ pA
 have oC:(upd HB x (.ins C dx (putF "told_outs" (.ref dO) (f2 (m:Int) dp)))) dO=some (.dK kO):=by rw[Zaj xO.symm]; exact eB
 have kaOC:KA Dee.name (OuV (upd HB x (.ins C dx (putF "told_outs" (.ref dO) (f2 (m:Int) dp))))) kO ds:=kaO.mono λv d _ r=>r.keep λb xs e=>by
  rw[Zaj (Zb4 e (sB _ _ xcA) (by intro z; cases z))]
  exact e
 generalize (upd HB x (.ins C dx (putF "told_outs" (.ref dO) (f2 (m:Int) dp))))=HC at kcC xcC pC oC kaOC ⊢
 -- the looks
 refine⟨_,rfl,_,rfl,m,b,ws,ls,rfl,ok.m2,kcC _ _ hb bx,hl.mono (λv d _ r=>r.kx kcC hx),ok.lo,ndL,fl',λdA kA HD sD fD eD kaA=>?_⟩
 have xA:x≠dA:=λz=>by rw[z,fD]at xcC; cases xcC
 have pOA:dO≠dA:=λz=>by rw[z,fD]at oC; cases oC
 refine⟨_,rfl,x,C,dx,_,rfl,sD _ _ xcC,L.cl,L.n4,by show 3 < 1000; decide,?_⟩
 have kcE:∀c u,H c=some u→c≠x→(upd HD x (.ins C dx (putF "told_answers" (.ref dA) (f3 (m:Int) dp dO)))) c=some u:=λc u e hc=>by rw[Zaj hc]; exact sD _ _ (kcC c u e hc)
 have xcE:(upd HD x (.ins C dx (putF "told_answers" (.ref dA) (f3 (m:Int) dp dO)))) x=some (.ins C dx (f4 (m:Int) dp dO dA)):=Zac
 have pE:(upd HD x (.ins C dx (putF "told_answers" (.ref dA) (f3 (m:Int) dp dO)))) dp=some (.dK kp):=by rw[Zaj xp.symm]; exact sD _ _ pC
 have oE:(upd HD x (.ins C dx (putF "told_answers" (.ref dA) (f3 (m:Int) dp dO)))) dO=some (.dK kO):=by rw[Zaj xO.symm]; exact sD _ _ oC
 have aE:(upd HD x (.ins C dx (putF "told_answers" (.ref dA) (f3 (m:Int) dp dO)))) dA=some (.dK kA):=by rw[Zaj xA.symm]; exact eD
 have tupE:∀b xs,HD b=some (.tup xs)→(upd HD x (.ins C dx (putF "told_answers" (.ref dA) (f3 (m:Int) dp dO)))) b=some (.tup xs):=λb xs e=>by
  rw[Zaj (Zb4 e (sD _ _ xcC) (by intro z; cases z))]
  exact e
 have kaOE:=kaOC.mono λv d _ r=>OuV.keep (λb xs e=>tupE b xs (sD _ _ e)) r
 have kaAE:=kaA.mono λv d _ r=>AnV.keep tupE r
 generalize (upd HD x (.ins C dx (putF "told_answers" (.ref dA) (f3 (m:Int) dp dO))))=HE at kcE xcE pE oE aE kaOE kaAE ⊢
 -- the parts
 have lk4:(f4 (m:Int) dp dO dA).lookup ("told_answers" : Str)=some (.ref dA):=by
  unfold f4
  rw[Zam,if_pos rfl]
 refine⟨_,rfl,x,C,dx,_,_,rfl,xcE,L.cl,L.n4,lk4,dA,kA,rfl,.inl aE,λv hv=>?_⟩
 have sv:Same HE (upd HE v (Zda v dA)):=Same.new hv
 refine⟨v,dA,kA,rfl,Zac,.inl ⟨sv _ _ aE,λo2=>?_⟩⟩
 have kF:∀c u,HE c=some u→c≠dA→(upd (upd HE v (Zda v dA)) dA (.frz o2 (.dK kA))) c=some u:=λc u e hc=>by rw[Zaj hc]; exact sv _ _ e
 have aF:(upd (upd HE v (Zda v dA)) dA (.frz o2 (.dK kA))) dA=some (.frz o2 (.dK kA)):=Zac
 generalize (upd (upd HE v (Zda v dA)) dA (.frz o2 (.dK kA)))=HF at kF aF ⊢
 have pAA:dp≠dA:=λz=>by rw[z,fD]at pC; cases pC
 have xF:=kF _ _ xcE xA
 have pF:=kF _ _ pE pAA
 have oF:=kF _ _ oE pOA
 have tupF:∀b xs,HE b=some (.tup xs)→HF b=some (.tup xs):=λb xs e=>kF _ _ e (Zb4 e aE (by intro z; cases z))
 have kaOF:=kaOE.mono λv d _ r=>OuV.keep tupF r
 have kaAF:=kaAE.mono λv d _ r=>AnV.keep tupF r
 have hkA:=kaAF.len
 intro D hD
 refine lcJ2 (K:=K) (n:=kA.length) (λi ys HG=>∃(ts:List Addr) (kvs:List (Key×V)),ys=ts.map V.ref∧ts.length=kvs.length∧(∀(j:Nat) t k v,ts[j]? = some t→kvs[j]? = some (k,v)→HG t=some (.tup [kV k,v]))∧KA Loo.name (PaV HG) kvs (ls.take i)∧Same HF HG∧HG D=some (.lst ys)) ⟨[],[],rfl,rfl,(λj t k v h=>by cases h),by rw[take_zero]; exact KA.nil,Same.new hD,Zac⟩
  (λi ys HG hi hh0=>by obtain⟨_,_,_,_,_,_,sG,_⟩:=hh0; exact⟨hi,sG _ _ aF⟩) (λys HG hh0=>by obtain⟨_,_,_,_,_,_,sG,_⟩:=hh0; exact⟨Nat.le_refl _,sG _ _ aF⟩) ?_ ?_
 ·rintro i ys HG y HH hi ⟨ts,kvs,rfl,hts,ht,kk,sG,eG⟩ ⟨pp,k,v,rfl,hpp,rfl,hx2⟩
  have hil:i < ls.length:=by lia
  have hli:ls[i]? = some ls[i]:=getElem?_eq_getElem hil
  have hlm:ls[i]∈ls:=getElem_mem hil
  obtain⟨ek,t,ev,htt⟩:=kaAF.got i _ _ hx2 hli
  generalize ls[i]=lo at hli hlm ek htt
  have ek':k=Sum.inr lo.name:=ek
  have ev':v=V.ref t:=ev
  subst ek' ev'
  have sP:Same HG (upd HG pp (.tup [kV (Sum.inr lo.name:Key),V.ref t])):=Same.new hpp
  refine⟨pp,_,_,rfl,SqT.of Zac,Zce ?_⟩
  have lt:=ok.lo lo hlm
  have m2:=ok.m2
  refine⟨_,rfl,_,rfl,t,lo.tab,as,rfl,(sG.trans sP) _ _ htt,by lia,ok.an lo hlm,ok.a3,ok.ad,λr ro ts' ps zs HI sI rd0 er pr pm ltz po=>?_⟩
  refine⟨by show 2≤sizeLine; lia,λtp htp=>?_⟩
  have sT:Same HI (upd HI tp (.tup [.str lo.name,.ref r])):=Same.new htp
  have eI:=(sP.trans sI) _ _ eG
  have tD:tp≠D:=(Zag eI htp).symm
  have kkl:=kk.len
  rw[length_take]at kkl
  have sAll:=(sP.trans sI).trans sT
  have tupU:∀b xs (o:HO),(upd HI tp (.tup [.str lo.name,.ref r])) b=some (.tup xs)→(upd (upd HI tp (.tup [.str lo.name,.ref r])) D o) b=some (.tup xs):=λb xs o e=>by
   rw[Zaj (Zb4 e (sT _ _ eI) (by intro z; cases z))]
   exact e
  have tupV:∀b ob xs (o:HO),(upd HI tp (.tup [.str lo.name,.ref r])) b=some (.frz ob (.tup xs))→(upd (upd HI tp (.tup [.str lo.name,.ref r])) D o) b=some (.frz ob (.tup xs)):=λb ob xs o e=>by
   rw[Zaj (Zb4 e (sT _ _ eI) (by intro z; cases z))]
   exact e
  refine⟨_,sT _ _ eI,by rw[length_map]; lia,ts ++ [tp],kvs ++ [(Sum.inr lo.name,.ref r)],by rw[map_append]; rfl,by rw[length_append,length_append,hts]; rfl,λj t' k' v' h1 h2=>?_,?_,(sG.trans sAll).put hD,Zac⟩
  ·by_cases hj:j < ts.length
   ·rw[getElem?_append_left hj]at h1
    rw[getElem?_append_left (by lia)]at h2
    exact tupU _ _ _ (sAll _ _ (ht j t' k' v' h1 h2))
   rw[getElem?_append_right (by lia)]at h1
   rw[getElem?_append_right (by lia),← hts]at h2
   have h0:j - ts.length=0:=by
    have:=(List.getElem?_eq_some_iff.mp h1).1
    simp at this
    lia
   rw[h0]at h1 h2
   cases h1
   cases h2
   rw[Zaj tD]
   exact Zac
  rw[Zec hli]
  refine KA.snoc (kk.mono λv d _ rr=>(rr.same sAll).keep (λb xs e=>tupU _ _ _ e) (λb o xs e=>tupV _ _ _ _ e)) ?_
  have pv:PaV HI (V.ref r) lo:=⟨r,ro,ts',ps,zs,rfl,rd0,er,pr,pm,ltz,po⟩
  exact(pv.same sT).keep (λb xs e=>tupU _ _ _ e) (λb o xs e=>tupV _ _ _ _ e)
 rintro ys HG ⟨ts,kq,rfl,hts,ht,kk,sG,eG⟩
 rw[hkA,take_length]at kk
 have nkq:(kq.map (·.1)).Nodup:=by
  rw[kk.keysE]
  exact Zmi ndL
 have kql:=kk.len
 refine⟨D,ts,kq,rfl,eG,hts,by lia,ht,λdq hdq=>?_⟩
 rw[Zjb nkq]
 have sq:Same HG (upd HG dq (.dK kq)):=Same.new hdq
 have sGq:=sG.trans sq
 have xq:x≠dq:=λz=>by
  have:=sG _ _ xF
  rw[z,hdq]at this
  cases this
 refine⟨_,rfl,x,C,dx,_,rfl,sGq _ _ xF,L.cl,L.n5,by show 4 < 1000; decide,?_⟩
 have xI:(upd (upd HG dq (.dK kq)) x (.ins C dx (putF "told_parts" (.ref dq) (f4 (m:Int) dp dO dA)))) x=some (.ins C dx (f5 (m:Int) dp dO dA dq)):=Zac
 have kI:∀c u,HF c=some u→c≠x→(upd (upd HG dq (.dK kq)) x (.ins C dx (putF "told_parts" (.ref dq) (f4 (m:Int) dp dO dA)))) c=some u:=λc u e hc=>by rw[Zaj hc]; exact sGq _ _ e
 have qI:(upd (upd HG dq (.dK kq)) x (.ins C dx (putF "told_parts" (.ref dq) (f4 (m:Int) dp dO dA)))) dq=some (.dK kq):=by rw[Zaj xq.symm]; exact Zac
 have tupI:∀b xs,HG b=some (.tup xs)→(upd (upd HG dq (.dK kq)) x (.ins C dx (putF "told_parts" (.ref dq) (f4 (m:Int) dp dO dA)))) b=some (.tup xs):=λb xs e=>by
  rw[Zaj (Zb4 e (sG _ _ xF) (by intro z; cases z))]
  exact sq _ _ e
 have frzI:∀b ob xs,HG b=some (.frz ob (.tup xs))→(upd (upd HG dq (.dK kq)) x (.ins C dx (putF "told_parts" (.ref dq) (f4 (m:Int) dp dO dA)))) b=some (.frz ob (.tup xs)):=λb ob xs e=>by
  rw[Zaj (Zb4 e (sG _ _ xF) (by intro z; cases z))]
  exact sq _ _ e
 have kkI:=kk.mono λv d _ r=>PaV.keep tupI frzI r
 generalize (upd (upd HG dq (.dK kq)) x (.ins C dx (putF "told_parts" (.ref dq) (f4 (m:Int) dp dO dA))))=HI at xI kI qI tupI kkI ⊢
 have pI:=kI _ _ pF xp.symm
 have oI:=kI _ _ oF xO.symm
 have aI:=kI _ _ aF xA.symm
 have tupI2:∀b xs,HF b=some (.tup xs)→HI b=some (.tup xs):=λb xs e=>tupI b xs (sG _ _ e)
 have kaOI:=kaOF.mono λv d _ r=>OuV.keep tupI2 r
 have kaAI:=kaAF.mono λv d _ r=>AnV.keep tupI2 r
 -- what can be done
 have lk3:(f5 (m:Int) dp dO dA dq).lookup ("told_outs" : Str)=some (.ref dO):=by
  unfold f5 f4 f3
  rw[Zam,if_neg (by decide +kernel),Zam,if_neg (by decide +kernel),Zam,if_pos rfl]
 have lk4':(f5 (m:Int) dp dO dA dq).lookup ("told_answers" : Str)=some (.ref dA):=by
  unfold f5 f4
  rw[Zam,if_neg (by decide +kernel),Zam,if_pos rfl]
 have m2:=ok.m2
 refine⟨_,rfl,x,C,dx,_,_,rfl,xI,L.cl,L.n3,lk3,_,rfl,x,C,dx,_,_,rfl,xI,L.cl,L.n4,lk4',dO,dA,kO,kA,ds,ls,o2,rfl,pOA,oI,aI,kaOI,kaAI,ok.nd,fd',fl',(λd hd'=>by rw[(ok.de d hd').len]; exact m2),(λl hl'=>by rw[ok.lo l hl']; exact m2),λdd kd HJ o1 kJ fJ eJ oJ kaD=>?_⟩
 have xO':x≠dO:=xO
 have xJ:=kJ _ _ xI xO'
 have xd:x≠dd:=λz=>by rw[z,fJ]at xI; cases xI
 refine⟨_,rfl,x,C,dx,_,rfl,xJ,L.cl,L.n6,by show 5 < 1000; decide,?_⟩
 have pO:dp≠dO:=λz=>by rw[z,fB]at pA; cases pA
 have qO:dq≠dO:=λz=>by
  have:=sG _ _ oF
  rw[← z,hdq]at this
  cases this
 have keep:∀c u,HJ c=some u→c≠x→(upd HJ x (.ins C dx (putF "told_doable" (.ref dd) (f5 (m:Int) dp dO dA dq)))) c=some u:=λc u e hc=>by rw[Zaj hc]; exact e
 have tupJ:∀b xs,HI b=some (.tup xs)→(upd HJ x (.ins C dx (putF "told_doable" (.ref dd) (f5 (m:Int) dp dO dA dq)))) b=some (.tup xs):=λb xs e=>
  keep _ _ (kJ _ _ e (Zb4 e oI (by intro z; cases z))) (Zb4 e xI (by intro z; cases z))
 have frzJ:∀b ob xs,HI b=some (.frz ob (.tup xs))→(upd HJ x (.ins C dx (putF "told_doable" (.ref dd) (f5 (m:Int) dp dO dA dq)))) b=some (.frz ob (.tup xs)):=λb ob xs e=>
  keep _ _ (kJ _ _ e (Zb4 e oI (by intro z; cases z))) (Zb4 e xI (by intro z; cases z))
 refine q _ (λc u e hc=>keep c u (kJ c u (kI c u (kF c u (kcE c u e hc) ?_) hc) ?_) hc) ⟨dx,dp,dO,dA,dq,dd,kp,kO,kA,kq,kd,o1,o2,Zac,keep _ _ (kJ _ _ pI pO) xp.symm,keep _ _ oJ xO.symm,keep _ _ (kJ _ _ aI pOA.symm) xA.symm,keep _ _ (kJ _ _ qI qO) xq.symm,keep _ _ eJ xd.symm,kaP,kaOI.mono λv d _ r=>OuV.keep tupJ r,kaAI.mono λv d _ r=>AnV.keep tupJ r,kkI.mono λv d _ r=>PaV.keep tupJ frzJ r,kaD⟩
 ·intro z
  have:=kcC c u e hc
  rw[z,fD]at this
  cases this
 intro z
 have:=kcA c u e hc
 rw[z,fB]at this
 cases this
theorem ok_worldsof {f:Addr}{fd:FuncData}(F:Fun K "worlds_of" "worlds_of" Zbn f fd) (T:Bl mg):FnOk P w K mg base CX0 1 f fd Zdb spWof:=by
 refine F.ok scWorldsOf (λvs H Q E h=>?_) (λcdv A outer s H vs Q E hr h=>?_)
 ·obtain⟨m,rfl,_⟩:=h
  rfl
 obtain⟨m,rfl,hm,q⟩:=h
 have hsl:sizeLine=16777216:=sizeLine_eq
 refine⟨_,(Zaf (Zan (Zdv (N:=["world", "some"]) (sc:=Zab Zbn) (own:=["world"]) (fr:=["some"]) (js:=[0]) ⟨rfl,rfl,rfl,rfl,by decide +kernel,by decide +kernel,by decide +kernel,rfl,by decide +kernel⟩ rfl (Zbo (by rfl) T.range (Zaa (Zmb PySem.F.plainAttrs_int PySem.F.slot_int_bit_length PySem.F.type_int_bit_length Zji (pv 0)) Zae)) (λ_ _ _ _=>Zao (i:=0) (show List.Nodup (["world", "some"]:List Str) by decide +kernel) rfl (Or.inl rfl)) (λ_ _ _ _=>Zet (Zau Zdw (Zaw Zhn (Zaw Znp (pv 1) (pv 0)) Zah) Zah (Zay _))) (λ_ _ _ _=>(pv 0))))),?_⟩
 have hnb:nb m≤200:=nb_le hm
 have hnb2:Builtin.Int.intBits (m:Int)≤200:=hnb
 refine⟨_,rfl,rfl,_,rfl,rfl,_,rfl,by lia,by lia,λD hD=>?_⟩
 refine lcJ (n:=nb m) (λi ys H2=>ys=(((List.range i).filter λj=>m.testBit j).map λ(j:Nat)=>(j:Int)).map V.int∧Same H H2∧H2 D=some (.lst ys)) ⟨rfl,Same.new hD,Zac⟩
  (λi ys H2 hi _=>by show i < _; rw[toNat_natCast]; exact hi) (λys H2 _=>by show _≤nb m; rw[toNat_natCast]; exact Nat.le_refl _) ?_ ?_
 ·rintro i ys H2 x H3 hi ⟨rfl,s2,e2⟩ ⟨rfl,rfl⟩
  have e0:(0 + (i:Int)).toNat=i:=by lia
  refine⟨_,rfl,_,rfl,_,_,rfl,rfl,by show(0:Int)≤0 + (i:Int); lia,_,_,rfl,rfl,rfl,_,rfl,?_⟩
  rw[e0,Znx]
  have hl:((((List.range i).filter λj=>m.testBit j).map λ(j:Nat)=>(j:Int)).map V.int).length < sizeLine:=by
   rw[length_map,length_map]
   have:=length_filter_le (λj=>m.testBit j) (List.range i)
   rw[length_range]at this
   lia
  cases hb:m.testBit i with
  | true=>
   refine Zn5 rfl ?_
   refine⟨_,rfl,_,e2,hl,?_,s2.put hD,Zac⟩
   rw[range_succ,filter_append,map_append,map_append]
   simp[hb]
  | false=>
   refine Zn6 (by decide) ?_
   refine⟨?_,s2,?_⟩
   ·rw[range_succ,filter_append]
    simp[hb]
   exact e2
 rintro ys H2 ⟨rfl,s2,e2⟩
 exact q D H2 s2 hD e2
structure Er (K:W.Frag) (mg:Str→Option Value) (G NN:Addr):Prop where
 mG:mg "GropeError" = some (.ref G)
 mN:mg "NoName" = some (.ref NN)
 oG:PySem.W.excIn K G bmV "ValueError.__new__" = true
 oN:PySem.W.excIn K NN bmV "ValueError.__new__" = true
 sub:mroIn K NN G=true
noncomputable abbrev Out (H:Hp) (E:XK) (NN:Addr):Prop:=∀(b:Addr) (H':Hp),Same H H'→H' b=none→E (.ref b) (some NN) H'
theorem Zgf {m:Int}{p o a q d:Addr}{f:Str}(h:f∉(["many", "prices", "told_outs", "told_answers", "told_parts", "told_doable"]:List Str)):(f6 m p o a q d).lookup f=none:=by
 simp only[mem_cons,not_mem_nil,or_false,not_or]at h
 obtain⟨h1,h2,h3,h4,h5,h6⟩:=h
 unfold f6 f5 f4 f3 f2 f1
 rw[Zam,if_neg h6,Zam,if_neg h5,Zam,if_neg h4,Zam,if_neg h3,Zam,if_neg h2,Zam,if_neg h1]
 rfl
theorem Zg9 {m:Int}{p o a q d:Addr}:(f6 m p o a q d).lookup ("prices" : Str)=some (.ref p):=by
 unfold f6 f5 f4 f3 f2
 rw[Zam,if_neg (by decide +kernel),Zam,if_neg (by decide +kernel),Zam,if_neg (by decide +kernel),Zam,if_neg (by decide +kernel),Zam,if_pos rfl]
theorem Zis {m:Int}{p o a q d:Addr}:(f6 m p o a q d).lookup ("told_outs" : Str)=some (.ref o):=by
 unfold f6 f5 f4 f3
 rw[Zam,if_neg (by decide +kernel),Zam,if_neg (by decide +kernel),Zam,if_neg (by decide +kernel),Zam,if_pos rfl]
theorem Zfq {m:Int}{p o a q d:Addr}:(f6 m p o a q d).lookup ("told_answers" : Str)=some (.ref a):=by
 unfold f6 f5 f4
 rw[Zam,if_neg (by decide +kernel),Zam,if_neg (by decide +kernel),Zam,if_pos rfl]
theorem ChAt.same {C:Addr}{H H':Hp}{x:Addr}{m:Nat}{ds:List Dee}{ls:List Loo}(h:ChAt C H x m ds ls) (s:Same H H'):ChAt C H' x m ds ls:=by
 obtain⟨dx,p,o,a,q,d,kp,ko,ka,kq,kd,o1,o2,h1,h2,h3,h4,h5,h6,k1,k2,k3,k4,k5⟩:=h.ex
 exact⟨dx,p,o,a,q,d,kp,ko,ka,kq,kd,o1,o2,s _ _ h1,s _ _ h2,s _ _ h3,s _ _ h4,s _ _ h5,s _ _ h6,k1,k2.mono λv d _ r=>OuV.keep (λb xs e=>s _ _ e) r,k3.mono λv d _ r=>AnV.keep (λb xs e=>s _ _ e) r,k4.mono λv d _ r=>PaV.keep (λb xs e=>s _ _ e) (λb o xs e=>s _ _ e) r,k5⟩
theorem KA.keysS {α:Type}{nm:α→Str}{R:V→α→Prop}{kvs:List (Key×V)}{ds:List α}(h:KA nm R kvs ds):kvs.map (λkv=>kV kv.1)=(ds.map nm).map V.str:=by
 have e:kvs.map (λkv=>kV kv.1)=(kvs.map (·.1)).map kV:=by rw[map_map]; rfl
 rw[e,h.keysE,map_map,map_map]
 rfl
noncomputable def Rp (x:Str):Prop:=(reprText x).length≤100000
inductive spDeedNames (C:Addr) (vs:List V) (H:Hp) (Q:VK) (E0_:XK):Prop
 | mk (x:Addr) (m:Nat) (ds:List Dee) (ls:List Loo) (c0:vs=[.ref x]) (c1:ChAt C H x m ds ls) (c2:∀(l:Addr) (H':Hp),Same H H'→H l=none→H' l=some (.lst ((ds.map Dee.name).map V.str))→Q (.ref l) H'):spDeedNames C vs H Q E0_
inductive spLookNames (C:Addr) (vs:List V) (H:Hp) (Q:VK) (E0_:XK):Prop
 | mk (x:Addr) (m:Nat) (ds:List Dee) (ls:List Loo) (c0:vs=[.ref x]) (c1:ChAt C H x m ds ls) (c2:∀(l:Addr) (H':Hp),Same H H'→H l=none→H' l=some (.lst ((ls.map Loo.name).map V.str))→Q (.ref l) H'):spLookNames C vs H Q E0_
inductive spOutSets (C NN:Addr) (vs:List V) (H:Hp) (Q:VK) (E:XK):Prop
 | mk (x:Addr) (m:Nat) (ds:List Dee) (ls:List Loo) (n:Str) (c0:vs=[.ref x,.str n]) (c1:ChAt C H x m ds ls) (c2:(ds.map Dee.name ++ ls.map Loo.name).Nodup) (c3:((n∉ds.map Dee.name∧Rp n∧Out H E NN)∨∃d∈ds,d.name=n∧∀t,H t=some (.tup (d.tab.map λn=>V.int (bt n:Nat)))→Q (.ref t) H)):spOutSets C NN vs H Q E
inductive spCheckDeed (C NN:Addr) (vs:List V) (H:Hp) (Q:VK) (E:XK):Prop
 | mk (x:Addr) (m:Nat) (ds:List Dee) (ls:List Loo) (n:Str) (c0:vs=[.ref x,.str n]) (c1:ChAt C H x m ds ls) (c2:(ds.map Dee.name ++ ls.map Loo.name).Nodup) (c3:((n∉ds.map Dee.name∧Rp n∧Out H E NN)∨(n∈ds.map Dee.name∧Q .non H))):spCheckDeed C NN vs H Q E
inductive spCheckLook (C NN:Addr) (vs:List V) (H:Hp) (Q:VK) (E:XK):Prop
 | mk (x:Addr) (m:Nat) (ds:List Dee) (ls:List Loo) (n:Str) (c0:vs=[.ref x,.str n]) (c1:ChAt C H x m ds ls) (c2:(ds.map Dee.name ++ ls.map Loo.name).Nodup) (c3:((n∉ls.map Loo.name∧Rp n∧Out H E NN)∨(n∈ls.map Loo.name∧Q .non H))):spCheckLook C NN vs H Q E
inductive spCheckStep (C NN:Addr) (vs:List V) (H:Hp) (Q:VK) (E:XK):Prop
 | mk (x:Addr) (m:Nat) (ds:List Dee) (ls:List Loo) (n:Str) (c0:vs=[.ref x,.str n]) (c1:ChAt C H x m ds ls) (c2:(ds.map Dee.name ++ ls.map Loo.name).Nodup) (c3:((n∉ds.map Dee.name ++ ls.map Loo.name∧Rp n∧Out H E NN)∨(n∈ds.map Dee.name ++ ls.map Loo.name∧Q .non H))):spCheckStep C NN vs H Q E
inductive spPriceOf (C NN:Addr) (vs:List V) (H:Hp) (Q:VK) (E:XK):Prop
 | mk (x:Addr) (m:Nat) (ds:List Dee) (ls:List Loo) (n:Str) (c0:vs=[.ref x,.str n]) (c1:ChAt C H x m ds ls) (c2:(ds.map Dee.name ++ ls.map Loo.name).Nodup) (c3:((n∉ds.map Dee.name ++ ls.map Loo.name∧Rp n∧Out H E NN)∨∃s∈Zbr ds ls,s.1=n∧Q (.int s.2) H)):spPriceOf C NN vs H Q E
noncomputable abbrev Zfk:List Str:=["self"]
noncomputable abbrev nDeedNames:List Str:=["self"]
theorem scDeedNames:FnScope nDeedNames Zfk (Zab Zcm):=⟨rfl,rfl,rfl,by decide +kernel,rfl,by decide +kernel,by decide +kernel⟩
noncomputable abbrev Zfh:List Str:=["self"]
noncomputable abbrev nLookNames:List Str:=["self"]
theorem scLookNames:FnScope nLookNames Zfh (Zab Zcl):=⟨rfl,rfl,rfl,by decide +kernel,rfl,by decide +kernel,by decide +kernel⟩
noncomputable abbrev Zgl:List Str:=["self", "name"]
noncomputable abbrev nPriceOf:List Str:=["self", "name"]
theorem scPriceOf:FnScope nPriceOf Zgl (Zab Zed):=⟨rfl,rfl,rfl,by decide +kernel,rfl,by decide +kernel,by decide +kernel⟩
noncomputable abbrev Zh9:List Str:=["self", "name"]
noncomputable abbrev nOutSets:List Str:=["self", "name"]
theorem scOutSets:FnScope nOutSets Zh9 (Zab Zee):=⟨rfl,rfl,rfl,by decide +kernel,rfl,by decide +kernel,by decide +kernel⟩
noncomputable abbrev Zfm:List Str:=["self", "name"]
noncomputable abbrev nCheckDeed:List Str:=["self", "name"]
theorem scCheckDeed:FnScope nCheckDeed Zfm (Zab Zcp):=⟨rfl,rfl,rfl,by decide +kernel,rfl,by decide +kernel,by decide +kernel⟩
noncomputable abbrev Zfl:List Str:=["self", "name"]
noncomputable abbrev nCheckLook:List Str:=["self", "name"]
theorem scCheckLook:FnScope nCheckLook Zfl (Zab Zco):=⟨rfl,rfl,rfl,by decide +kernel,rfl,by decide +kernel,by decide +kernel⟩
noncomputable abbrev Zek:List Str:=["self", "name"]
noncomputable abbrev nCheckStep:List Str:=["self", "name"]
theorem scCheckStep:FnScope nCheckStep Zek (Zab Zcn):=⟨rfl,rfl,rfl,by decide +kernel,rfl,by decide +kernel,by decide +kernel⟩
theorem ok_checkdeed {f C G NN:Addr}{fd:FuncData}(F:Fun K "check_deed" "Chart.check_deed" Zcp f fd) (L:Cl K C) (R':Er K mg G NN):FnOk P w K mg base (CXe P w) 1 f fd Zfm (spCheckDeed C NN):=by
 refine F.okE scCheckDeed (λvs H Q E h=>?_) (λcdv A outer s H vs Q E hr h=>?_)
 ·obtain⟨x,m,ds,ls,n,rfl,_⟩:=h
  rfl
 obtain⟨x,m,ds,ls,n,rfl,R,nd,q⟩:=h
 have hu:=Zdr hr
 obtain⟨dx,p,o,a,q',d,kp,ko,ka,kq,kd,o1,o2,h1,h2,h3,h4,h5,h6,k1,k2,k3,k4,k5⟩:=R.ex
 refine⟨_,(Zaf (Za4 (Zjc (Ze4 hu (pv 1) (Zcu (pv 0) rfl))) (Zaf (Zh1 R'.oN (by rfl) R'.mN (Zaa (Zh5 (pv 1) (by decide +kernel)) Zae))) Zar)),?_⟩
 rcases q with⟨hn,rp,q⟩ | ⟨hn,q⟩
 ·have dg:DGet H o (.str n) none:=.inl ⟨ko,(Sum.inr n:Key),.inr ⟨o1,h3⟩,rfl,(k2.none hn).symm⟩
  refine⟨_,rfl,_,rfl,x,C,dx,_,_,rfl,h1,L.cl,L.n3,Zis,o,_,rfl,dg,_,rfl,?_⟩
  refine iteT ?_
  exact⟨_,rfl,n,rfl,rp,by show 1≤1000; decide,λb hb=>q b _ (Same.refl _) hb⟩
 obtain⟨de,hde,rfl⟩:=mem_map.mp hn
 obtain⟨v,hv,t,rfl,ht⟩:=k2.val (nodup_append.mp nd).1 hde
 have dg:DGet H o (.str de.name) (some (.ref t)):=.inl ⟨ko,(Sum.inr de.name:Key),.inr ⟨o1,h3⟩,rfl,hv.symm⟩
 refine⟨_,rfl,_,rfl,x,C,dx,_,_,rfl,h1,L.cl,L.n3,Zis,o,_,rfl,dg,_,rfl,?_⟩
 exact iteF q
theorem ok_outsets {f C G NN f1':Addr}{fd d_check_deed:FuncData}(F:Fun K "out_sets" "Chart.out_sets" Zee f fd) (L:Cl K C) (R':Er K mg G NN) (b_check_deed:Binds K d_check_deed ["self", "name"] []) (m_check_deed:Meth K C "check_deed" f1') (G_check_deed:FnOk P w K mg base (CXe P w) 1 f1' d_check_deed Zfm (spCheckDeed C NN)):FnOk P w K mg base (CXe P w) 2 f fd Zh9 (spOutSets C NN):=by
 refine F.okE scOutSets (λvs H Q E h=>?_) (λcdv A outer s H vs Q E hr1 h=>?_)
 ·obtain⟨x,m,ds,ls,n,rfl,_⟩:=h
  rfl
 obtain⟨x,m,ds,ls,n,rfl,R,nd,q⟩:=h
 have hu:=Zdr hr1
 have R0:=R
 obtain⟨dx,p,o,a,q',d,kp,ko,ka,kq,kd,o1,o2,h1,h2,h3,h4,h5,h6,k1,k2,k3,k4,k5⟩:=R.ex
 refine⟨_,(Zad (Za1 (Zc8 (pv 0) L.cl m_check_deed G_check_deed hr1 b_check_deed .nil Zmc (Zaa (pv 1) Zae)))
  (Zaf (Zan (Zd7 hu (Zcu (pv 0) rfl) (pv 1) (λ_ _=>rfl))))),?_⟩
 refine⟨_,rfl,x,dx,_,rfl,h1,Zgf (by decide +kernel),_,rfl,x,m,ds,ls,n,rfl,R0,nd,?_⟩
 rcases q with⟨hn,rp,q⟩ | ⟨de,hde,rfl,q⟩
 ·exact .inl ⟨hn,rp,q⟩
 refine .inr ⟨mem_map.mpr ⟨de,hde,rfl⟩,?_⟩
 obtain⟨v,hv,t,rfl,ht⟩:=k2.val (nodup_append.mp nd).1 hde
 have dg:DGet H o (.str de.name) (some (.ref t)):=.inl ⟨ko,(Sum.inr de.name:Key),.inr ⟨o1,h3⟩,rfl,hv.symm⟩
 exact⟨_,rfl,x,C,dx,_,_,rfl,h1,L.cl,L.n3,Zis,_,rfl,o,_,rfl,dg,q t ht⟩
theorem ok_checklook {f C G NN:Addr}{fd:FuncData}(F:Fun K "check_look" "Chart.check_look" Zco f fd) (L:Cl K C) (R':Er K mg G NN):FnOk P w K mg base (CXe P w) 1 f fd Zfl (spCheckLook C NN):=by
 refine F.okE scCheckLook (λvs H Q E h=>?_) (λcdv A outer s H vs Q E hr h=>?_)
 ·obtain⟨x,m,ds,ls,n,rfl,_⟩:=h
  rfl
 obtain⟨x,m,ds,ls,n,rfl,R,nd,q⟩:=h
 have hu:=Zdr hr
 obtain⟨dx,p,o,a,q',d,kp,ko,ka,kq,kd,o1,o2,h1,h2,h3,h4,h5,h6,k1,k2,k3,k4,k5⟩:=R.ex
 refine⟨_,(Zaf (Za4 (Zjc (Ze4 hu (pv 1) (Zcu (pv 0) rfl))) (Zaf (Zh1 R'.oN (by rfl) R'.mN (Zaa (Zh5 (pv 1) (by decide +kernel)) Zae))) Zar)),?_⟩
 rcases q with⟨hn,rp,q⟩ | ⟨hn,q⟩
 ·have dg:DGet H a (.str n) none:=.inl ⟨ka,(Sum.inr n:Key),.inr ⟨o2,h4⟩,rfl,(k3.none hn).symm⟩
  refine⟨_,rfl,_,rfl,x,C,dx,_,_,rfl,h1,L.cl,L.n4,Zfq,a,_,rfl,dg,_,rfl,?_⟩
  refine iteT ?_
  exact⟨_,rfl,n,rfl,rp,by show 1≤1000; decide,λb hb=>q b _ (Same.refl _) hb⟩
 obtain⟨l,hlm,rfl⟩:=mem_map.mp hn
 obtain⟨v,hv,t,rfl,ht⟩:=k3.val (nodup_append.mp nd).2.1 hlm
 have dg:DGet H a (.str l.name) (some (.ref t)):=.inl ⟨ka,(Sum.inr l.name:Key),.inr ⟨o2,h4⟩,rfl,hv.symm⟩
 refine⟨_,rfl,_,rfl,x,C,dx,_,_,rfl,h1,L.cl,L.n4,Zfq,a,_,rfl,dg,_,rfl,?_⟩
 exact iteF q
theorem ok_checkstep {f C G NN:Addr}{fd:FuncData}(F:Fun K "check_step" "Chart.check_step" Zcn f fd) (L:Cl K C) (R':Er K mg G NN):FnOk P w K mg base (CXe P w) 1 f fd Zek (spCheckStep C NN):=by
 refine F.okE scCheckStep (λvs H Q E h=>?_) (λcdv A outer s H vs Q E hr h=>?_)
 ·obtain⟨x,m,ds,ls,n,rfl,_⟩:=h
  rfl
 obtain⟨x,m,ds,ls,n,rfl,R,nd,q⟩:=h
 have hu:=Zdr hr
 obtain⟨dx,p,o,a,q',d,kp,ko,ka,kq,kd,o1,o2,h1,h2,h3,h4,h5,h6,k1,k2,k3,k4,k5⟩:=R.ex
 refine⟨_,(Zaf (Za4 (Zjc (Ze4 hu (pv 1) (Zcu (pv 0) rfl))) (Zaf (Zh1 R'.oN (by rfl) R'.mN (Zaa (Zh5 (pv 1) (by decide +kernel)) Zae))) Zar)),?_⟩
 rcases q with⟨hn,rp,q⟩ | ⟨hn,q⟩
 ·have dg:DGet H p (.str n) none:=.inl ⟨kp,(Sum.inr n:Key),.inl h2,rfl,(k1.none (by rw[Zcq]; exact hn)).symm⟩
  refine⟨_,rfl,_,rfl,x,C,dx,_,_,rfl,h1,L.cl,L.n2,Zg9,p,_,rfl,dg,_,rfl,?_⟩
  refine iteT ?_
  exact⟨_,rfl,n,rfl,rp,by show 1≤1000; decide,λb hb=>q b _ (Same.refl _) hb⟩
 rw[← Zcq]at hn nd
 obtain⟨sp,hsm,rfl⟩:=mem_map.mp hn
 obtain⟨v,hv,rfl⟩:=k1.val nd hsm
 have dg:DGet H p (.str sp.1) (some (.int sp.2)):=.inl ⟨kp,(Sum.inr sp.1:Key),.inl h2,rfl,hv.symm⟩
 refine⟨_,rfl,_,rfl,x,C,dx,_,_,rfl,h1,L.cl,L.n2,Zg9,p,_,rfl,dg,_,rfl,?_⟩
 exact iteF q
noncomputable abbrev Sm (x:Str):Prop:=∀c∈cs x,c < 128
theorem Sm.rp {x:Str}(h:Sm x) (l:x.length≤300):Rp x:=by
 have h1:=StrLaws.reprText_len x λc hc=>by
  have:=h c hc
  lia
 unfold Rp
 lia
theorem Sm.ok {x:Str}(h:Sm x):strOk x=true:=ok_of λc hc=>by
 have:=h c hc
 lia
structure Lb (x:Str):Prop where
 l1:1≤x.length
 l2:x.length≤30
 sm:Sm x
theorem Lb.rp {x:Str}(h:Lb x):Rp x:=h.sm.rp (by have:=h.l2; lia)
theorem cs_mk (l:List Nat):cs ⟨l.toArray⟩=l:=rfl
theorem Zjj (l:List Nat):(Str.mk l.toArray).length=l.length:=by rw[← Zlg,cs_mk]
noncomputable def cl (ns:List Int) (k:Int):Int:=ns.getD k.toNat 0
noncomputable def dw (ns:List Int) (k p m:Int):Int:=(cl ns k * 48271 + 7919 * k * k + 11) % p * 742938285 % 2147483629 % m
theorem Zn7 (ns:List Int) (k p:Int) {m:Int}(h:0 < m):0≤dw ns k p m:=emod_nonneg _ (by lia)
theorem Zn8 (ns:List Int) (k p:Int) {m:Int}(h:0 < m):dw ns k p m < m:=emod_lt_of_pos _ h
inductive spCell (K:W.Frag) (vs:List V) (H:Hp) (Q:VK) (E0_:XK):Prop
 | mk (a:Addr) (ns:List Int) (k:Int) (c0:vs=[.ref a,.int k]) (c1:SqL K H a (ns.map V.int)) (c2:ns.length≤63) (c3:0≤k) (c4:Q (.int (cl ns k)) H):spCell K vs H Q E0_
inductive spDrawD (K:W.Frag) (vs:List V) (H:Hp) (Q:VK) (E0_:XK):Prop
 | mk (a:Addr) (ns:List Int) (k p m:Int) (c0:vs=[.ref a,.int k,.int p,.int m]) (c1:SqL K H a (ns.map V.int)) (c2:ns.length≤63) (c3:0≤k) (c4:k < 1000000) (c5:0 < p) (c6:0 < m) (c7:Q (.int (dw ns k p m)) H):spDrawD K vs H Q E0_
inductive spDraw (K:W.Frag) (vs:List V) (H:Hp) (Q:VK) (E0_:XK):Prop
 | mk (a:Addr) (ns:List Int) (k p m:Int) (c0:vs=[.ref a,.int k,.int p,.int m]) (c1:SqL K H a (ns.map V.int)) (c2:ns.length≤63) (c3:0≤k) (c4:k < 1000000) (c5:0 < p) (c6:0 < m) (c7:∀r:Int,0≤r→r < m→Q (.int r) H):spDraw K vs H Q E0_
noncomputable abbrev Zhm:List Str:=["_law_script", "_law_k"]
noncomputable abbrev nLCell:List Str:=["_law_script", "_law_k"]
theorem scLCell:FnScope nLCell Zhm (Zab Ze1):=⟨rfl,rfl,rfl,by decide +kernel,rfl,by decide +kernel,by decide +kernel⟩
noncomputable abbrev Zbb:List Str:=["_law_script", "_law_k", "_law_prime", "_law_many_here"]
noncomputable abbrev nLDraw:List Str:=["_law_script", "_law_k", "_law_prime", "_law_many_here", "_law_mixed"]
theorem scLDraw:FnScope nLDraw Zbb (Zab Zb5):=⟨rfl,rfl,rfl,by decide +kernel,rfl,by decide +kernel,by decide +kernel⟩
noncomputable def rm (H:Hp) (S:List Addr):Hp:=λc=>if c∈S then none else H c
theorem Zdt {H:Hp}{S:List Addr}{c:Addr}{o:HO}(h:c∈S):rm (upd H c o) S=rm H S:=by
 funext b
 unfold rm
 by_cases hb:b∈S
 ·rw[if_pos hb,if_pos hb]
 rw[if_neg hb,if_neg hb,Zaj (λz=>hb (by rw[z]; exact h))]
theorem Zbm {H:Hp}{S:List Addr}{c:Addr}(h:c∉S):rm H S c=H c:=if_neg h
theorem Zdj {H:Hp}{S:List Addr}:Same (rm H S) H:=λb u e=>by
 unfold rm at e
 split at e
 ·cases e
 exact e
theorem Zbf {H H':Hp}{S:List Addr}(s:Same H H'):Same (rm H S) (rm H' S):=λb u e=>by
 unfold rm at e ⊢
 split at e
 ·cases e
 rename_i hb
 rw[if_neg hb]
 exact s _ _ e
theorem Zkj {H:Hp}{S S':List Addr}(h:∀c∈S',c∈S):Same (rm H S) (rm H S'):=λb u e=>by
 unfold rm at e ⊢
 split at e
 ·cases e
 rename_i hb
 rw[if_neg λz=>hb (h _ z)]
 exact e
theorem A2.one {α:Type}{R:V→α→Prop}{v:V}{t:α}(r:R v t):A2 R [v] [t]:=⟨rfl,λi v' t' h1 h2=>by
 cases i with
 | zero=>cases h1; cases h2; exact r
 | succ i=>cases h1⟩
theorem A2.nil {α:Type}{R:V→α→Prop}:A2 R [] []:=⟨rfl,λi v t h=>by cases h⟩
theorem ok_cell {f:Addr}{fd:FuncData}(F:Fun K "_law_cell" "_law_cell" Ze1 f fd) (T:Bl mg):FnOk P w K mg base CX0 1 f fd Zhm (spCell K):=by
 refine F.ok scLCell (λvs H Q E h=>?_) (λcdv A outer s H vs Q E hr h=>?_)
 ·obtain⟨a,ns,k,rfl,_⟩:=h
  rfl
 obtain⟨a,ns,k,rfl,hS,hn,k0,q⟩:=h
 obtain⟨j,rfl⟩:∃j:Nat,(j:Int)=k:=⟨k.toNat,toNat_of_nonneg k0⟩
 have hl:(ns.map V.int).length=ns.length:=length_map ..
 refine⟨_,(Zad (Za4 (Zau Zik (pv 1) (Za0 Zds (by rfl) T.len PySem.boot_len (Zaa (pv 0) Zae)) (Zay _)) (Zaf (Zan (Za3 Zch (pv 0) (pv 1) (λ_ _=>rfl)))) Zar)
  (Zaf (Zan Zah))),?_⟩
 refine⟨_,rfl,_,rfl,_,_,rfl,.inl ⟨_,hS,rfl⟩,_,_,rfl,rfl,_,rfl,?_⟩
 refine ite2 (λhp=>?_) (λhp=>?_)
 ·have hp':j < ns.length:=by
   have:=of_decide_eq_true hp
   rw[hl]at this
   lia
  have hc:cl ns (j:Int)=ns[j]:=by
   unfold cl
   rw[toNat_natCast]
   simp[List.getD,hp']
  rw[hc]at q
  exact⟨_,rfl,_,rfl,a,_,_,_,rfl,rfl,hS,Zav (v:=V.int ns[j]) (by simp[hp']),q⟩
 have hp':¬j < ns.length:=λz=>hp (decide_eq_true (by rw[hl]; lia))
 have hc:cl ns (j:Int)=0:=by
  unfold cl
  rw[toNat_natCast,getD_eq_getElem?_getD,getElem?_eq_none (by lia)]
  rfl
 rw[hc]at q
 exact q
theorem ok_drawD {f f1:Addr}{fd d1:FuncData}(F:Fun K "_law_draw" "_law_draw" Zb5 f fd) (D_l_cell:Df K mg "_law_cell" Ze1 Zhm f1 d1) (G_l_cell:FnOk P w K mg base CX0 1 f1 d1 Zhm (spCell K)):FnOk P w K mg base CX0 2 f fd Zbb (spDrawD K):=by
 refine F.ok scLDraw (λvs H Q E h=>?_) (λcdv A outer s H vs Q E hr1 h=>?_)
 ·obtain⟨a,ns,k,p,m,rfl,_⟩:=h
  rfl
 obtain⟨a,ns,k,p,m,rfl,hS,hn,k0,k1,p0,m0,q⟩:=h
 refine⟨_,(Zad (Zas (i:=4) scLDraw.nd rfl (Or.inl rfl) (Zaw Zjh (Zaw Zb2 (Zaw Zb2 (Zaw Zg3 (Zai G_l_cell hr1 (by rfl) D_l_cell.m D_l_cell.F.kp D_l_cell.b .nil Zap (Zaa (pv 0) (Zaa (pv 1) Zae))) Zah) (Zaw Zg3 (Zaw Zg3 Zah (pv 1)) (pv 1))) Zah) (pv 2)))
  (Zaf (Zan (Zaw Zjh (Zaw Zjh (Zaw Zg3 (pv 4) Zah) Zah) (pv 3))))),?_⟩
 refine⟨_,rfl,_,rfl,a,ns,k,rfl,hS,hn,k0,?_⟩
 refine⟨_,_,rfl,rfl,.inr ⟨by decide,by decide⟩,_,rfl,_,_,rfl,rfl,.inl ⟨by decide,by decide⟩,_,rfl,_,_,rfl,rfl,.inl ⟨by lia,by lia⟩,_,_,rfl,rfl,_,_,rfl,rfl,_,rfl,_,_,rfl,rfl,p0,?_⟩
 exact⟨_,rfl,_,_,rfl,rfl,.inr ⟨by decide,by decide⟩,_,_,rfl,rfl,(by show(0:Int) < _; decide),_,rfl,_,_,rfl,rfl,m0,q⟩
theorem ok_draw {f:Addr}{fd:FuncData}(G:FnOk P w K mg base CX0 2 f fd Zbb (spDrawD K)):FnOk P w K mg base CX0 2 f fd Zbb (spDraw K):=
 G.imp λvs H Q E h=>by
  obtain⟨a,ns,k,p,m,e,hS,hn,k0,k1,p0,m0,q⟩:=h
  exact⟨a,ns,k,p,m,e,hS,hn,k0,k1,p0,m0,q _ (Zn7 _ _ _ m0) (Zn8 _ _ _ m0)⟩
noncomputable abbrev sgA:Str:=Str.ofString " !\"#$&'()*+,-./0123456789:;<=>?@ABCDEFGHIJKLMNOPQRSTUVWXYZ[\\]^_"
noncomputable abbrev sgB:Str:=Str.ofString "`abcdefghijklmnopqrstuvwxyz{|}~"
noncomputable def sgL:List Nat:=(sgA ++ sgB).cps.toList
theorem sgL_len:sgL.length=94:=by decide +kernel
theorem sgL_lt:∀c∈sgL,c < 128:=by decide +kernel
theorem sg_len:(sgA ++ sgB).length≤sizeLine:=by
 have h:(sgA ++ sgB).length=94:=by decide +kernel
 have:=sizeLine_eq
 lia
theorem sgA_len:sgA.length + sgB.length≤sizeLine:=by
 have h:sgA.length + sgB.length=94:=by decide +kernel
 have:=sizeLine_eq
 lia
noncomputable def sgn (n:Int):Nat:=sgL.getD (n % 94).toNat 0
theorem Zni (n:Int):sgL[(n % 94).toNat]? = some (sgn n):=by
 have h0:=emod_nonneg n (show(94:Int)≠0 by decide)
 have h1:=emod_lt_of_pos n (show(0:Int) < 94 by decide)
 have:(n % 94).toNat < sgL.length:=by rw[sgL_len]; lia
 unfold sgn
 rw[getD_eq_getElem?_getD,getElem?_eq_getElem this]
 rfl
theorem sgn_lt (n:Int):sgn n < 128:=sgL_lt _ (mem_of_getElem? (Zni n))
inductive spSign (vs:List V) (H:Hp) (Q:VK) (E0_:XK):Prop
 | mk (n:Int) (c0:vs=[.int n]) (c1:Q (.str ⟨#[sgn n]⟩) H):spSign  vs H Q E0_
noncomputable def wz (ns:List Int) (k:Int):Int:=if dw ns k 15013 8=0 then 30 else 1 + dw ns k 10007 6
theorem Zln (ns:List Int) (k:Int):1≤wz ns k∧wz ns k≤30:=by
 have h1:=Zn7 ns k 10007 (m:=6) (by decide)
 have h2:=Zn8 ns k 10007 (m:=6) (by decide)
 unfold wz
 split <;> lia
noncomputable def wa (ns:List Int) (k:Int):Int:=dw ns k 20011 (wz ns k)
theorem Zn0 (ns:List Int) (k:Int):0≤wa ns k∧wa ns k < wz ns k:=⟨Zn7 _ _ _ (by have:=Zln ns k; lia),Zn8 _ _ _ (by have:=Zln ns k; lia)⟩
noncomputable def wb (ns:List Int) (k:Int) (n:Nat):List Nat:=(List.range n).map λ(m:Nat)=>sgn (dw ns (k + (m:Int)) 25013 94)
theorem Zfs (ns:List Int) (k:Int) (n:Nat):(wb ns k n).length=n:=by
 unfold wb
 rw[length_map,length_range]
theorem wb_lt (ns:List Int) (k:Int) (n:Nat):∀c∈wb ns k n,c < 128:=λc hc=>by
 obtain⟨m,_,rfl⟩:=mem_map.mp hc
 exact sgn_lt _
noncomputable def wdL (ns:List Int) (k:Int) (c:Nat):List Nat:=(wb ns k (wz ns k).toNat).take (wa ns k).toNat ++ [c] ++ (wb ns k (wz ns k).toNat).drop ((wa ns k).toNat + 1)
noncomputable def wdS (ns:List Int) (k:Int) (c:Nat):Str:=⟨(wdL ns k c).toArray⟩
theorem Zlt (ns:List Int) (k:Int) (c:Nat):(wdL ns k c).length=(wz ns k).toNat:=by
 have h1:=Zln ns k
 have h2:=Zn0 ns k
 unfold wdL
 rw[length_append,length_append,length_take,length_drop,Zfs,length_singleton]
 lia
theorem Zi0 (ns:List Int) (k:Int) {c:Nat}(hc:c < 128):Lb (wdS ns k c):=by
 have h1:=Zln ns k
 refine⟨by unfold wdS; rw[Zjj,Zlt]; lia,by unfold wdS; rw[Zjj,Zlt]; lia,λz hz=>?_⟩
 have hz':z∈wdL ns k c:=hz
 unfold wdL at hz'
 rcases mem_append.mp hz' with y | y
 ·rcases(mem_append.mp y)with x | x
  ·exact wb_lt _ _ _ _ (mem_of_mem_take x)
  rw[mem_singleton.mp x]; exact hc
 exact wb_lt _ _ _ _ (List.mem_of_mem_drop y)
theorem wdS_inj {ns:List Int}{k:Int}{c d:Nat}(h:wdS ns k c=wdS ns k d):c=d:=by
 have e:wdL ns k c=wdL ns k d:=congrArg cs h
 have h1:=Zln ns k
 have h2:=Zn0 ns k
 have e2:(wdL ns k c)[(wa ns k).toNat]? = (wdL ns k d)[(wa ns k).toNat]?:=by rw[e]
 have lt:((wb ns k (wz ns k).toNat).take (wa ns k).toNat).length=(wa ns k).toNat:=by
  rw[length_take,Zfs]
  lia
 have g:∀(A B:List Nat) (x n:Nat),A.length=n→(A ++ [x] ++ B)[n]? = some x:=λA B x n e=>by subst e; simp
 unfold wdL at e2
 rw[g _ _ _ _ lt,g _ _ _ _ lt]at e2
 exact Option.some.inj e2
theorem Ziz {ns:List Int}{k:Int}{l:List Nat}(h:l.Nodup):(l.map (wdS ns k)).Nodup:=pairwise_map.mpr (h.imp λn e=>n (wdS_inj e))
theorem join_none:∀xs:List Str,cs (Txt.join (Str.ofString "") xs)=(xs.map cs).flatten:=λxs=>by
 have e:Txt.join (Str.ofString "") xs=Str.join (Str.ofString "") xs:=StrLaws.glued_eq_join _ _
 rw[e]
 induction xs with
 | nil=>rfl
 | cons x r ih=>
  cases r with
  | nil=>show cs x=_; simp
  | cons y r=>
   show cs (x ++ Str.ofString "" ++ Str.join (Str.ofString "") (y :: r))=_
   rw[Zjv,Zjv,ih (StrLaws.glued_eq_join _ _),show cs (Str.ofString "")=[] from by decide +kernel]
   simp
theorem one_flat {α:Type}(xs:List α) (g:α→Nat):((xs.map λm=>(⟨#[g m]⟩:Str)).map cs).flatten=xs.map g:=by
 induction xs with
 | nil=>rfl
 | cons x r ih=>rw[map_cons,map_cons,List.flatten_cons,ih]; rfl
theorem join_wb (ns:List Int) (k:Int) (n:Nat):Txt.join (Str.ofString "") ((List.range n).map λ(m:Nat)=>(⟨#[sgn (dw ns (k + (m:Int)) 25013 94)]⟩:Str))=⟨(wb ns k n).toArray⟩:=by
 apply Znu
 rw[join_none,one_flat (g:=λ(m:Nat)=>sgn (dw ns (k + (m:Int)) 25013 94))]
 rfl
inductive spWords (K:W.Frag) (vs:List V) (H:Hp) (Q:VK) (E0_:XK):Prop
 | mk (a:Addr) (ns:List Int) (k:Int) (z:Str) (c0:vs=[.ref a,.int k,.str z]) (c1:SqL K H a (ns.map V.int)) (c2:ns.length≤63) (c3:0≤k) (c4:k < 1000) (c5:Sm z) (c6:z.length≤10) (c7:∀(l:Addr) (H':Hp),Same H H'→H l=none→H' l=some (.lst (((cs z).map (wdS ns k)).map V.str))→Q (.ref l) H'):spWords K vs H Q E0_
noncomputable abbrev Zkv:List Str:=["_law_number"]
noncomputable abbrev nLSign:List Str:=["_law_number", "_law_some"]
theorem scLSign:FnScope nLSign Zkv (Zab Zfw):=⟨rfl,rfl,rfl,by decide +kernel,rfl,by decide +kernel,by decide +kernel⟩
noncomputable abbrev Zfi:List Str:=["_law_script", "_law_k", "_law_letters"]
noncomputable abbrev nLWords:List Str:=["_law_script", "_law_k", "_law_letters", "_law_size", "_law_at", "_law_base"]
theorem scLWords:FnScope nLWords Zfi (Zab Zcr):=⟨rfl,rfl,rfl,by decide +kernel,rfl,by decide +kernel,by decide +kernel⟩
theorem ok_sign {f:Addr}{fd:FuncData}(F:Fun K "_law_sign" "_law_sign" Zfw f fd):FnOk P w K mg base CX0 1 f fd Zkv spSign:=by
 refine F.ok scLSign (λvs H Q E h=>?_) (λcdv A outer s H vs Q E hr h=>?_)
 ·obtain⟨n,rfl,_⟩:=h
  rfl
 obtain⟨n,rfl,q⟩:=h
 refine⟨_,(Zad (Zas (i:=1) scLSign.nd rfl (Or.inl rfl) Zf5)
  (Zad (Zas (i:=1) scLSign.nd rfl (Or.inl rfl) (Zaw Zfn (pv 1) Zf5))
  (Zaf (Zan (Za3 ix_str (pv 1) (Zaw Zjh (pv 0) Zah) (λ_ _=>rfl)))))),?_⟩
 refine⟨_,rfl,sgA,sgB,rfl,rfl,sgA_len,?_⟩
 have hat:=Zav (Zni n)
 rw[toNat_of_nonneg (emod_nonneg n (by decide))]at hat
 exact⟨_,rfl,_,rfl,_,_,rfl,rfl,(by show(0:Int) < _; decide),_,_,_,rfl,rfl,sg_len,hat,q⟩
theorem ok_words {f f1 f2:Addr}{fd d1 d2:FuncData}(F:Fun K "_law_words" "_law_words" Zcr f fd) (T:Bl mg) (D_l_draw:Df K mg "_law_draw" Zb5 Zbb f1 d1) (G_l_draw:FnOk P w K mg base CX0 2 f1 d1 Zbb (spDrawD K)) (D_l_sign:Df K mg "_law_sign" Zfw Zkv f2 d2) (G_l_sign:FnOk P w K mg base CX0 1 f2 d2 Zkv spSign):FnOk P w K mg base CX0 3 f fd Zfi (spWords K):=by
 refine F.ok scLWords (λvs H Q E h=>?_) (λcdv A outer s H vs Q E hr2 h=>?_)
 ·obtain⟨a,ns,k,z,rfl,_⟩:=h
  rfl
 obtain⟨a,ns,k,z,rfl,hS,hn,k0,k1,hz,hzl,q⟩:=h
 have hr1:Room 1 _:=hr2.mono (by decide)
 have hsl:sizeLine=16777216:=sizeLine_eq
 refine⟨_,(Zad (Zas (i:=3) scLWords.nd rfl (Or.inl rfl) (Zaw Zb2 Zah (Zai G_l_draw hr2 (by rfl) D_l_draw.m D_l_draw.F.kp D_l_draw.b .nil Zap (Zaa (pv 0) (Zaa (pv 1) (Zaa Zah (Zaa Zah Zae)))))))
  (Zad (Za4 (Zau Zdw (Zai G_l_draw hr2 (by rfl) D_l_draw.m D_l_draw.F.kp D_l_draw.b .nil Zap (Zaa (pv 0) (Zaa (pv 1) (Zaa Zah (Zaa Zah Zae))))) Zah (Zay _)) (Zaf (Zas (i:=3) scLWords.nd rfl (Or.inl rfl) Zah)) Zar)
  (Zad (Zas (i:=4) scLWords.nd rfl (Or.inr rfl) (Zai G_l_draw hr2 (by rfl) D_l_draw.m D_l_draw.F.kp D_l_draw.b .nil Zap (Zaa (pv 0) (Zaa (pv 1) (Zaa Zah (Zaa (pv 3) Zae))))))
  (Zad (Zas (i:=5) scLWords.nd rfl (Or.inr rfl) (Zge PySem.F.plainAttrs_str PySem.F.slot_str_join PySem.F.type_str_join mt_join Zf5 (Zaa (Zdv (N:=["_law_m", "_law_script", "_law_k"]) (sc:=Zab Zcr) (own:=["_law_m"]) (fr:=["_law_script", "_law_k"]) (js:=[0,1]) ⟨rfl,rfl,rfl,rfl,by decide +kernel,by decide +kernel,by decide +kernel,rfl,by decide +kernel⟩ rfl (Zbo (by rfl) T.range (Zaa (pv 3) Zae)) (λ_ _ _ _=>Zao (i:=0) (show List.Nodup (["_law_m", "_law_script", "_law_k"]:List Str) by decide +kernel) rfl (Or.inl rfl)) (λ_ _ _ _=>Zbs) (λ_ _ _ _=>(Zai G_l_sign hr1 (by rfl) D_l_sign.m D_l_sign.F.kp D_l_sign.b .nil Zap (Zaa (Zai G_l_draw hr2 (by rfl) D_l_draw.m D_l_draw.F.kp D_l_draw.b .nil Zap (Zaa (pv 1) (Zaa (Zaw Zb2 (pv 2) (pv 0)) (Zaa Zah (Zaa Zah Zae))))) Zae)))) Zae)))
  (Zaf (Zan (Zdv (N:=["_law_letter", "_law_base", "_law_at"]) (sc:=Zab Zcr) (own:=["_law_letter"]) (fr:=["_law_base", "_law_at"]) (js:=[5,4]) ⟨rfl,rfl,rfl,rfl,by decide +kernel,by decide +kernel,by decide +kernel,rfl,by decide +kernel⟩ rfl (pi_str (pv 2)) (λ_ _ _ _=>Zao (i:=0) (show List.Nodup (["_law_letter", "_law_base", "_law_at"]:List Str) by decide +kernel) rfl (Or.inl rfl)) (λ_ _ _ _=>Zbs) (λ_ _ _ _=>(Zaw Zfn (Zaw Zfn (Zkm Znh (pv 1) Zl7 (Zl6 (pv 2))) (pv 0)) (Zkm Znh (pv 1) (Zl6 (Zaw Zb2 (pv 2) Zah)) Zl7)))))))))),?_⟩
 have z1:=Zln ns k
 have a1:=Zn0 ns k
 refine⟨_,rfl,_,rfl,a,ns,k,_,_,rfl,hS,hn,k0,by lia,by decide,by decide,⟨_,_,rfl,rfl,?_⟩⟩
 dsimp only
 refine Zhy (λσ' H'=>σ'=[some (.ref a),some (.int k),some (.str z),some (.int (wz ns k)),none,none]∧H'=H) ?_ (λN hN=>?_)
 ·rintro σ' H' ⟨rfl,rfl⟩
  refine⟨_,rfl,_,rfl,_,rfl,a,ns,k,_,_,rfl,hS,hn,k0,by lia,by decide,by lia,?_⟩
  have ea:dw ns k 20011 (wz ns k)=wa ns k:=rfl
  rw[ea]
  refine⟨rfl,_,rfl,_,rfl,by lia,by lia,λD hD=>?_⟩
  refine lcJ (n:=(wz ns k).toNat) (λi ys H2=>ys=((List.range i).map λ(m:Nat)=>(⟨#[sgn (dw ns (k + (m:Int)) 25013 94)]⟩:Str)).map V.str∧Same H' H2∧H2 D=some (.lst ys)) ⟨rfl,Same.new hD,Zac⟩
   (λi _ _ hi _=>hi) (λ_ _ _=>Nat.le_refl _) ?_ ?_
  ·rintro i ys H2 v H3 hi ⟨rfl,s2,e2⟩ ⟨rfl,rfl⟩
   refine Zce ?_
   refine⟨_,rfl,_,rfl,_,rfl,_,_,rfl,rfl,a,ns,_,_,_,rfl,s2.seq hS,hn,by lia,by lia,by decide,by decide,_,rfl,?_⟩
   refine⟨_,e2,by rw[length_map,length_map,length_range]; lia,?_,s2.put hD,Zac⟩
   rw[range_succ,map_append,map_append,Int.zero_add]
   rfl
  rintro ys H2 ⟨rfl,s2,e2⟩
  have hb:=join_wb ns k (wz ns k).toNat
  refine⟨_,D,_,rfl,rfl,SqL.of e2,?_,?_⟩
  ·have:(((List.range (wz ns k).toNat).map λ(m:Nat)=>(⟨#[sgn (dw ns (k + (m:Int)) 25013 94)]⟩:Str)).map (·.length)).sum≤30:=by
    have go:∀l:List Nat,((l.map λ(m:Nat)=>(⟨#[sgn (dw ns (k + (m:Int)) 25013 94)]⟩:Str)).map (·.length)).sum=l.length:=λl=>by
     induction l with
     | nil=>rfl
     | cons x r ih=>rw[map_cons,map_cons,List.sum_cons,ih,length_cons]; show 1 + _=_; lia
    rw[go,length_range]
    lia
   rw[length_map,length_range,show(Str.ofString "").length=0 from by decide +kernel]
   lia
  have hb':Txt.join (Str.ofString "") ((List.range (wz ns k).toNat).map λ(m:Nat)=>(⟨#[sgn (dw ns (k + (m:Int)) 25013 94)]⟩:Str))=⟨(wb ns k (wz ns k).toNat).toArray⟩:=hb
  rw[hb']
  have bl:(Str.mk (wb ns k (wz ns k).toNat).toArray).length=(wz ns k).toNat:=by rw[Zjj,Zfs]
  refine⟨_,rfl,z,rfl,?_,λD2 hD2=>?_⟩
  ·rw[← Array.all_toList]
   exact all_eq_true.mpr λc hc=>decide_eq_true (hz c hc)
  refine lcJ (n:=z.cps.size) (λi ys H3=>ys=(((cs z).take i).map (wdS ns k)).map V.str∧Same H2 H3∧H3 D2=some (.lst ys)) ⟨rfl,Same.new hD2,Zac⟩ (λi _ _ hi _=>hi) (λ_ _ _=>Nat.le_refl _) ?_ ?_
  ·rintro i ys H3 v H4 hi ⟨rfl,s3,e3⟩ ⟨rfl,c,hc,rfl⟩
   refine Zce ?_
   have hc':(cs z)[i]? = some c:=by
    show z.cps.toList[i]? = some c
    simpa using hc
   have l1:(Txt.slice (Str.mk (wb ns k (wz ns k).toNat).toArray) none (some (wa ns k)))=⟨((wb ns k (wz ns k).toNat).take (wa ns k).toNat).toArray⟩:=by
    have:=StrLaws.sliceText_to (x:=Str.mk (wb ns k (wz ns k).toNat).toArray) (j:=wa ns k) ⟨a1.1,by show wa ns k≤((wb ns k (wz ns k).toNat).length:Int); rw[Zfs]; lia⟩
    refine this.trans ?_
    show Str.mk (((wb ns k (wz ns k).toNat).drop 0).take (wa ns k - 0).toNat).toArray=_
    rw[List.drop_zero,Int.sub_zero]
   have l2:(Txt.slice (Str.mk (wb ns k (wz ns k).toNat).toArray) (some (wa ns k + 1)) none)=⟨((wb ns k (wz ns k).toNat).drop ((wa ns k).toNat + 1)).toArray⟩:=by
    have:=StrLaws.sliceText_from (x:=Str.mk (wb ns k (wz ns k).toNat).toArray) (i:=wa ns k + 1) ⟨by lia,by show wa ns k + 1≤((wb ns k (wz ns k).toNat).length:Int); rw[Zfs]; lia⟩
    refine this.trans ?_
    show Str.mk (((wb ns k (wz ns k).toNat).drop (wa ns k + 1).toNat).take (((wb ns k (wz ns k).toNat).length:Int) - (wa ns k + 1)).toNat).toArray=_
    rw[show(wa ns k + 1).toNat=(wa ns k).toNat + 1 from by lia,take_of_length_le (by rw[length_drop]; lia)]
   refine⟨_,rfl,_,rfl,_,rfl,_,rfl,by rw[bl]; lia,?_⟩
   rw[l1]
   refine⟨_,rfl,_,_,rfl,rfl,?_,?_⟩
   ·rw[Zjj,length_take,Zfs]
    show min _ _ + 1≤sizeLine
    lia
   refine⟨_,rfl,_,rfl,_,_,rfl,rfl,_,rfl,_,rfl,by rw[bl]; lia,?_⟩
   rw[l2]
   refine⟨_,_,rfl,rfl,?_,?_⟩
   ·rw[← Zlg,Zjv,length_append,cs_mk,length_take,Zfs,Zjj,length_drop,Zfs]
    show min _ _ + 1 + _≤sizeLine
    lia
   have ew:(Str.mk ((wb ns k (wz ns k).toNat).take (wa ns k).toNat).toArray) ++ (⟨#[c]⟩:Str) ++ (Str.mk ((wb ns k (wz ns k).toNat).drop ((wa ns k).toNat + 1)).toArray)=wdS ns k c:=by
    apply Znu
    rw[Zjv,Zjv]
    rfl
   rw[ew]
   have zl:(cs z).length=z.length:=Zlg z
   refine⟨_,e3,by rw[length_map,length_map,length_take]; lia,?_,s3.put hD2,Zac⟩
   rw[take_succ,hc',map_append,map_append]
   rfl
  rintro ys H3 ⟨rfl,s3,e3⟩
  rw[take_of_length_le (by rw[Zlg]; exact Nat.le_refl _)]at e3
  exact q D2 H3 (s2.trans s3) (s2.free hD2) e3
 refine⟨_,rfl,_,rfl,a,ns,k,_,_,rfl,hS,hn,k0,by lia,by decide,by decide,rfl,_,rfl,?_⟩
 refine ite2 (λhc=>?_) (λhc=>?_)
 ·have hw:wz ns k=30:=if_pos (V.int.inj (of_decide_eq_true hc))
  rw[hw]at hN
  exact hN _ _ ⟨rfl,rfl⟩
 have hw:wz ns k=1 + dw ns k 10007 6:=if_neg λz=>hc (decide_eq_true (by rw[z]))
 rw[hw]at hN
 exact hN _ _ ⟨rfl,rfl⟩
inductive spPrice (K:W.Frag) (vs:List V) (H:Hp) (Q:VK) (E0_:XK):Prop
 | mk (a:Addr) (ns:List Int) (k:Int) (c0:vs=[.ref a,.int k]) (c1:SqL K H a (ns.map V.int)) (c2:ns.length≤63) (c3:0≤k) (c4:k < 1000) (c5:∀r:Int,1≤r→r≤1000000000→Q (.int r) H):spPrice K vs H Q E0_
inductive spEntryD (K:W.Frag) (vs:List V) (H:Hp) (Q:VK) (E0_:XK):Prop
 | mk (a:Addr) (ns:List Int) (k m:Int) (c0:vs=[.ref a,.int k,.int m]) (c1:SqL K H a (ns.map V.int)) (c2:ns.length≤63) (c3:0≤k) (c4:k < 100000) (c5:1≤m) (c6:m≤200) (c7:∀(l:Addr) (xs:List Int) (H':Hp),Same H H'→H l=none→H' l=some (.lst (xs.map V.int))→xs.Pairwise (· < ·)→(∀x∈xs,0≤x∧x < m)→xs.length≤3→Q (.ref l) H'):spEntryD K vs H Q E0_
inductive spTellD (K:W.Frag) (vs:List V) (H:Hp) (Q:VK) (E0_:XK):Prop
 | mk (a:Addr) (ns:List Int) (k:Int) (l:Addr) (xs:List Str) (c0:vs=[.ref a,.int k,.ref l]) (c1:SqL K H a (ns.map V.int)) (c2:ns.length≤63) (c3:0≤k) (c4:k < 100000) (c5:H l=some (.lst (xs.map V.str))) (c6:xs.length=3) (c7:∀o:Option Str,(∀s,o=some s→s∈xs)→Q (oS o) H):spTellD K vs H Q E0_
inductive spManyD (K:W.Frag) (vs:List V) (H:Hp) (Q:VK) (E0_:XK):Prop
 | mk (a:Addr) (ns:List Int) (c0:vs=[.ref a]) (c1:SqL K H a (ns.map V.int)) (c2:ns.length≤63) (c3:∀m:Nat,1≤m→m≤7→Q (.int (m:Int)) H):spManyD K vs H Q E0_
inductive spWhole (vs:List V) (H:Hp) (Q:VK) (E0_:XK):Prop
 | mk (i:Int) (c0:vs=[.int i]) (c1:Q (.bl true) H):spWhole  vs H Q E0_
inductive spSetD (K:W.Frag) (vs:List V) (H:Hp) (Q:VK) (E0_:XK):Prop
 | mk (a:Addr) (ns:List Int) (k:Int) (m:Nat) (c0:vs=[.ref a,.int k,.int (m:Int)]) (c1:SqL K H a (ns.map V.int)) (c2:ns.length≤63) (c3:0≤k) (c4:k < 1000) (c5:1≤m) (c6:m≤200) (c7:∀(n:Nat) (H':Hp),Same H H'→n < 2 ^ m→Q (.int (n:Int)) H'):spSetD K vs H Q E0_
noncomputable abbrev Zfj:List Str:=["_law_script", "_law_k"]
noncomputable abbrev nLPrice:List Str:=["_law_script", "_law_k"]
theorem scLPrice:FnScope nLPrice Zfj (Zab Zdg):=⟨rfl,rfl,rfl,by decide +kernel,rfl,by decide +kernel,by decide +kernel⟩
noncomputable abbrev Zig:List Str:=["_law_script", "_law_k", "_law_many_here"]
noncomputable abbrev nLEntry:List Str:=["_law_script", "_law_k", "_law_many_here", "_law_way", "_law_worlds"]
theorem scLEntry:FnScope nLEntry Zig (Zab Zd4):=⟨rfl,rfl,rfl,by decide +kernel,rfl,by decide +kernel,by decide +kernel⟩
noncomputable abbrev Zkw:List Str:=["_law_script"]
noncomputable abbrev nLMany:List Str:=["_law_script"]
theorem scLMany:FnScope nLMany Zkw (Zab Zfx):=⟨rfl,rfl,rfl,by decide +kernel,rfl,by decide +kernel,by decide +kernel⟩
noncomputable abbrev Zib:List Str:=["_law_thing"]
noncomputable abbrev nLWhole:List Str:=["_law_thing"]
theorem scLWhole:FnScope nLWhole Zib (Zab Zd0):=⟨rfl,rfl,rfl,by decide +kernel,rfl,by decide +kernel,by decide +kernel⟩
noncomputable abbrev Zlp:List Str:=["_law_script", "_law_k", "_law_many_here"]
noncomputable abbrev nLSet:List Str:=["_law_script", "_law_k", "_law_many_here", "_law_way"]
theorem scLSet:FnScope nLSet Zlp (Zab Zhd):=⟨rfl,rfl,rfl,by decide +kernel,rfl,by decide +kernel,by decide +kernel⟩
theorem ok_price {f f1 f2:Addr}{fd d1 d2:FuncData}(F:Fun K "_law_price" "_law_price" Zdg f fd) (D_l_draw:Df K mg "_law_draw" Zb5 Zbb f1 d1) (G_l_draw:FnOk P w K mg base CX0 2 f1 d1 Zbb (spDraw K)) (D_l_cell:Df K mg "_law_cell" Ze1 Zhm f2 d2) (G_l_cell:FnOk P w K mg base CX0 1 f2 d2 Zhm (spCell K)):FnOk P w K mg base CX0 3 f fd Zfj (spPrice K):=by
 refine F.ok scLPrice (λvs H Q E h=>?_) (λcdv A outer s H vs Q E hr2 h=>?_)
 ·obtain⟨a,ns,k,rfl,_⟩:=h
  rfl
 obtain⟨a,ns,k,rfl,hS,hn,k0,k1,q⟩:=h
 have hr1:Room 1 _:=hr2.mono (by decide)
 have pw:(10:Int) ^ (9:Int).toNat=1000000000:=by decide +kernel
 refine⟨_,(Zad (Za4 (Zau Zdw (Zai G_l_draw hr2 (by rfl) D_l_draw.m D_l_draw.F.kp D_l_draw.b .nil Zap (Zaa (pv 0) (Zaa (pv 1) (Zaa Zah (Zaa Zah Zae))))) Zah (Zay _)) (Zaf (Zan (Zaw Zb2 Zah (Zaw Zjh (Zaw Zg3 (Zai G_l_cell hr1 (by rfl) D_l_cell.m D_l_cell.F.kp D_l_cell.b .nil Zap (Zaa (pv 0) (Zaa (pv 1) Zae))) Zah) (Zaw op_pow Zah Zah))))) Zar)
  (Zaf (Zan (Zaw Zb2 Zah (Zai G_l_draw hr2 (by rfl) D_l_draw.m D_l_draw.F.kp D_l_draw.b .nil Zap (Zaa (pv 0) (Zaa (pv 1) (Zaa Zah (Zaa Zah Zae))))))))),?_⟩
 refine⟨_,rfl,_,rfl,a,ns,k,_,_,rfl,hS,hn,k0,by lia,by decide,by decide,λr a1 b1=>⟨rfl,_,rfl,?_⟩⟩
 refine ite2 (λ_=>?_) (λ_=>?_)
 ·refine⟨_,rfl,_,rfl,a,ns,k,rfl,hS,hn,k0,_,_,rfl,rfl,.inr ⟨by decide,by decide⟩,_,_,rfl,rfl,⟨by decide,by decide,by decide⟩,_,_,rfl,rfl,(by show(0:Int) < _; rw[pw]; decide),_,_,rfl,rfl,?_⟩
  have h0:=emod_nonneg (cl ns k * 48271) (show(1000000000:Int)≠0 by decide)
  have h1:=emod_lt_of_pos (cl ns k * 48271) (show(0:Int) < 1000000000 by decide)
  rw[pw]
  exact q _ (by lia) (by lia)
 unfold tNext
 dsimp only
 refine⟨_,rfl,_,rfl,a,ns,k,_,_,rfl,hS,hn,k0,by lia,by decide,by decide,λr a1 b1=>⟨_,_,rfl,rfl,q _ (by lia) (by lia)⟩⟩
theorem ok_entryD {f f1:Addr}{fd d1:FuncData}(F:Fun K "_law_entry" "_law_entry" Zd4 f fd) (T:Bl mg) (D_l_draw:Df K mg "_law_draw" Zb5 Zbb f1 d1) (G_l_draw:FnOk P w K mg base CX0 2 f1 d1 Zbb (spDraw K)):FnOk P w K mg base CX0 3 f fd Zig (spEntryD K):=by
 refine F.ok scLEntry (λvs H Q E h=>?_) (λcdv A outer s H vs Q E hr2 h=>?_)
 ·obtain⟨a,ns,k,m,rfl,_⟩:=h
  rfl
 obtain⟨a,ns,k,m,rfl,hS,hn,k0,k1,m0,m1,q⟩:=h
 have hsl:sizeLine=16777216:=sizeLine_eq
 refine⟨_,(Zad (Zas (i:=3) scLEntry.nd rfl (Or.inl rfl) (Zai G_l_draw hr2 (by rfl) D_l_draw.m D_l_draw.F.kp D_l_draw.b .nil Zap (Zaa (pv 0) (Zaa (pv 1) (Zaa Zah (Zaa Zah Zae))))))
  (Zad (Za4 (Zau Zdw (pv 3) Zah (Zay _)) (Zaf (Zan (Zb6 Zae))) Zar)
  (Zad (Zas (i:=4) scLEntry.nd rfl (Or.inl rfl) (Zb6 (Zaa (Zai G_l_draw hr2 (by rfl) D_l_draw.m D_l_draw.F.kp D_l_draw.b .nil Zap (Zaa (pv 0) (Zaa (pv 1) (Zaa Zah (Zaa (pv 2) Zae))))) Zae)))
  (Zad (Za4 (Zau Zik (pv 3) Zah (Zay _)) (Zaf (Za1 (Zge PySem.F.plainAttrs_list PySem.F.slot_list_append PySem.F.type_list_append Zbi (pv 4) (Zaa (Zai G_l_draw hr2 (by rfl) D_l_draw.m D_l_draw.F.kp D_l_draw.b .nil Zap (Zaa (pv 0) (Zaa (pv 1) (Zaa Zah (Zaa (pv 2) Zae))))) Zae)))) Zar)
  (Zad (Za4 (Zau Zdw (pv 3) Zah (Zay _)) (Zaf (Za1 (Zge PySem.F.plainAttrs_list PySem.F.slot_list_append PySem.F.type_list_append Zbi (pv 4) (Zaa (Zai G_l_draw hr2 (by rfl) D_l_draw.m D_l_draw.F.kp D_l_draw.b .nil Zap (Zaa (pv 0) (Zaa (pv 1) (Zaa Zah (Zaa (pv 2) Zae))))) Zae)))) Zar)
  (Zaf (Zan (Za0 (Zgd rfl) (by rfl) T.sorted Zfc (Zaa (Za2 (Zjx rfl) (by rfl) T.set Zmz (Zaa (pv 4) Zae)) Zae))))))))),?_⟩
 refine⟨_,rfl,_,rfl,a,ns,k,_,_,rfl,hS,hn,k0,by lia,by decide,by decide,λwy a1 b1=>?_⟩
 refine⟨_,rfl,rfl,_,rfl,?_⟩
 refine ite2 (λ_=>?_) (λ_=>?_)
 ·exact⟨zero_le _,λl hl=>q l [] _ (Same.new hl) hl Zac .nil (λx hx=>by cases hx) (by decide)⟩
 unfold tNext
 dsimp only
 refine⟨_,rfl,_,rfl,_,rfl,a,ns,k,_,_,rfl,hS,hn,k0,by lia,by decide,by lia,λr1 a2 b2=>⟨by show 1≤sizeLine; lia,λl hl=>?_⟩⟩
 have sl:Same H (upd H l (.lst [.int r1])):=Same.new hl
 have el:(upd H l (.lst [.int r1])) l=some (.lst ([r1].map V.int)):=Zac
 dsimp only
 refine Zhy (λσ' H'=>∃xs:List Int,σ'=[some (.ref a),some (.int k),some (.int m),some (.int wy),some (.ref l)]∧Same H H'∧H' l=some (.lst (xs.map V.int))∧(∀x∈xs,0≤x∧x < m)∧xs.length≤2) ?_ (λN hN=>?_)
 ·rintro σ' H1 ⟨xs,rfl,s1,e1,x1,l1⟩
  refine seq_gen (λσ' H'=>∃xs:List Int,σ'=[some (.ref a),some (.int k),some (.int m),some (.int wy),some (.ref l)]∧Same H H'∧H' l=some (.lst (xs.map V.int))∧(∀x∈xs,0≤x∧x < m)∧xs.length≤3) ?_ (λN hN=>?_)
  ·rintro σ' H2 ⟨ys,rfl,s2,e2,x2,l2⟩
   obtain⟨ds,ed,nd,me,ld⟩:=Zmw ys
   have ek:ys.map V.int=(ys.map (Sum.inl:Int→Key)).map kV:=by rw[map_map]; rfl
   refine⟨_,rfl,l,ys.map Sum.inl,rfl,SqL.of (by rw[← ek]; exact e2),by rw[length_map]; lia,λst hst=>?_⟩
   rw[ed]
   have s3:Same H2 (upd H2 st (setG P w st (ds.map Sum.inl))):=Same.new hst
   refine⟨st,ds,rfl,Zac,nd,by lia,λl2 zs hl2 pm so=>?_⟩
   have s4:Same H2 (upd (upd H2 st (setG P w st (ds.map Sum.inl))) l2 (.lst (zs.map V.int))):=Same.put (H':=upd H2 st (setG P w st (ds.map Sum.inl))) (o:=.lst (zs.map V.int)) s3 (s3.free hl2)
   have zn:zs.Nodup:=pm.nodup_iff.mpr nd
   refine q l2 zs _ (s2.trans s4) (s2.free (s3.free hl2)) Zac ?_ (λx hx=>x2 x ((me x).mp (pm.mem_iff.mp hx))) (by have:=pm.length_eq; lia)
   exact(so.and zn).imp λ⟨h1,h2⟩=>by lia
  refine⟨_,rfl,rfl,_,rfl,?_⟩
  refine ite2 (λ_=>?_) (λ_=>?_)
  ·refine⟨_,rfl,.inl ⟨rfl,_,SqL.of e1⟩,_,rfl,_,rfl,_,rfl,a,ns,k,_,_,rfl,s1.seq hS,hn,k0,by lia,by decide,by lia,λr3 a4 b4=>?_⟩
   refine⟨l,_,_,rfl,rfl,e1,by rw[length_map]; lia,hN _ _ ⟨xs ++ [r3],rfl,s1.put hl,by rw[Zac,map_append]; rfl,λx hx=>?_,by rw[length_append]; show xs.length + 1≤3; lia⟩⟩
   rcases(mem_append.mp hx)with z | z
   ·exact x1 x z
   rw[mem_singleton.mp z]; exact⟨a4,b4⟩
  exact hN _ _ ⟨xs,rfl,s1,e1,x1,by lia⟩
 refine⟨_,rfl,_,_,rfl,rfl,_,rfl,?_⟩
 refine ite2 (λ_=>?_) (λ_=>?_)
 ·refine⟨_,rfl,.inl ⟨rfl,_,SqL.of el⟩,_,rfl,_,rfl,_,rfl,a,ns,k,_,_,rfl,sl.seq hS,hn,k0,by lia,by decide,by lia,λr3 a4 b4=>?_⟩
  refine⟨l,_,_,rfl,rfl,el,by show 1 < sizeLine; lia,hN _ _ ⟨[r1,r3],rfl,sl.put hl,by rw[Zac]; rfl,λx hx=>?_,by simp⟩⟩
  rcases(mem_cons.mp hx)with z | z
  ·rw[z]; exact⟨a2,b2⟩
  rw[mem_singleton.mp z]; exact⟨a4,b4⟩
 exact hN _ _ ⟨[r1],rfl,sl,el,λx hx=>by rw[mem_singleton.mp hx]; exact⟨a2,b2⟩,by simp⟩
theorem ok_tellD {f f1:Addr}{fd d1:FuncData}(F:Fun K "_law_told" "_law_told" Zfv f fd) (D_l_draw:Df K mg "_law_draw" Zb5 Zbb f1 d1) (G_l_draw:FnOk P w K mg base CX0 2 f1 d1 Zbb (spDraw K)):FnOk P w K mg base CX0 3 f fd Zku (spTellD K):=by
 refine F.ok scLTold (λvs H Q E h=>?_) (λcdv A outer s H vs Q E hr2 h=>?_)
 ·obtain⟨a,ns,k,l,xs,rfl,_⟩:=h
  rfl
 obtain⟨a,ns,k,l,xs,rfl,hS,hn,k0,k1,hl,x3,q⟩:=h
 refine⟨_,(Zad (Za4 (Zau Zdw (Zai G_l_draw hr2 (by rfl) D_l_draw.m D_l_draw.F.kp D_l_draw.b .nil Zap (Zaa (pv 0) (Zaa (pv 1) (Zaa Zah (Zaa Zah Zae))))) Zah (Zay _)) (Zaf (Zan Zf6)) Zar)
  (Zaf (Zan (Za3 Zch (pv 2) (Zai G_l_draw hr2 (by rfl) D_l_draw.m D_l_draw.F.kp D_l_draw.b .nil Zap (Zaa (pv 0) (Zaa (pv 1) (Zaa Zah (Zaa Zah Zae))))) (λ_ _=>rfl))))),?_⟩
 refine⟨_,rfl,_,rfl,a,ns,k,_,_,rfl,hS,hn,k0,by lia,by decide,by decide,λr1 a1 b1=>⟨rfl,_,rfl,?_⟩⟩
 refine ite2 (λ_=>?_) (λ_=>?_)
 ·exact q none λs z=>by cases z
 unfold tNext
 dsimp only
 refine⟨_,rfl,_,rfl,_,rfl,a,ns,k,_,_,rfl,hS,hn,k0,by lia,by decide,by decide,λr a2 b2=>?_⟩
 obtain⟨i,rfl⟩:∃i:Nat,(i:Int)=r:=⟨r.toNat,toNat_of_nonneg a2⟩
 have hi:i < xs.length:=by lia
 refine⟨l,_,_,_,rfl,rfl,SqL.of hl,Zav (v:=V.str xs[i]) (by rw[getElem?_map,getElem?_eq_getElem hi]; rfl),?_⟩
 exact q (some xs[i]) λs z=>by cases z; exact getElem_mem hi
theorem ok_manyD {f f1:Addr}{fd d1:FuncData}(F:Fun K "_law_many" "_law_many" Zfx f fd) (D_l_draw:Df K mg "_law_draw" Zb5 Zbb f1 d1) (G_l_draw:FnOk P w K mg base CX0 2 f1 d1 Zbb (spDraw K)):FnOk P w K mg base CX0 3 f fd Zkw (spManyD K):=by
 refine F.ok scLMany (λvs H Q E h=>?_) (λcdv A outer s H vs Q E hr2 h=>?_)
 ·obtain⟨a,ns,rfl,_⟩:=h
  rfl
 obtain⟨a,ns,rfl,hS,hn,q⟩:=h
 refine⟨_,(Zad (Za4 (Zau Zdw (Zai G_l_draw hr2 (by rfl) D_l_draw.m D_l_draw.F.kp D_l_draw.b .nil Zap (Zaa (pv 0) (Zaa Zah (Zaa Zah (Zaa Zah Zae))))) Zah (Zay _)) (Zaf (Zan Zah)) Zar)
  (Zaf (Zan (Zaw Zb2 Zah (Zai G_l_draw hr2 (by rfl) D_l_draw.m D_l_draw.F.kp D_l_draw.b .nil Zap (Zaa (pv 0) (Zaa Zah (Zaa Zah (Zaa Zah Zae))))))))),?_⟩
 refine⟨_,rfl,a,ns,_,_,_,rfl,hS,hn,by decide,by decide,by decide,by decide,λr1 a1 b1=>⟨rfl,_,rfl,?_⟩⟩
 refine ite2 (λ_=>?_) (λ_=>?_)
 ·exact q 7 (by decide) (by decide)
 unfold tNext
 dsimp only
 refine⟨_,rfl,a,ns,_,_,_,rfl,hS,hn,by decide,by decide,by decide,by decide,λr a2 b2=>⟨_,_,rfl,rfl,?_⟩⟩
 have:=q (1 + r).toNat (by lia) (by lia)
 rw[toNat_of_nonneg (by lia)]at this
 exact this
theorem ok_whole {f:Addr}{fd:FuncData}(F:Fun K "_law_whole" "_law_whole" Zd0 f fd) (T:Bl mg):FnOk P w K mg base CX0 1 f fd Zib spWhole:=by
 refine F.ok scLWhole (λvs H Q E h=>?_) (λcdv A outer s H vs Q E hr h=>?_)
 ·obtain⟨i,rfl,_⟩:=h
  rfl
 obtain⟨i,rfl,q⟩:=h
 refine⟨_,(Zaf (Zan (Znm (Za0 Zlk (by rfl) T.isi Zlm (Zaa (pv 0) (Zaa (Zh6 (v:=.ty "int") (by rfl) T.int bt_int rfl) Zae))) (Znl (pe_not (Za0 Zlk (by rfl) T.isi Zlm (Zaa (pv 0) (Zaa (Zh6 (v:=.ty "bool") (by rfl) T.bool bt_bool rfl) Zae)))))))),?_⟩
 refine⟨_,rfl,i,_,rfl,.inl ⟨rfl,_,rfl,?_⟩⟩
 refine iteT ?_
 exact⟨_,rfl,i,_,rfl,.inr ⟨rfl,_,rfl,q⟩⟩
theorem ok_listD {f:Addr}{fd:FuncData}(F:Fun K "_law_list" "_law_list" Zd2 f fd) (T:Bl mg):FnOk P w K mg base CX0 1 f fd Zf8 spWof:=by
 refine F.ok scLList (λvs H Q E h=>?_) (λcdv A outer s H vs Q E hr h=>?_)
 ·obtain⟨m,rfl,_⟩:=h
  rfl
 obtain⟨m,rfl,hm,q⟩:=h
 have hsl:sizeLine=16777216:=sizeLine_eq
 refine⟨_,(Zaf (Zan (Zdv (N:=["_law_w", "_law_some"]) (sc:=Zab Zd2) (own:=["_law_w"]) (fr:=["_law_some"]) (js:=[0]) ⟨rfl,rfl,rfl,rfl,by decide +kernel,by decide +kernel,by decide +kernel,rfl,by decide +kernel⟩ rfl (Zbo (by rfl) T.range (Zaa (Zmb PySem.F.plainAttrs_int PySem.F.slot_int_bit_length PySem.F.type_int_bit_length Zji (pv 0)) Zae)) (λ_ _ _ _=>Zao (i:=0) (show List.Nodup (["_law_w", "_law_some"]:List Str) by decide +kernel) rfl (Or.inl rfl)) (λ_ _ _ _=>Zet (pt_tru (Zaw Zhn (Zaw Znp (pv 1) (pv 0)) Zah))) (λ_ _ _ _=>(pv 0))))),?_⟩
 have hnb:nb m≤200:=nb_le hm
 have hnb2:Builtin.Int.intBits (m:Int)≤200:=hnb
 refine⟨_,rfl,rfl,_,rfl,rfl,_,rfl,by lia,by lia,λD hD=>?_⟩
 refine lcJ (n:=nb m) (λi ys H2=>ys=(((List.range i).filter λj=>m.testBit j).map λ(j:Nat)=>(j:Int)).map V.int∧Same H H2∧H2 D=some (.lst ys)) ⟨rfl,Same.new hD,Zac⟩
  (λi ys H2 hi _=>by show i < _; rw[toNat_natCast]; exact hi) (λys H2 _=>by show _≤nb m; rw[toNat_natCast]; exact Nat.le_refl _) ?_ ?_
 ·rintro i ys H2 x H3 hi ⟨rfl,s2,e2⟩ ⟨rfl,rfl⟩
  have e0:(0 + (i:Int)).toNat=i:=by lia
  refine⟨_,rfl,_,rfl,_,_,rfl,rfl,by show(0:Int)≤0 + (i:Int); lia,_,_,rfl,rfl,_,rfl,?_⟩
  rw[e0,Znx]
  have hl:((((List.range i).filter λj=>m.testBit j).map λ(j:Nat)=>(j:Int)).map V.int).length < sizeLine:=by
   rw[length_map,length_map]
   have:=length_filter_le (λj=>m.testBit j) (List.range i)
   rw[length_range]at this
   lia
  cases hb:m.testBit i with
  | true=>
   refine Zn5 rfl ?_
   refine⟨_,rfl,_,e2,hl,?_,s2.put hD,Zac⟩
   rw[range_succ,filter_append,map_append,map_append]
   simp[hb]
  | false=>
   refine Zn6 (by decide) ?_
   refine⟨?_,s2,?_⟩
   ·rw[range_succ,filter_append]
    simp[hb]
   exact e2
 rintro ys H2 ⟨rfl,s2,e2⟩
 exact q D H2 s2 hD e2
theorem sum_pow {m:Nat}{ns:List Int}(up:ns.Pairwise (· < ·)) (hx:∀x∈ns,0≤x∧x < (m:Int)):∃n:Nat,n < 2 ^ m∧(ns.map λn=>(2:Int) ^ n.toNat).sum=(n:Int):=by
 refine⟨bt ns,?_,sum_bt (up.imp λh=>Int.ne_of_lt h) λn hn=>(hx n hn).1⟩
 refine lt_pow_two_of_testBit _ λi hi=>?_
 rw[Zea]
 refine any_eq_false.mpr λn hn=>?_
 have:=hx n hn
 simp
 lia
theorem ok_setD {f f1:Addr}{fd d1:FuncData}(F:Fun K "_law_set" "_law_set" Zhd f fd) (T:Bl mg) (D_l_draw:Df K mg "_law_draw" Zb5 Zbb f1 d1) (G_l_draw:FnOk P w K mg base CX0 2 f1 d1 Zbb (spDraw K)):FnOk P w K mg base CX0 3 f fd Zlp (spSetD K):=by
 refine F.ok scLSet (λvs H Q E h=>?_) (λcdv A outer s H vs Q E hr2 h=>?_)
 ·obtain⟨a,ns,k,m,rfl,_⟩:=h
  rfl
 obtain⟨a,ns,k,m,rfl,hS,hn,k0,k1,m0,m1,q⟩:=h
 have hsl:sizeLine=16777216:=sizeLine_eq
 refine⟨_,(Zad (Zas (i:=3) scLSet.nd rfl (Or.inl rfl) (Zai G_l_draw hr2 (by rfl) D_l_draw.m D_l_draw.F.kp D_l_draw.b .nil Zap (Zaa (pv 0) (Zaa (pv 1) (Zaa Zah (Zaa Zah Zae))))))
  (Zad (Za4 (Zau Zdw (pv 3) Zah (Zay _)) (Zaf (Zan (Zaw Zjf (Zaw Zd8 Zah (pv 2)) Zah))) Zar)
  (Zad (Za4 (Zau Zdw (pv 3) Zah (Zay _)) (Zaf (Zan (Zaw Zd8 Zah (Zai G_l_draw hr2 (by rfl) D_l_draw.m D_l_draw.F.kp D_l_draw.b .nil Zap (Zaa (pv 0) (Zaa (pv 1) (Zaa Zah (Zaa (pv 2) Zae)))))))) Zar)
  (Zad (Za4 (Zau Zdw (pv 3) Zah (Zay _)) (Zaf (Zan Zah)) Zar)
  (Zaf (Zan (Za0 (call_sumI rfl) (by rfl) T.sum bt_sum (Zaa (Zdv (N:=["_law_w", "_law_script", "_law_k"]) (sc:=Zab Zhd) (own:=["_law_w"]) (fr:=["_law_script", "_law_k"]) (js:=[0,1]) ⟨rfl,rfl,rfl,rfl,by decide +kernel,by decide +kernel,by decide +kernel,rfl,by decide +kernel⟩ rfl (Zbo (by rfl) T.range (Zaa (pv 2) Zae)) (λ_ _ _ _=>Zao (i:=0) (show List.Nodup (["_law_w", "_law_script", "_law_k"]:List Str) by decide +kernel) rfl (Or.inl rfl)) (λ_ _ _ _=>Zet (Zau Zdw (Zai G_l_draw hr2 (by rfl) D_l_draw.m D_l_draw.F.kp D_l_draw.b .nil Zap (Zaa (pv 1) (Zaa (Zaw Zb2 (pv 2) (pv 0)) (Zaa Zah (Zaa Zah Zae))))) Zah (Zay _))) (λ_ _ _ _=>(Zaw Zd8 Zah (pv 0)))) Zae)))))))),?_⟩
 refine⟨_,rfl,_,rfl,a,ns,k,_,_,rfl,hS,hn,k0,by lia,by decide,by decide,λwy a1 b1=>?_⟩
 refine⟨_,rfl,rfl,_,rfl,?_⟩
 refine ite2 (λ_=>?_) (λ_=>?_)
 ·refine⟨_,rfl,_,_,rfl,rfl,⟨by lia,by lia,by lia⟩,_,_,rfl,rfl,?_⟩
  have h1:(1:Int) * 2 ^ ((m:Int)).toNat - 1=((2 ^ m - 1:Nat):Int):=by
   rw[toNat_natCast,Zh2]
   have:=two_pow_pos m
   lia
  rw[h1]
  exact q _ H (Same.refl _) (by have:=two_pow_pos m; lia)
 try unfold tNext
 dsimp only
 refine⟨_,rfl,rfl,_,rfl,?_⟩
 refine ite2 (λ_=>?_) (λ_=>?_)
 ·refine⟨_,rfl,_,rfl,_,rfl,a,ns,k,_,_,rfl,hS,hn,k0,by lia,by decide,by lia,λr a2 b2=>⟨_,_,rfl,rfl,⟨by lia,by lia,by lia⟩,?_⟩⟩
  have h1:(1:Int) * 2 ^ r.toNat=((2 ^ r.toNat:Nat):Int):=by rw[Zh2]; lia
  rw[h1]
  exact q _ H (Same.refl _) (pow_lt_pow_right (by decide) (by lia))
 try unfold tNext
 dsimp only
 refine⟨_,rfl,rfl,_,rfl,?_⟩
 refine ite2 (λ_=>?_) (λ_=>?_)
 ·exact q 0 H (Same.refl _) (two_pow_pos m)
 try unfold tNext
 dsimp only
 refine⟨_,rfl,_,rfl,by lia,by lia,λD hD=>?_⟩
 refine lcJ (n:=m) (λi ys H2=>∃xs:List Int,ys=(xs.map λn=>(2:Int) ^ n.toNat).map V.int∧xs.length≤i∧xs.Pairwise (· < ·)∧(∀x∈xs,0≤x∧x < (i:Int))∧Same H H2∧H2 D=some (.lst ys)) ⟨[],rfl,zero_le _,.nil,(λx hx=>by cases hx),Same.new hD,Zac⟩
  (λi _ _ hi _=>by show i < _; rw[toNat_natCast]; exact hi) (λ_ _ _=>by show _≤m; rw[toNat_natCast]; exact Nat.le_refl _) ?_ ?_
 ·rintro i ys H2 x H3 hi ⟨xs,rfl,xl,xp,xm,s2,e2⟩ ⟨rfl,rfl⟩
  refine⟨_,rfl,_,rfl,_,rfl,_,_,rfl,rfl,a,ns,_,_,_,rfl,s2.seq hS,hn,by lia,by lia,by decide,by decide,λr a3 b3=>⟨rfl,_,rfl,?_⟩⟩
  refine ite2 (λ_=>?_) (λ_=>?_)
  ·refine⟨_,rfl,_,_,rfl,rfl,⟨by lia,by lia,by lia⟩,?_⟩
   refine⟨_,e2,by rw[length_map,length_map]; lia,xs ++ [(i:Int)],?_,by rw[length_append]; show xs.length + 1≤i + 1; lia,?_,λx hx=>?_,s2.put hD,Zac⟩
   ·rw[map_append,map_append,Int.zero_add,one_mul]
    rfl
   ·refine List.pairwise_append.mpr ⟨xp,List.pairwise_singleton _ _,λx hx y hy=>?_⟩
    rw[mem_singleton.mp hy]
    have:=xm x hx
    lia
   rcases(mem_append.mp hx)with z | z
   ·have:=xm x z
    lia
   rw[mem_singleton.mp z]
   lia
  exact⟨xs,rfl,by lia,xp,λx hx=>by have:=xm x hx; lia,s2,e2⟩
 rintro ys H2 ⟨xs,rfl,xl,xp,xm,s2,e2⟩
 obtain⟨n,hn1,hn2⟩:=sum_pow xp xm
 refine⟨D,_,rfl,SqL.of e2,?_⟩
 rw[hn2]
 exact q n H2 s2 hn1
theorem Zkl {X:Cx}{tg:Expr}(K:W.Frag) (h:X.K=K) {l:Expr}{tl:TE}(hl:PE X l tl):PI X tg l (iList K tl):=by
 subst h
 exact Zaz hl
theorem lc_free {scope sc:Scope}(h:∀y∈scope.names,y.2≠NameKind.free):∀y∈scope.names,y.2=NameKind.free→sc.names.lookup y.1=some NameKind.cell:=λy hy e=>absurd e (h y hy)
noncomputable abbrev abcL:List Nat:=[97,98,99]
noncomputable abbrev deL:List Nat:=[100,101]
noncomputable abbrev pqrL:List Nat:=[112,113,114]
theorem abc_cs:cs (Str.ofString "abc")=abcL:=by decide +kernel
theorem de_cs:cs (Str.ofString "de")=deL:=by decide +kernel
theorem pqr_cs:cs (Str.ofString "pqr")=pqrL:=by decide +kernel
theorem Znz:∀c∈abcL,c < 128:=by decide
theorem de_lt:∀c∈deL,c < 128:=by decide
theorem pqr_lt:∀c∈pqrL,c < 128:=by decide
structure DDs (H:Hp) (ns:List Int) (m:Nat) (us:List V) (ds:List Dee) (i:Nat):Prop where
 hd:A2 (DeV H) us ds
 nm:ds.map Dee.name=(abcL.take i).map (wdS ns 2)
 dl:ds.length=i
 so:∀d∈ds,StOk (d.name,d.price)
 de:∀d∈ds,DeOk m d
structure LLs (H:Hp) (ns:List Int) (m:Nat) (ws:List V) (ls:List Loo) (i:Nat):Prop where
 hl:A2 (LoV H) ws ls
 nm:ls.map Loo.name=(deL.take i).map (wdS ns 2)
 ll:ls.length=i
 sl:∀l∈ls,StOk (l.name,l.price)
 lo:∀l∈ls,l.tab.length=m
 an:∀l∈ls,∀s,some s∈l.tab→s∈pqrL.map (wdS ns 3)
theorem DDs.same {H H':Hp}{ns:List Int}{m:Nat}{us:List V}{ds:List Dee}{i:Nat}(h:DDs H ns m us ds i) (s:Same H H'):DDs H' ns m us ds i:=⟨h.hd.mono λv t _ q=>q.same s,h.nm,h.dl,h.so,h.de⟩
theorem LLs.same {H H':Hp}{ns:List Int}{m:Nat}{us:List V}{ls:List Loo}{i:Nat}(h:LLs H ns m us ls i) (s:Same H H'):LLs H' ns m us ls i:=⟨h.hl.mono λv t _ q=>q.same s,h.nm,h.ll,h.sl,h.lo,h.an⟩
inductive spDeedsD (K:W.Frag) (vs:List V) (H:Hp) (Q:VK) (E0_:XK):Prop
 | mk (a:Addr) (ns:List Int) (m:Nat) (c0:vs=[.ref a,.int (m:Int)]) (c1:SqL K H a (ns.map V.int)) (c2:ns.length≤63) (c3:1≤m) (c4:m≤200) (c5:∀(l:Addr) (us:List V) (ds:List Dee) (i:Nat) (H':Hp),Same H H'→H l=none→H' l=some (.lst us)→i≤3→DDs H' ns m us ds i→Q (.ref l) H'):spDeedsD K vs H Q E0_
inductive spLooksD (K:W.Frag) (vs:List V) (H:Hp) (Q:VK) (E0_:XK):Prop
 | mk (a:Addr) (ns:List Int) (m:Nat) (c0:vs=[.ref a,.int (m:Int)]) (c1:SqL K H a (ns.map V.int)) (c2:ns.length≤63) (c3:1≤m) (c4:m≤200) (c5:∀(l:Addr) (ws:List V) (ls:List Loo) (i:Nat) (H':Hp),Same H H'→H l=none→H' l=some (.lst ws)→i≤2→LLs H' ns m ws ls i→Q (.ref l) H'):spLooksD K vs H Q E0_
noncomputable abbrev Zih:List Str:=["_law_script", "_law_many_here"]
noncomputable abbrev nLDeeds:List Str:=["_law_script", "_law_many_here", "_law_words_here", "_law_deeds_here", "_law_k", "_law_table"]
theorem scLDeeds:FnScope nLDeeds Zih (Zab Zdi):=⟨rfl,rfl,rfl,by decide +kernel,rfl,by decide +kernel,by decide +kernel⟩
noncomputable abbrev Zie:List Str:=["_law_script", "_law_many_here"]
noncomputable abbrev nLLooks:List Str:=["_law_script", "_law_many_here", "_law_words_here", "_law_answers", "_law_looks_here", "_law_k", "_law_table"]
theorem scLLooks:FnScope nLLooks Zie (Zab Zdh):=⟨rfl,rfl,rfl,by decide +kernel,rfl,by decide +kernel,by decide +kernel⟩
theorem Zly {l:List Nat}{i:Nat}(h:i < l.length):l.take (i + 1)=l.take i ++ [l[i]]:=by rw[take_succ,getElem?_eq_getElem h]; rfl
theorem ok_deedsD {f f1 f2 f3 f4:Addr}{fd d1 d2 d3 d4:FuncData}(F:Fun K "_law_deeds" "_law_deeds" Zdi f fd) (T:Bl mg) (D_l_words:Df K mg "_law_words" Zcr Zfi f1 d1) (G_l_words:FnOk P w K mg base CX0 3 f1 d1 Zfi (spWords K)) (D_l_draw:Df K mg "_law_draw" Zb5 Zbb f2 d2) (G_l_draw:FnOk P w K mg base CX0 2 f2 d2 Zbb (spDraw K))
  (D_l_entry:Df K mg "_law_entry" Zd4 Zig f3 d3) (G_l_entry:FnOk P w K mg base CX0 3 f3 d3 Zig (spEntryD K)) (D_l_price:Df K mg "_law_price" Zdg Zfj f4 d4) (G_l_price:FnOk P w K mg base CX0 3 f4 d4 Zfj (spPrice K)):FnOk P w K mg base CX0 4 f fd Zih (spDeedsD K):=by
 refine F.ok scLDeeds (λvs H Q E h=>?_) (λcdv A outer s H vs Q E hr3 h=>?_)
 ·obtain⟨a,ns,m,rfl,_⟩:=h
  rfl
 obtain⟨a,ns,m,rfl,hS,hn,m1,m2,q⟩:=h
 have hr2:Room 2 _:=hr3.mono (by decide)
 have hsl:sizeLine=16777216:=sizeLine_eq
 refine⟨_,(Zad (Zas (i:=2) scLDeeds.nd rfl (Or.inl rfl) (Zai G_l_words hr3 (by rfl) D_l_words.m D_l_words.F.kp D_l_words.b .nil Zap (Zaa (pv 0) (Zaa Zah (Zaa Zf5 Zae)))))
  (Zad (Zas (i:=3) scLDeeds.nd rfl (Or.inl rfl) (Zb6 Zae))
  (Zad (Zba PassesOwn.never rfl (Zbo (by rfl) T.range (Zaa (Zai G_l_draw hr2 (by rfl) D_l_draw.m D_l_draw.F.kp D_l_draw.b .nil Zap (Zaa (pv 0) (Zaa Zah (Zaa Zah (Zaa Zah Zae))))) Zae)) (Zao (i:=4) scLDeeds.nd rfl (Or.inr rfl))
   (Zad (Zm5 (i:=5) (N:=["_law_world", "_law_script", "_law_many_here", "_law_k"]) (sc:=Zab Zdi) (own:=["_law_world"]) (fr:=["_law_script", "_law_many_here", "_law_k"]) (js:=[0,1,4]) scLDeeds.nd rfl rfl ⟨rfl,rfl,rfl,rfl,by decide +kernel,by decide +kernel,by decide +kernel,rfl,by decide +kernel⟩ rfl (Zbo (by rfl) T.range (Zaa (pv 1) Zae)) (λ_ _ _ _=>Zao (i:=0) (show List.Nodup (["_law_world", "_law_script", "_law_many_here", "_law_k"]:List Str) by decide +kernel) rfl (Or.inl rfl)) (λ_ _ _ _=>Zbs) (λ_ _ _ _=>(Zai G_l_entry hr3 (by rfl) D_l_entry.m D_l_entry.F.kp D_l_entry.b .nil Zap (Zaa (pv 1) (Zaa (Zaw Zb2 (Zaw Zb2 Zah (Zaw Zg3 (pv 2) (pv 3))) (pv 0)) (Zaa (pv 2) Zae))))))
  (Zaf (Za1 (Zge PySem.F.plainAttrs_list PySem.F.slot_list_append PySem.F.type_list_append Zbi (pv 3) (Zaa (Zct (Zaa (Za3 Zch (pv 2) (pv 4) (λ_ _=>rfl)) (Zaa (Zai G_l_price hr3 (by rfl) D_l_price.m D_l_price.F.kp D_l_price.b .nil Zap (Zaa (pv 0) (Zaa (Zaw Zb2 Zah (pv 4)) Zae))) (Zaa (pv 5) Zae)))) Zae))))))
  (Zaf (Zan (pv 3)))))),?_⟩
 refine⟨_,rfl,a,ns,_,_,rfl,hS,hn,by decide,by decide,by decide +kernel,by decide +kernel,λlw H1 s1 hlw e1=>?_⟩
 rw[abc_cs]at e1
 refine⟨zero_le _,λl hl=>?_⟩
 have s2:Same H1 (upd H1 l (.lst [])):=Same.new hl
 have e2:(upd H1 l (.lst [])) l=some (.lst []):=Zac
 generalize (upd H1 l (.lst []))=H2 at s2 e2 ⊢
 refine⟨_,rfl,a,ns,_,_,_,rfl,(s1.trans s2).seq hS,hn,by decide,by decide,by decide,by decide,λr r0 r1=>?_⟩
 refine⟨_,rfl,by lia,by lia,Ze9 (n:=r.toNat) (λi σ H4=>∃(v4 v5:Option V) (us:List V) (ds:List Dee),
  σ = [some (.ref a),some (.int (m:Int)),some (.ref lw),some (.ref l),v4,v5]∧Same H1 H4∧H4 l=some (.lst us)∧DDs (rm H4 [l]) ns m us ds i)
  ⟨none,none,[],[],rfl,s2,e2,⟨A2.nil,rfl,rfl,(λ_ h=>by cases h),(λ_ h=>by cases h)⟩⟩ ?_ ?_⟩
 ·rintro i σ H4 hi ⟨v4,v5,us,ds,rfl,s4,e4,pt⟩
  have hS4:=(s1.trans s4).seq hS
  have hi3:i=0∨i=1∨i=2:=by lia
  have hmi:0≤(m:Int) * (0 + (i:Int))∧(m:Int) * (0 + (i:Int))≤600:=by rcases hi3 with z | z | z <;> subst z <;> constructor <;> lia
  refine⟨_,rfl,_,rfl,by lia,by lia,λD hD=>?_⟩
  have xD:=Zag e4 hD
  refine lcJ (n:=m) (λj ys H6=>∃es:List (List Int),A2 (EnV (rm H6 [l,D])) ys es∧es.length=j∧(∀e∈es,e.Pairwise (· < ·))∧(∀e∈es,∀z∈e,0≤z∧z < (m:Int))∧(∀e∈es,e.length≤60)∧Same H4 H6∧H6 D=some (.lst ys))
   ⟨[],A2.nil,rfl,(λ_ h=>by cases h),(λ_ h=>by cases h),(λ_ h=>by cases h),Same.new hD,Zac⟩ (λi _ _ hi _=>by show i < _; rw[toNat_natCast]; exact hi) (λ_ _ _=>by show _≤m; rw[toNat_natCast]; exact Nat.le_refl _) ?_ ?_
  ·rintro j ys H6 v H7 hj ⟨es,ae,el,ep,ei,ef,s6,e6⟩ ⟨rfl,rfl⟩
   refine Zce ?_
   refine⟨_,rfl,_,rfl,_,rfl,_,_,rfl,rfl,.inl ⟨by lia,by lia⟩,_,_,rfl,rfl,_,rfl,_,_,rfl,rfl,_,rfl,a,ns,_,_,rfl,s6.seq hS4,hn,by lia,by lia,by lia,by lia,λb e H7 s7 hb eb p1 p2 p3=>?_⟩
   have hbn:b∉[l,D]:=by
    simp only[mem_cons,not_mem_nil,or_false,not_or]
    exact⟨(Zag (s6 _ _ e4) hb).symm,(Zag e6 hb).symm⟩
   have hyl:=ae.len
   refine⟨_,s7 _ _ e6,by lia,es ++ [e],?_,by rw[length_append,el]; rfl,λe' h=>?_,λe' h=>?_,λe' h=>?_,(s6.trans s7).put hD,Zac⟩
   ·rw[Zdt (by simp)]
    exact A2.app (ae.mono λv t _ r=>r.same (Zbf s7)) (A2.one ⟨b,rfl,by rw[Zbm hbn]; exact eb⟩)
   ·rcases(mem_append.mp h)with z | z
    ·exact ep _ z
    rw[mem_singleton.mp z]; exact p1
   ·rcases(mem_append.mp h)with z | z
    ·exact ei _ z
    rw[mem_singleton.mp z]; exact p2
   rcases(mem_append.mp h)with z | z
   ·exact ef _ z
   rw[mem_singleton.mp z]; lia
  rintro ys H6 ⟨es,ae,el,ep,ei,ef,s6,e6⟩
  have hia:i < abcL.length:=by show i < 3; lia
  have hat2:atI ((abcL.map (wdS ns 2)).map V.str) (0 + (i:Int))=some (.str (wdS ns 2 abcL[i])):=by
   rw[Int.zero_add]
   exact Zav (by rw[getElem?_map,getElem?_map,getElem?_eq_getElem hia]; rfl)
  have hlb:=Zi0 ns 2 (Znz _ (getElem_mem hia))
  have e46:=s6 _ _ e4
  refine⟨_,rfl,.inl ⟨rfl,_,SqL.of e46⟩,_,rfl,_,rfl,lw,_,_,_,rfl,rfl,SqL.of ((s4.trans s6) _ _ e1),hat2,?_⟩
  refine⟨_,rfl,_,rfl,_,_,rfl,rfl,a,ns,_,rfl,s6.seq hS4,hn,by lia,by lia,λpr pa pb=>⟨_,rfl,by show 3≤sizeLine; lia,λtp htp=>?_⟩⟩
  have s8:Same H6 (upd H6 tp (.tup [.str (wdS ns 2 abcL[i]),.int pr,.ref D])):=Same.new htp
  have e8:(upd H6 tp (.tup [.str (wdS ns 2 abcL[i]),.int pr,.ref D])) tp=some (.tup [.str (wdS ns 2 abcL[i]),.int pr,.ref D]):=Zac
  have tx:=Zag e46 htp
  generalize (upd H6 tp (.tup [.str (wdS ns 2 abcL[i]),.int pr,.ref D]))=H8 at s8 e8 ⊢
  have hul:=pt.hd.len
  have hdl:=pt.dl
  refine⟨l,_,_,rfl,rfl,s8 _ _ e46,by lia,?_⟩
  refine⟨_,_,us ++ [.ref tp],ds ++ [⟨wdS ns 2 abcL[i],pr,es⟩],rfl,((s4.trans s6).trans s8).put hl,Zac,?_⟩
  rw[Zdt (by simp)]
  refine⟨?_,?_,by rw[length_append,hdl]; rfl,λz hz=>?_,λz hz=>?_⟩
  ·refine A2.app (pt.hd.mono λv t _ q'=>q'.same (Zbf (s6.trans s8))) (A2.one ⟨D,ys,⟨tp,rfl,?_⟩,?_,ae.mono λv t _ q'=>q'.same ((Zbf s8).trans (Zkj (by simp)))⟩)
   ·rw[Zbm (by simp only[mem_cons,not_mem_nil,or_false]; exact tx.symm)]
    exact e8
   rw[Zbm (by simp only[mem_cons,not_mem_nil,or_false]; exact xD.symm)]
   exact s8 _ _ e6
  ·rw[Zly hia,map_append,map_append,pt.nm]
   rfl
  ·rcases(mem_append.mp hz)with z' | z'
   ·exact pt.so _ z'
   rw[mem_singleton.mp z']
   exact⟨hlb.l1,hlb.l2,pa,pb⟩
  rcases(mem_append.mp hz)with z' | z'
  ·exact pt.de _ z'
  rw[mem_singleton.mp z']
  exact⟨el,ep,ei,ef⟩
 rintro σ H4 ⟨v4,v5,us,ds,rfl,s4,e4,pt⟩
 exact⟨_,rfl,q l us ds _ H4 (s1.trans s4) (s1.free hl) e4 (by lia) (pt.same Zdj)⟩
theorem ok_looksD {f f1 f2 f3 f4:Addr}{fd d1 d2 d3 d4:FuncData}(F:Fun K "_law_looks" "_law_looks" Zdh f fd) (T:Bl mg) (D_l_words:Df K mg "_law_words" Zcr Zfi f1 d1) (G_l_words:FnOk P w K mg base CX0 3 f1 d1 Zfi (spWords K)) (D_l_draw:Df K mg "_law_draw" Zb5 Zbb f2 d2) (G_l_draw:FnOk P w K mg base CX0 2 f2 d2 Zbb (spDraw K))
  (D_l_told:Df K mg "_law_told" Zfv Zku f3 d3) (G_l_told:FnOk P w K mg base CX0 3 f3 d3 Zku (spTellD K)) (D_l_price:Df K mg "_law_price" Zdg Zfj f4 d4) (G_l_price:FnOk P w K mg base CX0 3 f4 d4 Zfj (spPrice K)):FnOk P w K mg base CX0 4 f fd Zie (spLooksD K):=by
 refine F.ok scLLooks (λvs H Q E h=>?_) (λcdv A outer s H vs Q E hr3 h=>?_)
 ·obtain⟨a,ns,m,rfl,_⟩:=h
  rfl
 obtain⟨a,ns,m,rfl,hS,hn,m1,m2,q⟩:=h
 have hr2:Room 2 _:=hr3.mono (by decide)
 have hsl:sizeLine=16777216:=sizeLine_eq
 refine⟨_,(Zad (Zas (i:=2) scLLooks.nd rfl (Or.inl rfl) (Zai G_l_words hr3 (by rfl) D_l_words.m D_l_words.F.kp D_l_words.b .nil Zap (Zaa (pv 0) (Zaa Zah (Zaa Zf5 Zae)))))
  (Zad (Zas (i:=3) scLLooks.nd rfl (Or.inr rfl) (Zai G_l_words hr3 (by rfl) D_l_words.m D_l_words.F.kp D_l_words.b .nil Zap (Zaa (pv 0) (Zaa Zah (Zaa Zf5 Zae)))))
  (Zad (Zas (i:=4) scLLooks.nd rfl (Or.inl rfl) (Zb6 Zae))
  (Zad (Zba PassesOwn.never rfl (Zbo (by rfl) T.range (Zaa (Zai G_l_draw hr2 (by rfl) D_l_draw.m D_l_draw.F.kp D_l_draw.b .nil Zap (Zaa (pv 0) (Zaa Zah (Zaa Zah (Zaa Zah Zae))))) Zae)) (Zao (i:=5) scLLooks.nd rfl (Or.inr rfl))
   (Zad (Zm5 (i:=6) (N:=["_law_world", "_law_script", "_law_answers", "_law_many_here", "_law_k"]) (sc:=Zab Zdh) (own:=["_law_world"]) (fr:=["_law_script", "_law_answers", "_law_many_here", "_law_k"]) (js:=[0,3,1,5]) scLLooks.nd rfl rfl ⟨rfl,rfl,rfl,rfl,by decide +kernel,by decide +kernel,by decide +kernel,rfl,by decide +kernel⟩ rfl (Zbo (by rfl) T.range (Zaa (pv 1) Zae)) (λ_ _ _ _=>Zao (i:=0) (show List.Nodup (["_law_world", "_law_script", "_law_answers", "_law_many_here", "_law_k"]:List Str) by decide +kernel) rfl (Or.inl rfl)) (λ_ _ _ _=>Zbs) (λ_ _ _ _=>(Zai G_l_told hr3 (by rfl) D_l_told.m D_l_told.F.kp D_l_told.b .nil Zap (Zaa (pv 1) (Zaa (Zaw Zb2 (Zaw Zb2 Zah (Zaw Zg3 (pv 3) (pv 4))) (pv 0)) (Zaa (pv 2) Zae))))))
  (Zaf (Za1 (Zge PySem.F.plainAttrs_list PySem.F.slot_list_append PySem.F.type_list_append Zbi (pv 4) (Zaa (Zct (Zaa (Za3 Zch (pv 2) (pv 5) (λ_ _=>rfl)) (Zaa (Zai G_l_price hr3 (by rfl) D_l_price.m D_l_price.F.kp D_l_price.b .nil Zap (Zaa (pv 0) (Zaa (Zaw Zb2 Zah (pv 5)) Zae))) (Zaa (pv 6) Zae)))) Zae))))))
  (Zaf (Zan (pv 4))))))),?_⟩
 refine⟨_,rfl,a,ns,_,_,rfl,hS,hn,by decide,by decide,by decide +kernel,by decide +kernel,λlw H0 s0 hlw e0=>?_⟩
 rw[de_cs]at e0
 refine⟨_,rfl,a,ns,_,_,rfl,s0.seq hS,hn,by decide,by decide,by decide +kernel,by decide +kernel,λla H1 s01 hla ea=>?_⟩
 rw[pqr_cs]at ea
 have s1:=s0.trans s01
 have e1:=s01 _ _ e0
 refine⟨zero_le _,λl hl=>?_⟩
 have s2:Same H1 (upd H1 l (.lst [])):=Same.new hl
 have e2:(upd H1 l (.lst [])) l=some (.lst []):=Zac
 generalize (upd H1 l (.lst []))=H2 at s2 e2 ⊢
 refine⟨_,rfl,a,ns,_,_,_,rfl,(s1.trans s2).seq hS,hn,by decide,by decide,by decide,by decide,λr r0 r1=>?_⟩
 refine⟨_,rfl,by lia,by lia,Ze9 (n:=r.toNat) (λi σ H4=>∃(v4 v5:Option V) (us:List V) (ls:List Loo),
  σ = [some (.ref a),some (.int (m:Int)),some (.ref lw),some (.ref la),some (.ref l),v4,v5]∧Same H1 H4∧H4 l=some (.lst us)∧LLs (rm H4 [l]) ns m us ls i)
  ⟨none,none,[],[],rfl,s2,e2,⟨A2.nil,rfl,rfl,(λ_ h=>by cases h),(λ_ h=>by cases h),(λ_ h=>by cases h)⟩⟩ ?_ ?_⟩
 ·rintro i σ H4 hi ⟨v4,v5,us,ls,rfl,s4,e4,pt⟩
  have hS4:=(s1.trans s4).seq hS
  have hi3:i=0∨i=1:=by lia
  have hmi:0≤(m:Int) * (0 + (i:Int))∧(m:Int) * (0 + (i:Int))≤600:=by rcases hi3 with z | z <;> subst z <;> constructor <;> lia
  refine⟨_,rfl,_,rfl,by lia,by lia,λD hD=>?_⟩
  have xD:=Zag e4 hD
  refine lcJ (n:=m) (λj ys H7=>∃os:List (Option Str),ys=os.map oS∧os.length=j∧(∀s,some s∈os→s∈pqrL.map (wdS ns 3))∧Same H4 H7∧H7 D=some (.lst ys))
   ⟨[],rfl,rfl,(λ_ h=>by cases h),Same.new hD,Zac⟩ (λi _ _ hi _=>by show i < _; rw[toNat_natCast]; exact hi) (λ_ _ _=>by show _≤m; rw[toNat_natCast]; exact Nat.le_refl _) ?_ ?_
  ·rintro j ys H7 v H8 hj ⟨os,rfl,ol,oa,s7,e7⟩ ⟨rfl,rfl⟩
   refine Zce ?_
   refine⟨_,rfl,_,rfl,_,rfl,_,_,rfl,rfl,.inl ⟨by lia,by lia⟩,_,_,rfl,rfl,_,rfl,_,_,rfl,rfl,_,rfl,a,ns,_,la,_,rfl,s7.seq hS4,hn,by lia,by lia,(s4.trans s7) _ _ ea,rfl,λo ho=>?_⟩
   refine⟨_,e7,by rw[length_map]; lia,os ++ [o],by rw[map_append]; rfl,by rw[length_append,ol]; rfl,λs h=>?_,s7.put hD,Zac⟩
   rcases(mem_append.mp h)with z | z
   ·exact oa _ z
   exact ho _ (mem_singleton.mp z).symm
  rintro ys H6 ⟨os,rfl,ol,oa,s6,e6⟩
  have hia:i < deL.length:=by show i < 2; lia
  have hat2:atI ((deL.map (wdS ns 2)).map V.str) (0 + (i:Int))=some (.str (wdS ns 2 deL[i])):=by
   rw[Int.zero_add]
   exact Zav (by rw[getElem?_map,getElem?_map,getElem?_eq_getElem hia]; rfl)
  have hlb:=Zi0 ns 2 (de_lt _ (getElem_mem hia))
  have e46:=s6 _ _ e4
  refine⟨_,rfl,.inl ⟨rfl,_,SqL.of e46⟩,_,rfl,_,rfl,lw,_,_,_,rfl,rfl,SqL.of ((s4.trans s6) _ _ e1),hat2,?_⟩
  refine⟨_,rfl,_,rfl,_,_,rfl,rfl,a,ns,_,rfl,s6.seq hS4,hn,by lia,by lia,λpr pa pb=>⟨_,rfl,by show 3≤sizeLine; lia,λtp htp=>?_⟩⟩
  have s8:Same H6 (upd H6 tp (.tup [.str (wdS ns 2 deL[i]),.int pr,.ref D])):=Same.new htp
  have e8:(upd H6 tp (.tup [.str (wdS ns 2 deL[i]),.int pr,.ref D])) tp=some (.tup [.str (wdS ns 2 deL[i]),.int pr,.ref D]):=Zac
  have tx:=Zag e46 htp
  generalize (upd H6 tp (.tup [.str (wdS ns 2 deL[i]),.int pr,.ref D]))=H8 at s8 e8 ⊢
  have hul:=pt.hl.len
  have hdl:=pt.ll
  refine⟨l,_,_,rfl,rfl,s8 _ _ e46,by lia,?_⟩
  refine⟨_,_,us ++ [.ref tp],ls ++ [⟨wdS ns 2 deL[i],pr,os⟩],rfl,((s4.trans s6).trans s8).put hl,Zac,?_⟩
  rw[Zdt (by simp)]
  refine⟨?_,?_,by rw[length_append,hdl]; rfl,λz hz=>?_,λz hz=>?_,λz hz=>?_⟩
  ·refine A2.app (pt.hl.mono λv t _ q'=>q'.same (Zbf (s6.trans s8))) (A2.one ⟨D,⟨tp,rfl,?_⟩,?_⟩)
   ·rw[Zbm (by simp only[mem_cons,not_mem_nil,or_false]; exact tx.symm)]
    exact e8
   rw[Zbm (by simp only[mem_cons,not_mem_nil,or_false]; exact xD.symm)]
   exact s8 _ _ e6
  ·rw[Zly hia,map_append,map_append,pt.nm]
   rfl
  ·rcases(mem_append.mp hz)with z' | z'
   ·exact pt.sl _ z'
   rw[mem_singleton.mp z']
   exact⟨hlb.l1,hlb.l2,pa,pb⟩
  ·rcases(mem_append.mp hz)with z' | z'
   ·exact pt.lo _ z'
   rw[mem_singleton.mp z']
   exact ol
  rcases(mem_append.mp hz)with z' | z'
  ·exact pt.an _ z'
  rw[mem_singleton.mp z']
  exact oa
 rintro σ H4 ⟨v4,v5,us,ls,rfl,s4,e4,pt⟩
 exact⟨_,rfl,q l us ls _ H4 (s1.trans s4) (s1.free hl) e4 (by lia) (pt.same Zdj)⟩
noncomputable def spHeld:Sp:=λvs H Q _=>(∃(b:Addr) (e:List Int),vs=[.ref b]∧H b=some (.lst (e.map V.int))∧∀l:Addr,H l=none→Q (.ref l) (upd H l (.lst (e.map V.int))))∨(∃o:Option Str,vs=[oS o]∧Q (oS o) H)
inductive spCopied (vs:List V) (H:Hp) (Q:VK) (E0_:XK):Prop
 | mk (a:Addr) (us:List V) (c0:vs=[.ref a]) (c1:H a=some (.lst us)) (c2:us.length≤40) (c3:((∃ds:List Dee,A2 (DeV H) us ds∧(∀d∈ds,d.tab.length≤200)∧∀(l:Addr) (vs':List V) (H':Hp),Same H H'→H l=none→H' l=some (.lst vs')→A2 (DeV H') vs' ds→Q (.ref l) H') ∨    (∃ls:List Loo,A2 (LoV H) us ls∧(∀d∈ls,d.tab.length≤200)∧∀(l:Addr) (vs':List V) (H':Hp),Same H H'→H l=none→H' l=some (.lst vs')→A2 (LoV H') vs' ls→Q (.ref l) H'))):spCopied  vs H Q E0_
noncomputable abbrev Zkz:List Str:=["_law_one"]
noncomputable abbrev nLHeld:List Str:=["_law_one"]
theorem scLHeld:FnScope nLHeld Zkz (Zab Zf0):=⟨rfl,rfl,rfl,by decide +kernel,rfl,by decide +kernel,by decide +kernel⟩
noncomputable abbrev Zgo:List Str:=["_law_steps_here"]
noncomputable abbrev nLCopied:List Str:=["_law_steps_here"]
theorem scLCopied:FnScope nLCopied Zgo (Zab Zcj):=⟨rfl,rfl,rfl,by decide +kernel,rfl,by decide +kernel,by decide +kernel⟩
theorem ok_held {f:Addr}{fd:FuncData}(F:Fun K "_law_held" "_law_held" Zf0 f fd) (T:Bl mg):FnOk P w K mg base CX0 1 f fd Zkz spHeld:=by
 refine F.ok scLHeld (λvs H Q E h=>?_) (λcdv A outer s H vs Q E hr h=>?_)
 ·rcases h with⟨b,e,rfl,_⟩ | ⟨o,rfl,_⟩ <;> rfl
 rcases h with⟨b,e,rfl,hb,q⟩ | ⟨o,rfl,q⟩
 ·refine⟨_,(Zad (Za4 (Zcs (Za0 Zhv (by rfl) T.isi Zlm (Zaa (pv 0) (Zaa (Zh6 (v:=.ty "list") (by rfl) T.list Zcx rfl) Zae)))) (Zaf (Zan (Za2 Zbj (by rfl) T.list Zcx (Zaa (pv 0) Zae)))) Zar)
  (Zaf (Zan (pv 0)))),?_⟩
  refine⟨_,rfl,.inl ⟨b,_,rfl,hb,_,rfl,?_⟩⟩
  refine iteT ?_
  exact⟨_,rfl,b,_,rfl,.inl (SqL.of hb),q⟩
 refine⟨_,(Zad (Za4 (Zcs (Za0 Zhv (by rfl) T.isi Zlm (Zaa (pv 0) (Zaa (Zh6 (v:=.ty "list") (by rfl) T.list Zcx rfl) Zae)))) (Zaf (Zan (Za2 Zbj (by rfl) T.list Zcx (Zaa (pv 0) Zae)))) Zar)
 (Zaf (Zan (pv 0)))),?_⟩
 cases o with
 | none=>
  refine⟨_,rfl,.inr (.inr ⟨rfl,_,rfl,?_⟩)⟩
  refine iteF ?_
  exact⟨_,rfl,q⟩
 | some z=>
  refine⟨_,rfl,.inr (.inl ⟨z,rfl,_,rfl,?_⟩)⟩
  refine iteF ?_
  exact⟨_,rfl,q⟩
theorem ok_copied {f f1:Addr}{fd d1:FuncData}(F:Fun K "_law_copied" "_law_copied" Zcj f fd) (D_l_held:Df K mg "_law_held" Zf0 Zkz f1 d1) (G_l_held:FnOk P w K mg base CX0 1 f1 d1 Zkz spHeld):FnOk P w K mg base CX0 2 f fd Zgo spCopied:=by
 refine F.ok scLCopied (λvs H Q E h=>?_) (λcdv A outer s H vs Q E hr1 h=>?_)
 ·obtain⟨a,us,rfl,_⟩:=h
  rfl
 obtain⟨a,us,rfl,ha,ul,h⟩:=h
 have hsl:sizeLine=16777216:=sizeLine_eq
 refine⟨_,(Zaf (Zan (Zdv (N:=["_law_step"]) (sc:=Zab Zcj) (own:=["_law_step"]) (fr:=[]) (js:=[]) ⟨rfl,rfl,rfl,rfl,by decide +kernel,by decide +kernel,by decide +kernel,rfl,by decide +kernel⟩ rfl (Zaz (pv 0)) (λ_ _ _ _=>Zao (i:=0) (show List.Nodup (["_law_step"]:List Str) by decide +kernel) rfl (Or.inl rfl)) (λ_ _ _ _=>Zbs) (λ_ _ _ _=>(Zct (Zaa (Za3 (Zez K rfl) (pv 0) Zah (λ_ _=>rfl)) (Zaa (Za3 (Zez K rfl) (pv 0) Zah (λ_ _=>rfl)) (Zaa (Zdv (N:=["_law_one"]) (sc:=_) (own:=["_law_one"]) (fr:=[]) (js:=[]) ⟨rfl,rfl,rfl,rfl,by decide +kernel,lc_free (by decide +kernel),by decide +kernel,rfl,λ_ h=>by cases h⟩ rfl (Zkl K rfl (Za3 (Zez K rfl) (pv 0) Zah (λ_ _=>rfl))) (λ_ _ _ _=>Zao (i:=0) (show List.Nodup (["_law_one"]:List Str) by decide +kernel) rfl (Or.inl rfl)) (λ_ _ _ _=>Zbs) (λ_ _ _ _=>(Zai G_l_held hr1 (by rfl) D_l_held.m D_l_held.F.kp D_l_held.b .nil Zap (Zaa (pv 0) Zae)))) Zae)))))))),?_⟩
 have at0:∀(n:Str) (p:Int) (t:Addr),atI [V.str n,V.int p,V.ref t] ((0:Nat):Int)=some (.str n):=λn p t=>Zav rfl
 have at1:∀(n:Str) (p:Int) (t:Addr),atI [V.str n,V.int p,V.ref t] ((1:Nat):Int)=some (.int p):=λn p t=>Zav rfl
 have at2:∀(n:Str) (p:Int) (t:Addr),atI [V.str n,V.int p,V.ref t] ((2:Nat):Int)=some (.ref t):=λn p t=>Zav rfl
 refine⟨_,rfl,a,rfl,⟨_,SqL.of ha⟩,λD hD=>?_⟩
 rcases h with⟨ds,hd,dt,q⟩ | ⟨ls,hd,dt,q⟩
 ·have hul:=hd.len
  refine lcJ (n:=us.length) (λi ys H3=>A2 (DeV (rm H3 [D])) ys (ds.take i)∧ys.length=i∧Same H H3∧H3 D=some (.lst ys)) ⟨by simp; exact A2.nil,rfl,Same.new hD,Zac⟩
   (λi ys H3 hi ⟨_,_,s3,_⟩=>⟨_,us[i],SqL.of (s3 _ _ ha),getElem?_eq_getElem hi⟩) (λys H3 hh0=>by obtain⟨_,_,s3,_⟩:=hh0; exact⟨_,SqL.of (s3 _ _ ha),Nat.le_refl _⟩) ?_ ?_
  ·rintro i ys H3 v H4 hi ⟨ah,hyl,s3,e3⟩ ⟨rfl,hy⟩
   obtain⟨de,hde,hmem,t',es,⟨ta,rfl,et⟩,ht,he⟩:=hd.at (hy _ (SqL.of (s3 _ _ ha)))
   have et3:=s3 _ _ et
   refine Zce ?_
   refine⟨_,rfl,ta,_,_,_,rfl,rfl,SqT.of et3,at0 _ _ _,_,rfl,ta,_,_,_,rfl,rfl,SqT.of et3,at1 _ _ _,_,rfl,ta,_,_,_,rfl,rfl,SqT.of et3,at2 _ _ _,t',rfl,⟨_,SqL.of (s3 _ _ ht)⟩,λE1 hE1=>?_⟩
   have DE:D≠E1:=Zag e3 hE1
   have hel:=he.len
   have hdl:=dt de hmem
   refine lcJ (n:=es.length) (λj zs H5=>A2 (EnV (rm H5 [E1,D])) zs (de.tab.take j)∧zs.length=j∧Same H4 H5∧H5 E1=some (.lst zs)) ⟨by simp; exact A2.nil,rfl,Same.new hE1,Zac⟩
    (λj zs H5 hj ⟨_,_,s5,_⟩=>⟨_,es[j],SqL.of ((s3.trans s5) _ _ ht),getElem?_eq_getElem hj⟩) (λzs H5 hh0=>by obtain⟨_,_,s5,_⟩:=hh0; exact⟨_,SqL.of ((s3.trans s5) _ _ ht),Nat.le_refl _⟩) ?_ ?_
   ·rintro j zs H5 v H6 hj ⟨az,hzl,s5,e5⟩ ⟨rfl,hy'⟩
    obtain⟨en,hen,henm,eb,rfl,heb⟩:=he.at (hy' _ (SqL.of ((s3.trans s5) _ _ ht)))
    refine Zce ?_
    refine⟨_,rfl,.inl ⟨eb,en,rfl,(s3.trans s5) _ _ heb,λnb' hnb=>?_⟩⟩
    have s6:Same H6 (upd H6 nb' (.lst (en.map V.int))):=Same.new hnb
    have e6:(upd H6 nb' (.lst (en.map V.int))) nb'=some (.lst (en.map V.int)):=Zac
    have nE:=Zag e5 hnb
    have nD:=Zag (s5 _ _ e3) hnb
    generalize (upd H6 nb' (.lst (en.map V.int)))=H7 at s6 e6 ⊢
    refine⟨_,s6 _ _ e5,by lia,?_,by rw[length_append,hzl]; rfl,(s5.trans s6).put hE1,Zac⟩
    rw[Zdt (by simp),take_succ,hen]
    exact A2.app (az.mono λv t _ r=>r.same (Zbf s6)) (A2.one ⟨nb',rfl,by rw[Zbm (by simp only[mem_cons,not_mem_nil,or_false,not_or]; exact⟨nE.symm,nD.symm⟩)]; exact e6⟩)
   rintro zs H5 ⟨az,hzl,s5,e5⟩
   rw[hel,take_length]at az
   refine⟨by show 3≤sizeLine; lia,λtp htp=>?_⟩
   have s6:Same H5 (upd H5 tp (.tup [.str de.name,.int de.price,.ref E1])):=Same.new htp
   have e6:(upd H5 tp (.tup [.str de.name,.int de.price,.ref E1])) tp=some (.tup [.str de.name,.int de.price,.ref E1]):=Zac
   have tD:=Zag (s5 _ _ e3) htp
   generalize (upd H5 tp (.tup [.str de.name,.int de.price,.ref E1]))=H6 at s6 e6 ⊢
   refine⟨_,s6 _ _ (s5 _ _ e3),by lia,?_,by rw[length_append,hyl]; rfl,((s3.trans s5).trans s6).put hD,Zac⟩
   rw[Zdt (by simp),take_succ,hde]
   refine A2.app (ah.mono λv t _ r=>r.same (Zbf (s5.trans s6))) (A2.one ⟨E1,zs,⟨tp,rfl,?_⟩,?_,az.mono λv t _ r=>r.same ((Zbf s6).trans (Zkj (by simp)))⟩)
   ·rw[Zbm (by simp only[mem_cons,not_mem_nil,or_false]; exact tD.symm)]
    exact e6
   rw[Zbm (by simp only[mem_cons,not_mem_nil,or_false]; exact DE.symm)]
   exact s6 _ _ e5
  rintro ys H3 ⟨ah,hyl,s3,e3⟩
  rw[hul,take_length]at ah
  exact q D ys H3 s3 hD e3 (ah.mono λv t _ r=>r.same Zdj)
 have hul:=hd.len
 refine lcJ (n:=us.length) (λi ys H3=>A2 (LoV (rm H3 [D])) ys (ls.take i)∧ys.length=i∧Same H H3∧H3 D=some (.lst ys)) ⟨by simp; exact A2.nil,rfl,Same.new hD,Zac⟩
  (λi ys H3 hi ⟨_,_,s3,_⟩=>⟨_,us[i],SqL.of (s3 _ _ ha),getElem?_eq_getElem hi⟩) (λys H3 hh0=>by obtain⟨_,_,s3,_⟩:=hh0; exact⟨_,SqL.of (s3 _ _ ha),Nat.le_refl _⟩) ?_ ?_
 ·rintro i ys H3 v H4 hi ⟨ah,hyl,s3,e3⟩ ⟨rfl,hy⟩
  obtain⟨de,hde,hmem,t',⟨ta,rfl,et⟩,ht⟩:=hd.at (hy _ (SqL.of (s3 _ _ ha)))
  have et3:=s3 _ _ et
  refine Zce ?_
  refine⟨_,rfl,ta,_,_,_,rfl,rfl,SqT.of et3,at0 _ _ _,_,rfl,ta,_,_,_,rfl,rfl,SqT.of et3,at1 _ _ _,_,rfl,ta,_,_,_,rfl,rfl,SqT.of et3,at2 _ _ _,t',rfl,⟨_,SqL.of (s3 _ _ ht)⟩,λE1 hE1=>?_⟩
  have DE:D≠E1:=Zag e3 hE1
  have hdl:=dt de hmem
  have htl:(de.tab.map oS).length=de.tab.length:=length_map ..
  refine lcJ (n:=de.tab.length) (λj zs H5=>zs=(de.tab.take j).map oS∧Same H4 H5∧H5 E1=some (.lst zs)) ⟨by simp,Same.new hE1,Zac⟩
   (λj zs H5 hj ⟨_,s5,_⟩=>⟨_,oS de.tab[j],SqL.of ((s3.trans s5) _ _ ht),by rw[getElem?_map,getElem?_eq_getElem hj]; rfl⟩) (λzs H5 hh0=>by obtain⟨_,s5,_⟩:=hh0; exact⟨_,SqL.of ((s3.trans s5) _ _ ht),by rw[htl]; exact Nat.le_refl _⟩) ?_ ?_
  ·rintro j zs H5 v H6 hj ⟨rfl,s5,e5⟩ ⟨rfl,hy'⟩
   have hv:v=oS de.tab[j]:=by
    have:=hy' _ (SqL.of ((s3.trans s5) _ _ ht))
    rw[getElem?_map,getElem?_eq_getElem hj]at this
    (exact(Option.some.inj this).symm)
   subst hv
   refine Zce ?_
   refine⟨_,rfl,.inr ⟨de.tab[j],rfl,?_⟩⟩
   refine⟨_,e5,by rw[length_map,length_take]; lia,?_,s5.put hE1,Zac⟩
   rw[take_succ,getElem?_eq_getElem hj,map_append]
   rfl
  rintro zs H5 ⟨rfl,s5,e5⟩
  rw[take_length]at e5
  refine⟨by show 3≤sizeLine; lia,λtp htp=>?_⟩
  have s6:Same H5 (upd H5 tp (.tup [.str de.name,.int de.price,.ref E1])):=Same.new htp
  have e6:(upd H5 tp (.tup [.str de.name,.int de.price,.ref E1])) tp=some (.tup [.str de.name,.int de.price,.ref E1]):=Zac
  have tD:=Zag (s5 _ _ e3) htp
  generalize (upd H5 tp (.tup [.str de.name,.int de.price,.ref E1]))=H6 at s6 e6 ⊢
  refine⟨_,s6 _ _ (s5 _ _ e3),by lia,?_,by rw[length_append,hyl]; rfl,((s3.trans s5).trans s6).put hD,Zac⟩
  rw[Zdt (by simp),take_succ,hde]
  refine A2.app (ah.mono λv t _ r=>r.same (Zbf (s5.trans s6))) (A2.one ⟨E1,⟨tp,rfl,?_⟩,?_⟩)
  ·rw[Zbm (by simp only[mem_cons,not_mem_nil,or_false]; exact tD.symm)]
   exact e6
  rw[Zbm (by simp only[mem_cons,not_mem_nil,or_false]; exact DE.symm)]
  exact s6 _ _ e5
 rintro ys H3 ⟨ah,hyl,s3,e3⟩
 rw[hul,take_length]at ah
 exact q D ys H3 s3 hD e3 (ah.mono λv t _ r=>r.same Zdj)
inductive Ev where
 | did (d:Dee) | saw (l:Loo) (z:Str) | fd (d:Dee) | fl (l:Loo)
noncomputable def P1 (P:Nat→Bool) (w:Int):List Int:=if P w.toNat=true then [w]else []
noncomputable def lead:Ev→Int→List Int
 | .did d,w=>d.tab.getD w.toNat []
 | .saw l z,w=>P1 (λi=>decide (l.tab[i]? = some (some z))) w
 | .fd d,w=>P1 (λi=>decide (d.tab[i]? = some [])) w
 | .fl l,w=>P1 (λi=>decide (l.tab[i]? = some none)) w
noncomputable def Zcw (e:Ev) (s:Nat):Nat:=bt ((wl s).flatMap (lead e))
inductive EvIn (ds:List Dee) (ls:List Loo):Ev→Prop
 | did (d:Dee) (h:d∈ds):EvIn ds ls (.did d)
 | saw (l:Loo) (z:Str) (h:l∈ls):EvIn ds ls (.saw l z)
 | fd (d:Dee) (h:d∈ds):EvIn ds ls (.fd d)
 | fl (l:Loo) (h:l∈ls):EvIn ds ls (.fl l)
theorem Zgu {s m:Nat}(h:s < 2 ^ m) {w:Int}(hw:w∈wl s):0≤w∧w < (m:Int):=by
 obtain⟨h0,hb⟩:=wl_mem.mp hw
 refine⟨h0,?_⟩
 rcases lt_or_ge w.toNat m with z | z
 ·lia
 have:s < 2 ^ w.toNat:=lt_of_lt_of_le h (pow_le_pow_right (by decide) z)
 rw[testBit_lt_two_pow this]at hb
 cases hb
theorem Zfp (tab:List (Option Str)) (z:Str) (i:Nat):(bt (ixs tab z)).testBit i=decide (tab[i]? = some (some z)):=by
 rw[Zea,Bool.eq_iff_iff,any_eq_true,decide_eq_true_eq]
 unfold ixs
 constructor
 ·rintro⟨n,hn,e⟩
  obtain⟨j,hj,rfl⟩:=mem_map.mp hn
  have e2:j=i:=by simpa using e
  rw[← e2]
  exact of_decide_eq_true (mem_filter.mp hj).2
 intro h
 have hl:=(List.getElem?_eq_some_iff.mp h).1
 exact⟨(i:Int),mem_map.mpr ⟨i,mem_filter.mpr ⟨mem_range.mpr hl,decide_eq_true h⟩,rfl⟩,by simp⟩
theorem Zit {α:Type}(p:α→Bool) (tab:List α) (i:Nat):(bt (doI p tab)).testBit i=(tab[i]?.map p).getD false:=by
 rw[Zea,Bool.eq_iff_iff,any_eq_true]
 unfold doI
 constructor
 ·rintro⟨n,hn,e⟩
  obtain⟨j,hj,rfl⟩:=mem_map.mp hn
  have e2:j=i:=by simpa using e
  rw[← e2]
  exact(mem_filter.mp hj).2
 intro h
 have hl:i < tab.length:=by
  rcases lt_or_ge i tab.length with z | z
  ·exact z
  rw[getElem?_eq_none z]at h
  cases h
 exact⟨(i:Int),mem_map.mpr ⟨i,mem_filter.mpr ⟨mem_range.mpr hl,h⟩,rfl⟩,by simp⟩
theorem bt_wl (s:Nat):bt (wl s)=s:=by
 refine eq_of_testBit_eq λi=>?_
 rw[Zea,Bool.eq_iff_iff,any_eq_true]
 constructor
 ·rintro⟨n,hn,e⟩
  have e2:n.toNat=i:=by simpa using e
  rw[← e2]
  exact(wl_mem.mp hn).2
 intro h
 exact⟨(i:Int),wl_mem.mpr ⟨by lia,by rw[toNat_natCast]; exact h⟩,by simp⟩
theorem wl_wd {s:Nat}(h:s < 2 ^ 200):Wd (wl s):=λn hn=>by
 have:=Zgu h hn
 lia
theorem out_bit {s t:Nat}(hs:s < 2 ^ 200) (ht:t < 2 ^ 200):∃r:Nat,Builtin.bitXor (s:Int) (Builtin.bitAnd (s:Int) (t:Int))=(r:Int)∧∀i,r.testBit i=(s.testBit i && !t.testBit i):=by
 have e:=out_is (wl_wd hs) (wl_wd ht)
 rw[bt_wl,bt_wl]at e
 refine⟨_,e,λi=>?_⟩
 rw[Zea,Bool.eq_iff_iff,any_eq_true,and_eq_true,not_eq_true']
 constructor
 ·rintro⟨n,hn,e⟩
  have e2:n.toNat=i:=by simpa using e
  obtain⟨h1,h2⟩:=mem_filter.mp hn
  obtain⟨h0,hb⟩:=wl_mem.mp h1
  rw[← e2]
  refine⟨hb,?_⟩
  cases z:t.testBit n.toNat with
  | false=>rfl
  | true=>
   have:n∈wl t:=wl_mem.mpr ⟨h0,z⟩
   rw[decide_eq_true this]at h2
   cases h2
 rintro⟨h1,h2⟩
 refine⟨(i:Int),mem_filter.mpr ⟨wl_mem.mpr ⟨by lia,by rw[toNat_natCast]; exact h1⟩,?_⟩,by simp⟩
 rw[decide_eq_false λz=>?_]
 ·rfl
 have:=(wl_mem.mp z).2
 rw[toNat_natCast,h2]at this
 cases this
theorem bt_app (a b:List Int):bt (a ++ b)=bt a ||| bt b:=by
 refine eq_of_testBit_eq λi=>?_
 rw[Zea,List.any_append,testBit_or,Zea,Zea]
theorem lead_wd {m:Nat}{ds:List Dee}{ls:List Loo}(m2:m≤200) (hd:∀d∈ds,DeOk m d) {e:Ev}(he:EvIn ds ls e) {w:Int}(w0:0≤w) (w1:w < (m:Int)):∀x∈lead e w,0≤x∧x < (m:Int):=by
 have one:∀P:Nat→Bool,∀x∈P1 P w,0≤x∧x < (m:Int):=λP x hx=>by
  unfold P1 at hx
  split at hx
  ·rw[mem_singleton.mp hx]; exact⟨w0,w1⟩
  cases hx
 cases he with
 | did d h=>
  intro x hx
  have hx':x∈d.tab.getD w.toNat []:=hx
  rw[getD_eq_getElem?_getD]at hx'
  cases e:d.tab[w.toNat]? with
  | none=>rw[e]at hx'; cases hx'
  | some en=>
   rw[e]at hx'
   exact(hd d h).inn en (mem_of_getElem? e) x hx'
 | saw l z h=>exact one λi=>decide (l.tab[i]? = some (some z))
 | fd d h=>exact one λi=>decide (d.tab[i]? = some [])
 | fl l h=>exact one λi=>decide (l.tab[i]? = some none)
theorem forth_lt {m:Nat}{ds:List Dee}{ls:List Loo}(m2:m≤200) (hd:∀d∈ds,DeOk m d) {e:Ev}(he:EvIn ds ls e) {s:Nat}(hs:s < 2 ^ m):Zcw e s < 2 ^ m:=by
 refine lt_pow_two_of_testBit _ λi hi=>?_
 unfold Zcw
 rw[Zea]
 refine any_eq_false.mpr λn hn=>?_
 obtain⟨w,hw,hx⟩:=List.mem_flatMap.mp hn
 have h1:=Zgu hs hw
 have:=lead_wd m2 hd he h1.1 h1.2 n hx
 simp
 lia
theorem Zlq {s m:Nat}(h:s < 2 ^ m) (m2:m≤200):s < 2 ^ 200:=lt_of_lt_of_le h (pow_le_pow_right (by decide) m2)
inductive spLedTo (vs:List V) (H:Hp) (Q:VK) (E0_:XK):Prop
 | mk (t:Addr) (s m:Nat) (d:Dee) (c0:vs=[.ref t,.int (s:Int)]) (c1:H t=some (.tup (d.tab.map λn=>V.int (bt n:Nat)))) (c2:d.tab.length=m) (c3:m≤200) (c4:s < 2 ^ m) (c5:∀H':Hp,Same H H'→Q (.int (Zcw (.did d) s:Nat)) H'):spLedTo  vs H Q E0_
inductive spDoableM (C NN:Addr) (vs:List V) (H:Hp) (Q:VK) (E:XK):Prop
 | mk (x:Addr) (m:Nat) (ds:List Dee) (ls:List Loo) (n:Str) (c0:vs=[.ref x,.str n]) (c1:ChAt C H x m ds ls) (c2:(ds.map Dee.name ++ ls.map Loo.name).Nodup) (c3:((n∉ds.map Dee.name ++ ls.map Loo.name∧Rp n∧Out H E NN)∨∃s∈doOf ds ls,s.1=n∧Q (.int (s.2:Int)) H)):spDoableM C NN vs H Q E
inductive spAnswerSets (C NN:Addr) (vs:List V) (H:Hp) (Q:VK) (E:XK):Prop
 | mk (x:Addr) (m:Nat) (ds:List Dee) (ls:List Loo) (n:Str) (c0:vs=[.ref x,.str n]) (c1:ChAt C H x m ds ls) (c2:(ds.map Dee.name ++ ls.map Loo.name).Nodup) (c3:((n∉ls.map Loo.name∧Rp n∧Out H E NN)∨∃l∈ls,l.name=n∧∀v,PaV H v l→Q v H)):spAnswerSets C NN vs H Q E
noncomputable abbrev Zks:List Str:=["outs", "some"]
noncomputable abbrev nLedTo:List Str:=["outs", "some", "made", "world"]
theorem scLedTo:FnScope nLedTo Zks (Zab Zft):=⟨rfl,rfl,rfl,by decide +kernel,rfl,by decide +kernel,by decide +kernel⟩
noncomputable abbrev Zij:List Str:=["self", "name"]
noncomputable abbrev nDoable:List Str:=["self", "name"]
theorem scDoable:FnScope nDoable Zij (Zab Zff):=⟨rfl,rfl,rfl,by decide +kernel,rfl,by decide +kernel,by decide +kernel⟩
noncomputable abbrev Zew:List Str:=["self", "name"]
noncomputable abbrev nAnswerSets:List Str:=["self", "name"]
theorem scAnswerSets:FnScope nAnswerSets Zew (Zab Zcb):=⟨rfl,rfl,rfl,by decide +kernel,rfl,by decide +kernel,by decide +kernel⟩
theorem f6_doable {m:Int}{p o a q d:Addr}:(f6 m p o a q d).lookup ("told_doable" : Str)=some (.ref d):=by
 unfold f6
 rw[Zam,if_pos rfl]
theorem f6_parts {m:Int}{p o a q d:Addr}:(f6 m p o a q d).lookup ("told_parts" : Str)=some (.ref q):=by
 unfold f6 f5
 rw[Zam,if_neg (by decide +kernel),Zam,if_pos rfl]
theorem Zle (ds:List Dee) (ls:List Loo):(doOf ds ls).map (λs=>s.1)=ds.map Dee.name ++ ls.map Loo.name:=by
 unfold doOf
 rw[map_append,map_map,map_map]
 rfl
theorem ok_ledto {f f1:Addr}{fd d1:FuncData}(F:Fun K "led_to" "led_to" Zft f fd) (D_worlds_of:Df K mg "worlds_of" Zbn Zdb f1 d1) (G_worlds_of:FnOk P w K mg base CX0 1 f1 d1 Zdb spWof):FnOk P w K mg base CX0 2 f fd Zks spLedTo:=by
 refine F.ok scLedTo (λvs H Q E h=>?_) (λcdv A outer s H vs Q E hr1 h=>?_)
 ·obtain⟨t,s,m,d,rfl,_⟩:=h
  rfl
 obtain⟨t,s,m,d,rfl,ht,dl,m2,hs,q⟩:=h
 refine⟨_,(Zad (Zas (i:=2) scLedTo.nd rfl (Or.inl rfl) Zah)
  (Zad (Zba PassesOwn.never rfl (Zaz (Zai G_worlds_of hr1 (by rfl) D_worlds_of.m D_worlds_of.F.kp D_worlds_of.b .nil Zap (Zaa (pv 1) Zae))) (Zao (i:=3) scLedTo.nd rfl (Or.inl rfl))
   (Zaf (Zas (i:=2) scLedTo.nd rfl (Or.inl rfl) (Zaw Zjg (pv 2) (Za3 Za6 (pv 0) (pv 3) (λ_ _=>rfl))))))
  (Zaf (Zan (pv 2))))),?_⟩
 refine⟨_,rfl,s,rfl,Zlq hs m2,λl H1 s1 hl e1=>⟨l,rfl,⟨_,SqL.of e1⟩,?_⟩⟩
 have hl1:((wl s).map V.int).length=(wl s).length:=length_map ..
 refine Za5 (K:=K) (a:=l) (xs:=(wl s).map V.int) (λi σ H2=>∃(v3:Option V),σ = [some (.ref t),some (.int (s:Int)),some (.int ((bt (((wl s).take i).flatMap (lead (.did d))):Nat):Int)),v3]∧H2=H1)
  ⟨none,rfl,rfl⟩ (λi σ H2 _ hh0=>by obtain⟨_,_,z⟩:=hh0; rw[z]; exact SqL.of e1) ?_ ?_
 ·rintro i v σ H2 hv ⟨v3,rfl,rfl⟩
  have hi:i < (wl s).length:=by
   have:=(List.getElem?_eq_some_iff.mp hv).1
   lia
  have hw:(wl s)[i]? = some (wl s)[i]:=getElem?_eq_getElem hi
  have hv':v=.int (wl s)[i]:=by
   rw[getElem?_map,hw]at hv
   exact(Option.some.inj hv).symm
  subst hv'
  obtain⟨w0,w1⟩:=Zgu hs (getElem_mem hi)
  have htk:(wl s).take (i + 1)=(wl s).take i ++ [(wl s)[i]]:=take_succ_eq_append_getElem hi
  generalize (wl s)[i]=wv at hw w0 w1 htk
  obtain⟨j,rfl⟩:∃j:Nat,(j:Int)=wv:=⟨wv.toNat,toNat_of_nonneg w0⟩
  have hj:j < d.tab.length:=by lia
  have hat:atI (d.tab.map λn=>V.int (bt n:Nat)) (j:Int)=some (.int (bt d.tab[j]:Nat)):=Zav (by rw[getElem?_map,getElem?_eq_getElem hj]; rfl)
  refine⟨_,rfl,_,rfl,_,rfl,t,_,_,_,rfl,rfl,SqT.of (s1 _ _ ht),hat,_,_,rfl,rfl,some (.int (j:Int)),?_,rfl⟩
  have hld:lead (.did d) (j:Int)=d.tab[j]:=by
   show d.tab.getD ((j:Int)).toNat []=_
   rw[toNat_natCast,getD_eq_getElem?_getD,getElem?_eq_getElem hj]
   rfl
  rw[htk,List.flatMap_append,bt_app,← Zga]
  simp only[List.flatMap_cons,List.flatMap_nil,append_nil,hld]
  rfl
 rintro σ H2 ⟨v3,rfl,rfl⟩
 rw[hl1,take_length]
 exact⟨_,rfl,q H2 s1⟩
theorem ok_without {f:Addr}{fd:FuncData}(F:Fun K "without" "without" Zcz f fd):FnOk P w K mg base CX0 1 f fd Zgk spOut:=by
 refine F.ok scWithout (λvs H Q E h=>?_) (λcdv A outer s H vs Q E hr h=>?_)
 ·obtain⟨i,j,rfl,_⟩:=h
  rfl
 obtain⟨i,j,rfl,q⟩:=h
 refine⟨_,(Zaf (Zan (Zaw op_xor (pv 0) (Zaw Zhn (pv 0) (pv 1))))),?_⟩
 exact⟨_,rfl,_,rfl,_,rfl,_,_,rfl,rfl,_,_,rfl,rfl,q⟩
theorem ok_doableM {f C G NN f1':Addr}{fd d_check_step:FuncData}(F:Fun K "doable" "Chart.doable" Zff f fd) (L:Cl K C) (R':Er K mg G NN) (b_check_step:Binds K d_check_step ["self", "name"] []) (m_check_step:Meth K C "check_step" f1') (G_check_step:FnOk P w K mg base (CXe P w) 1 f1' d_check_step Zek (spCheckStep C NN)):FnOk P w K mg base (CXe P w) 2 f fd Zij (spDoableM C NN):=by
 refine F.okE scDoable (λvs H Q E h=>?_) (λcdv A outer s H vs Q E hr1 h=>?_)
 ·obtain⟨x,m,ds,ls,n,rfl,_⟩:=h
  rfl
 obtain⟨x,m,ds,ls,n,rfl,R,nd,q⟩:=h
 have hu:=Zdr hr1
 have R0:=R
 obtain⟨dx,p,o,a,q',d,kp,ko,ka,kq,kd,o1,o2,h1,h2,h3,h4,h5,h6,k1,k2,k3,k4,k5⟩:=R.ex
 refine⟨_,(Zad (Za1 (Zc8 (pv 0) L.cl m_check_step G_check_step hr1 b_check_step .nil Zmc (Zaa (pv 1) Zae)))
  (Zaf (Zan (Zd7 hu (Zcu (pv 0) rfl) (pv 1) (λ_ _=>rfl))))),?_⟩
 refine⟨_,rfl,x,dx,_,rfl,h1,Zgf (by decide +kernel),_,rfl,x,m,ds,ls,n,rfl,R0,nd,?_⟩
 rcases q with⟨hn,rp,q⟩ | ⟨sp,hsm,rfl,q⟩
 ·exact .inl ⟨hn,rp,q⟩
 refine .inr ⟨by rw[← Zle]; exact mem_map.mpr ⟨sp,hsm,rfl⟩,?_⟩
 obtain⟨v,hv,rfl⟩:=k5.val (by rw[Zle]; exact nd) hsm
 have dg:DGet H d (.str sp.1) (some (.int (sp.2:Int))):=.inl ⟨kd,(Sum.inr sp.1:Key),.inl h6,rfl,hv.symm⟩
 exact⟨_,rfl,x,C,dx,_,_,rfl,h1,L.cl,L.n6,f6_doable,_,rfl,d,_,rfl,dg,q⟩
theorem ok_answersets {f C G NN f1':Addr}{fd d_check_look:FuncData}(F:Fun K "answer_sets" "Chart.answer_sets" Zcb f fd) (L:Cl K C) (R':Er K mg G NN) (b_check_look:Binds K d_check_look ["self", "name"] []) (m_check_look:Meth K C "check_look" f1') (G_check_look:FnOk P w K mg base (CXe P w) 1 f1' d_check_look Zfl (spCheckLook C NN)):FnOk P w K mg base (CXe P w) 2 f fd Zew (spAnswerSets C NN):=by
 refine F.okE scAnswerSets (λvs H Q E h=>?_) (λcdv A outer s H vs Q E hr1 h=>?_)
 ·obtain⟨x,m,ds,ls,n,rfl,_⟩:=h
  rfl
 obtain⟨x,m,ds,ls,n,rfl,R,nd,q⟩:=h
 have hu:=Zdr hr1
 have R0:=R
 obtain⟨dx,p,o,a,q',d,kp,ko,ka,kq,kd,o1,o2,h1,h2,h3,h4,h5,h6,k1,k2,k3,k4,k5⟩:=R.ex
 refine⟨_,(Zad (Za1 (Zc8 (pv 0) L.cl m_check_look G_check_look hr1 b_check_look .nil Zmc (Zaa (pv 1) Zae)))
  (Zaf (Zan (Zd7 hu (Zcu (pv 0) rfl) (pv 1) (λ_ _=>rfl))))),?_⟩
 refine⟨_,rfl,x,dx,_,rfl,h1,Zgf (by decide +kernel),_,rfl,x,m,ds,ls,n,rfl,R0,nd,?_⟩
 rcases q with⟨hn,rp,q⟩ | ⟨l,hlm,rfl,q⟩
 ·exact .inl ⟨hn,rp,q⟩
 refine .inr ⟨mem_map.mpr ⟨l,hlm,rfl⟩,?_⟩
 obtain⟨v,hv,pv⟩:=k4.val (nodup_append.mp nd).2.1 hlm
 have dg:DGet H q' (.str l.name) (some v):=.inl ⟨kq,(Sum.inr l.name:Key),.inl h5,rfl,hv.symm⟩
 exact⟨_,rfl,x,C,dx,_,_,rfl,h1,L.cl,L.n5,f6_parts,_,rfl,q',_,rfl,dg,q v pv⟩
theorem ok_leastof {f f1:Addr}{fd d1:FuncData}(F:Fun K "least_of" "least_of" Zc1 f fd) (T:Bl mg) (D_worlds_of:Df K mg "worlds_of" Zbn Zdb f1 d1) (G_worlds_of:FnOk P w K mg base CX0 1 f1 d1 Zdb spWof):FnOk P w K mg base CX0 2 f fd Zgn spLeast:=by
 refine F.ok scLeastOf (λvs H Q E h=>?_) (λcdv A outer s H vs Q E hr1 h=>?_)
 ·obtain⟨m,rfl,_⟩:=h
  rfl
 obtain⟨m,rfl,hm,q⟩:=h
 refine⟨_,(Zad (Zas (i:=1) scLeastOf.nd rfl (Or.inl rfl) (Zai G_worlds_of hr1 (by rfl) D_worlds_of.m D_worlds_of.F.kp D_worlds_of.b .nil Zap (Zaa (pv 0) Zae)))
  (Zaf (Zan (Zgj (Zau Zm9 (Za0 Zds (by rfl) T.len PySem.boot_len (Zaa (pv 1) Zae)) Zah (Zay _)) (Za3 Zch (pv 1) Zah (λ_ _=>rfl)) Zf6)))),?_⟩
 refine⟨_,rfl,m,rfl,hm,λl H1 s1 hl e1=>?_⟩
 have e2:((wl m).map V.int).length=(wl m).length:=length_map ..
 have q1:=q H1 s1
 refine⟨_,rfl,_,_,rfl,.inl ⟨_,SqL.of e1,rfl⟩,_,_,rfl,rfl,_,rfl,?_⟩
 rw[e2]
 cases hw:wl m with
 | nil=>
  rw[hw]at q1
  exact Zn6 (by decide) q1
 | cons n r=>
  rw[hw]at q1 e1
  have hat:atI ((n :: r).map V.int) ((0:Nat):Int)=some (.int n):=Zav rfl
  exact Zn5 (decide_eq_true (by rw[length_cons]; lia)) ⟨_,rfl,l,_,_,_,rfl,rfl,SqL.of e1,hat,q1⟩
theorem ok_within {f:Addr}{fd:FuncData}(F:Fun K "within" "within" Zcf f fd):FnOk P w K mg base CX0 1 f fd Zcg spIn:=by
 refine F.ok scWithin (λvs H Q E h=>?_) (λcdv A outer s H vs Q E hr h=>?_)
 ·obtain⟨i,j,rfl,_⟩:=h
  rfl
 obtain⟨i,j,rfl,q⟩:=h
 refine⟨_,(Zaf (Zan (Zj5 Zdw (Zaw Zhn (pv 0) (pv 1)) (pv 0) (Zay _)))),?_⟩
 exact⟨_,rfl,_,rfl,_,_,rfl,rfl,_,rfl,rfl,q⟩
theorem Fun.okD {CN:Addr}{x qual:Str}{st:Stmt}{f:Addr}{fd:FuncData}{N ps:List Str}{k:Nat}{sp:Sp}(F:Fun K x qual st f fd) (S:FnScope N ps (Zab st)) (len:∀vs H Q E,sp vs H Q E→vs.length=ps.length)
  (hbody:∀(cdv:Value) (A:Around) (outer:List Env) (s:Shared) (H:Hp) (vs:List V) (Q:VK) (E:XK),Room k (A.deeper (envOfC qual (Zab st) s.heap.objs.size f cdv))→sp vs H Q E →
   ∃t,PSs (cxOf (CXd P w CN) P w K mg base N qual (Zab st) f cdv A outer s H E) (Zak st) t∧t { nx:=λ_ H'=>Q .non H',rt:=Q } (Zgx N vs) H):FnOk P w K mg base (CXd P w CN) (k + 1) f fd ps sp:=by
 obtain⟨oc,od,kV,doc,pm,an,cdv,ct,osl,rfl,lk,hcd⟩:=F.ex
 exact Znb lk hcd S len λA outer s H vs Q E hr hsp=>hbody cdv A outer s H vs Q E hr hsp
noncomputable abbrev xf (n:Str) (w:Int):List (Str×V):=[("name",.str n),("world",.int w)]
inductive spXInit (CN:Addr) (vs:List V) (H:Hp) (Q:VK) (E0_:XK):Prop
 | mk (x:Addr) (n:Str) (w:Int) (c0:vs=[.ref x,.str n,.int w]) (c1:H x=some (excF x CN none)) (c2:Rp n) (c3:w.natAbs.log2 < 1920) (c4:∀(d:Addr) (H':Hp),(∀c u,H c=some u→c≠x→H' c=some u)→H' x=some (excF x CN (some d))→H' d=some (xdO d (xf n w))→d≠x→H d=none→Q .non H'):spXInit CN vs H Q E0_
noncomputable def bd (t s:Nat):List Int:=(wl s).filter λw=>!t.testBit w.toNat
theorem wl_out {s t r:Nat}(h:∀i,r.testBit i=(s.testBit i && !t.testBit i)):wl r=bd t s:=by
 have n1:(wl r).Nodup:=(Zeq _).imp λh=>by lia
 have n2:(bd t s).Nodup:=((Zeq s).filter _).imp λh=>by lia
 have p:(wl r).Perm (bd t s):=(perm_ext_iff_of_nodup n1 n2).mpr λn=>by
  unfold bd
  rw[wl_mem,mem_filter,wl_mem,h,and_eq_true,and_assoc]
 exact List.Perm.eq_of_pairwise (le:=(·≤·)) (λa b _ _ h1 h2=>by lia) ((Zeq _).imp λh=>by lia) (((Zeq _).filter _).imp λh=>by lia) p
theorem in_bd {s t:Nat}:decide (V.int (Builtin.bitAnd (s:Int) (t:Int))=V.int (s:Int))=decide (bd t s=[]):=by
 rw[Zeb,Bool.eq_iff_iff,decide_eq_true_eq,decide_eq_true_eq]
 unfold bd
 rw[filter_eq_nil_iff]
 constructor
 ·intro e n hn z
  have e2:s &&& t=s:=ofNat.inj (V.int.inj e)
  obtain⟨_,hb⟩:=wl_mem.mp hn
  rw[← e2,testBit_and,and_eq_true]at hb
  rw[hb.2]at z
  cases z
 intro e
 have e2:s &&& t=s:=eq_of_testBit_eq λi=>by
  rw[testBit_and]
  cases hb:s.testBit i with
  | false=>rfl
  | true=>
   have:=e (i:Int) (wl_mem.mpr ⟨by lia,by rw[toNat_natCast]; exact hb⟩)
   rw[toNat_natCast]at this
   cases ht:t.testBit i with
   | true=>rfl
   | false=>rw[ht]at this; exact absurd rfl this
 rw[e2]
theorem bd_sub {t s:Nat}{w:Int}(h:w∈bd t s):w∈wl s:=(mem_filter.mp h).1
noncomputable def bdD (d:Dee) (s:Nat):List Int:=(wl s).filter λw=>decide (d.tab[w.toNat]? = some [])
noncomputable def bdL (l:Loo) (s:Nat):List Int:=(wl s).filter λw=>decide (l.tab[w.toNat]? = some none)
theorem Zm3 {m:Nat}{d:Dee}{s:Nat}(hl:d.tab.length=m) (hs:s < 2 ^ m):bd (bt (doI (λn=>decide (bt n≠0)) d.tab)) s=bdD d s:=by
 unfold bd bdD
 refine filter_congr λw hw=>?_
 obtain⟨w0,w1⟩:=Zgu hs hw
 have hi:w.toNat < d.tab.length:=by lia
 rw[Zit,getElem?_eq_getElem hi]
 show(!decide (bt d.tab[w.toNat]≠0))=_
 rw[Bool.eq_iff_iff]
 simp only[not_eq_true',decide_eq_false_iff_not,decide_eq_true_eq,Option.some.injEq]
 constructor
 ·intro z
  have z':bt d.tab[w.toNat]=0:=Decidable.not_not.mp z
  cases e:d.tab[w.toNat]with
  | nil=>rfl
  | cons a r=>
   exfalso
   rw[e]at z'
   have b:=Zea (a :: r) a.toNat
   rw[z',zero_testBit]at b
   simp at b
 intro z e
 rw[z]at e
 exact e rfl
theorem Zm2 {m:Nat}{l:Loo}{s:Nat}(hl:l.tab.length=m) (hs:s < 2 ^ m):bd (bt (doI isSome l.tab)) s=bdL l s:=by
 unfold bd bdL
 refine filter_congr λw hw=>?_
 obtain⟨w0,w1⟩:=Zgu hs hw
 have hi:w.toNat < l.tab.length:=by lia
 rw[Zit,getElem?_eq_getElem hi]
 show(!l.tab[w.toNat].isSome)=_
 cases l.tab[w.toNat] <;> simp
theorem do_lt {m:Nat}{ds:List Dee}{ls:List Loo}{as:List Str}(ok:ChOk m ds ls as) {st:Str×Nat}(h:st∈doOf ds ls):st.2 < 2 ^ 200:=by
 have m2:=ok.m2
 rcases(mem_append.mp h)with z | z
 ·obtain⟨d,hd,rfl⟩:=mem_map.mp z
  have hl:=(ok.de d hd).len
  refine lt_pow_two_of_testBit _ λi hi=>?_
  show(bt (doI _ d.tab)).testBit i=false
  rw[Zit,getElem?_eq_none (by lia)]
  rfl
 obtain⟨d,hd,rfl⟩:=mem_map.mp z
 have hl:=ok.lo d hd
 refine lt_pow_two_of_testBit _ λi hi=>?_
 show(bt (doI _ d.tab)).testBit i=false
 rw[Zit,getElem?_eq_none (by lia)]
 rfl
noncomputable def Ouk (H:Hp) (E:XK) (n:Str) (w:Int):Prop:=∀(d:Addr) (H':Hp),Same H H'→H d=none→H' d=some (xdO d (xf n w))→E (.ref d) none H'
inductive spCanDo (C NN:Addr) (vs:List V) (H:Hp) (Q:VK) (E:XK):Prop
 | mk (x:Addr) (m:Nat) (ds:List Dee) (ls:List Loo) (n:Str) (s:Nat) (c0:vs=[.ref x,.str n,.int (s:Int)]) (c1:ChAt C H x m ds ls) (c2:(ds.map Dee.name ++ ls.map Loo.name).Nodup) (c3:((n∉ds.map Dee.name ++ ls.map Loo.name∧Rp n∧Out H E NN)∨∃st∈doOf ds ls,st.1=n∧Q (.bl (decide (bd st.2 s=[]))) H)):spCanDo C NN vs H Q E
inductive spCheckCan (C:Addr) (vs:List V) (H:Hp) (Q:VK) (E:XK):Prop
 | mk (x:Addr) (m:Nat) (ds:List Dee) (ls:List Loo) (n:Str) (s:Nat) (st:Str×Nat) (c0:vs=[.ref x,.str n,.int (s:Int)]) (c1:ChAt C H x m ds ls) (c2:(ds.map Dee.name ++ ls.map Loo.name).Nodup) (c3:s < 2 ^ 200) (c4:st∈doOf ds ls) (c5:st.1=n) (c6:st.2 < 2 ^ 200) (c7:Rp n) (c8:((bd st.2 s=[]∧Q .non H)∨∃w r,bd st.2 s=w :: r∧Ouk H E n w)):spCheckCan C vs H Q E
inductive spAfter (C NN:Addr) (vs:List V) (H:Hp) (Q:VK) (E:XK):Prop
 | mk (x:Addr) (m:Nat) (ds:List Dee) (ls:List Loo) (as:List Str) (n:Str) (s:Nat) (c0:vs=[.ref x,.str n,.int (s:Int)]) (c1:ChAt C H x m ds ls) (c2:ChOk m ds ls as) (c3:s < 2 ^ m) (c4:((n∉ds.map Dee.name∧Rp n∧Out H E NN) ∨   ∃d∈ds,d.name=n∧Rp n∧((bdD d s=[]∧∀H':Hp,Same H H'→Q (.int (Zcw (.did d) s:Nat)) H')∨∃w r,bdD d s=w :: r∧Ouk H E n w))):spAfter C NN vs H Q E
noncomputable abbrev Zev:List Str:=["self", "name", "world"]
noncomputable abbrev nCannotInit:List Str:=["self", "name", "world"]
theorem scCannotInit:FnScope nCannotInit Zev (Zab Zca):=⟨rfl,rfl,rfl,by decide +kernel,rfl,by decide +kernel,by decide +kernel⟩
noncomputable abbrev Zf9:List Str:=["chart", "name", "some"]
noncomputable abbrev nCanDo:List Str:=["chart", "name", "some"]
theorem scCanDo:FnScope nCanDo Zf9 (Zab Zep):=⟨rfl,rfl,rfl,by decide +kernel,rfl,by decide +kernel,by decide +kernel⟩
noncomputable abbrev Zdc:List Str:=["chart", "name", "some"]
noncomputable abbrev nCheckCan:List Str:=["chart", "name", "some"]
theorem scCheckCan:FnScope nCheckCan Zdc (Zab Zbz):=⟨rfl,rfl,rfl,by decide +kernel,rfl,by decide +kernel,by decide +kernel⟩
noncomputable abbrev Zk1:List Str:=["chart", "name", "some"]
noncomputable abbrev nAfter:List Str:=["chart", "name", "some", "outs"]
theorem scAfter:FnScope nAfter Zk1 (Zab Zf2):=⟨rfl,rfl,rfl,by decide +kernel,rfl,by decide +kernel,by decide +kernel⟩
theorem ok_xinit {f CN G NN:Addr}{fd:FuncData}(F:Fun K "__init__" "Cannot.__init__" Zca f fd) (XN:XC K CN f G) (R':Er K mg G NN):FnOk P w K mg base CX0 1 f fd Zev (spXInit CN):=by
 refine F.ok scCannotInit (λvs H Q E h=>?_) (λcdv A outer s H vs Q E hr h=>?_)
 ·obtain⟨x,n,w,rfl,_⟩:=h
  rfl
 obtain⟨x,n,w,rfl,hx,rp,hw,q⟩:=h
 have hsl:sizeLine=16777216:=sizeLine_eq
 refine⟨_,(Zad (Za1 (pe_initX XN (by rfl) R'.mG (Zaa (pv 0) (Zaa (pe_joined (pj_rep (pv 1) (pj_str (pj_int (pv 2) pj_nil)))) Zae))))
  (Zad (ps_fldX0 XN XN.n1 (pv 0) (pv 1) rfl)
  (Zaf (ps_fldX1 XN XN.n2 (pv 0) (pv 2) rfl)))),?_⟩
 have l1:=Zlz Str.empty (reprText n)
 have l2:=Zlz (Str.empty ++ reprText n) (Str.ofString " cannot be done in world ")
 have l0:Str.empty.length=0:=rfl
 have l3:(Str.ofString " cannot be done in world ").length≤100:=by decide +kernel
 have rp':(reprText n).length≤100000:=rp
 refine⟨_,rfl,_,rfl,n,rfl,rp,by lia,by lia,_,rfl,w,rfl,hw,by lia,x,[_],none,rfl,hx,by show 1≤1000; decide,?_⟩
 refine⟨_,rfl,_,rfl,x,rfl,hx,λd hd nd=>?_⟩
 have e1:(upd (upd H x (excF x CN (some d))) d (xdO d [("name",.str n)])) x=some (excF x CN (some d)):=by rw[Zaj (Ne.symm nd),Zac]
 refine⟨_,rfl,_,rfl,x,d,_,rfl,e1,Zac,nd,by show 1 < 1000; decide,?_⟩
 have ep:putF "world" (V.int w) [("name",V.str n)]=xf n w:=by
  unfold putF
  (rw[if_neg (by decide +kernel)])
  rfl
 rw[ep]
 refine q d _ (λc u hc nc=>?_) ?_ Zac nd hd
 ·have ncd:c≠d:=Zag hc hd
  rw[Zaj ncd,Zaj ncd,Zaj nc]
  exact hc
 rw[Zaj (Ne.symm nd)]
 exact e1
theorem ok_cando {f C NN f1 f2:Addr}{fd d1 d2:FuncData}(F:Fun K "can_do" "can_do" Zep f fd) (L:Cl K C) (D_within:Df K mg "within" Zcf Zcg f1 d1) (G_within:FnOk P w K mg base CX0 1 f1 d1 Zcg spIn) (b_doable:Binds K d2 ["self", "name"] []) (m_doable:Meth K C "doable" f2) (G_doable:FnOk P w K mg base (CXe P w) 2 f2 d2 Zij (spDoableM C NN)):FnOk P w K mg base (CXe P w) 3 f fd Zf9 (spCanDo C NN):=by
 refine F.okE scCanDo (λvs H Q E h=>?_) (λcdv A outer s0 H vs Q E hr2 h=>?_)
 ·obtain⟨x,m,ds,ls,n,s,rfl,_⟩:=h
  rfl
 obtain⟨x,m,ds,ls,n,s,rfl,R,nd,q⟩:=h
 have hr1:Room 1 _:=hr2.mono (by decide)
 have R0:=R
 obtain⟨dx,p,o,a,q',d,kp,ko,ka,kq,kd,o1,o2,h1,_⟩:=R.ex
 refine⟨_,(Zaf (Zan (Zai G_within hr1 (by rfl) D_within.m D_within.F.kp D_within.b .nil Zap (Zaa (pv 2) (Zaa (Zc8 (pv 0) L.cl m_doable G_doable hr2 b_doable .nil Zmc (Zaa (pv 1) Zae)) Zae))))),?_⟩
 refine⟨_,rfl,_,rfl,x,dx,_,rfl,h1,Zgf (by decide +kernel),_,rfl,x,m,ds,ls,n,rfl,R0,nd,?_⟩
 rcases q with q | ⟨st,hst,e,q⟩
 ·exact .inl q
 refine .inr ⟨st,hst,e,_,_,rfl,?_⟩
 rw[in_bd]
 exact q
theorem ok_checkcan {f C CN G NN fX f1 f2 f3 f4:Addr}{fd dX d1 d2 d3 d4:FuncData}(F:Fun K "check_can" "check_can" Zbz f fd) (L:Cl K C) (XN:XC K CN fX G) (mX:mg "Cannot" = some (.ref CN)) (bX:Binds K dX ["self", "name", "world"] []) (GX:FnOk P w K mg base CX0 1 fX dX Zev (spXInit CN))
  (D_can_do:Df K mg "can_do" Zep Zf9 f1 d1) (G_can_do:FnOk P w K mg base (CXe P w) 3 f1 d1 Zf9 (spCanDo C NN)) (D_without:Df K mg "without" Zcz Zgk f2 d2) (G_without:FnOk P w K mg base CX0 1 f2 d2 Zgk spOut) (D_least_of:Df K mg "least_of" Zc1 Zgn f3 d3) (G_least_of:FnOk P w K mg base CX0 2 f3 d3 Zgn spLeast)
  (b_doable:Binds K d4 ["self", "name"] []) (m_doable:Meth K C "doable" f4) (G_doable:FnOk P w K mg base (CXe P w) 2 f4 d4 Zij (spDoableM C NN)):FnOk P w K mg base (CXd P w CN) 4 f fd Zdc (spCheckCan C):=by
 refine Fun.okD F scCheckCan (λvs H Q E h=>?_) (λcdv A outer s0 H vs Q E hr3 h=>?_)
 ·obtain⟨x,m,ds,ls,n,s,st,rfl,_⟩:=h
  rfl
 obtain⟨x,m,ds,ls,n,s,st,rfl,R,nd,hs,hst,e,ht,rp,q⟩:=h
 have hr2:Room 2 _:=hr3.mono (by decide)
 have hr1:Room 1 _:=hr3.mono (by decide)
 have R0:=R
 obtain⟨dx,p,o,a,q',d,kp,ko,ka,kq,kd,o1,o2,h1,_⟩:=R.ex
 refine⟨_,(Zaf (Za4 (Zg1 (Zcs (Zai G_can_do hr3 (by rfl) D_can_do.m D_can_do.F.kp D_can_do.b .nil Zko (Zaa (pv 0) (Zaa (pv 1) (Zaa (pv 2) Zae)))))) (Zaf (ps_raiseX XN GX hr2 bX (by rfl) mX (Zaa (pv 1) (Zaa (Zai G_least_of hr2 (by rfl) D_least_of.m D_least_of.F.kp D_least_of.b .nil Zap (Zaa (Zai G_without hr1 (by rfl) D_without.m D_without.F.kp D_without.b .nil Zap (Zaa (pv 2) (Zaa (Zc8 (pv 0) L.cl m_doable G_doable hr2 b_doable .nil Zko (Zaa (pv 1) Zae)) Zae))) Zae)) Zae)))) Zar)),?_⟩
 refine⟨_,rfl,_,rfl,_,rfl,x,m,ds,ls,n,s,rfl,R0,nd,.inr ⟨st,hst,e,⟨_,rfl,?_⟩⟩⟩
 rcases q with⟨hb,q⟩ | ⟨w,r,hb,q⟩
 ·rw[hb]
  refine iteF ?_
  try unfold tNext
  exact q
 rw[hb]
 refine iteT ?_
 refine⟨_,rfl,_,rfl,_,rfl,x,dx,_,rfl,h1,Zgf (by decide +kernel),_,rfl,x,m,ds,ls,n,rfl,R0,nd,.inr ⟨st,hst,e,_,_,rfl,?_⟩⟩
 obtain⟨r',er,hr'⟩:=out_bit hs ht
 rw[er]
 have r200:r' < 2 ^ 200:=lt_pow_two_of_testBit _ λi hi=>by
  rw[hr',testBit_lt_two_pow (lt_of_lt_of_le hs (pow_le_pow_right (by decide) hi))]
  rfl
 refine⟨r',rfl,r200,λH1 s1=>?_⟩
 rw[wl_out hr',hb]
 refine⟨by show 2≤1000; decide,λx' hx'=>?_⟩
 have hw:0≤w∧w < ((200:Nat):Int):=Zgu hs (bd_sub (t:=st.2) (by rw[hb]; exact mem_cons_self))
 refine⟨x',n,w,rfl,Zac,rp,lt_of_le_of_lt (Nat.log2_le_self _) (by lia),λd' H' k ex ed nx hd=>⟨rfl,d',ex,q d' _ (λc u hc=>?_) ?_ ?_⟩⟩
 ·have hc1:=s1 _ _ hc
  have ncx:c≠x':=Zag hc1 hx'
  rw[Ze2 ncx]
  exact k c u (by rw[Zaj ncx]; exact hc1) ncx
 ·refine s1.free ?_
  rw[Zaj nx]at hd
  exact hd
 rw[Ze2 nx]
 exact ed
theorem ok_after {f C CN NN f1 f2 f3:Addr}{fd d1 d2 d3:FuncData}(F:Fun K "after" "after" Zf2 f fd) (L:Cl K C) (b_out_sets:Binds K d1 ["self", "name"] []) (m_out_sets:Meth K C "out_sets" f1) (G_out_sets:FnOk P w K mg base (CXe P w) 2 f1 d1 Zh9 (spOutSets C NN))
  (D_check_can:Df K mg "check_can" Zbz Zdc f2 d2) (G_check_can:FnOk P w K mg base (CXd P w CN) 4 f2 d2 Zdc (spCheckCan C)) (D_led_to:Df K mg "led_to" Zft Zks f3 d3) (G_led_to:FnOk P w K mg base CX0 2 f3 d3 Zks spLedTo):FnOk P w K mg base (CXd P w CN) 5 f fd Zk1 (spAfter C NN):=by
 refine Fun.okD F scAfter (λvs H Q E h=>?_) (λcdv A outer s0 H vs Q E hr4 h=>?_)
 ·obtain⟨x,m,ds,ls,as,n,s,rfl,_⟩:=h
  rfl
 obtain⟨x,m,ds,ls,as,n,s,rfl,R,ok,hs,q⟩:=h
 have hr2:Room 2 _:=hr4.mono (by decide)
 have R0:=R
 obtain⟨dx,p,o,a,q',d,kp,ko,ka,kq,kd,o1,o2,h1,_⟩:=R.ex
 refine⟨_,(Zad (Zas (i:=3) scAfter.nd rfl (Or.inl rfl) (Zc8 (pv 0) L.cl m_out_sets G_out_sets hr2 b_out_sets .nil Zko (Zaa (pv 1) Zae)))
  (Zad (Za1 (Zai G_check_can hr4 (by rfl) D_check_can.m D_check_can.F.kp D_check_can.b .nil passD (Zaa (pv 0) (Zaa (pv 1) (Zaa (pv 2) Zae)))))
  (Zaf (Zan (Zai G_led_to hr2 (by rfl) D_led_to.m D_led_to.F.kp D_led_to.b .nil Zap (Zaa (pv 3) (Zaa (pv 2) Zae))))))),?_⟩
 refine⟨_,rfl,x,dx,_,rfl,h1,Zgf (by decide +kernel),_,rfl,x,m,ds,ls,n,rfl,R0,ok.nd,?_⟩
 rcases q with q | ⟨de,hde,e,rp,q⟩
 ·exact .inl q
 refine .inr ⟨de,hde,e,λt ht=>?_⟩
 have m2:=ok.m2
 have hl:=(ok.de de hde).len
 have hst:(de.name,bt (doI (λn=>decide (bt n≠0)) de.tab))∈doOf ds ls:=mem_append_left _ (mem_map.mpr ⟨de,hde,rfl⟩)
 refine⟨_,rfl,_,rfl,_,rfl,x,m,ds,ls,n,s,_,rfl,R0,ok.nd,Zlq hs m2,hst,e,do_lt ok hst,rp,?_⟩
 rw[Zm3 hl hs]
 rcases q with⟨hb,q⟩ | q
 ·refine .inl ⟨hb,?_⟩
  exact⟨_,rfl,_,rfl,t,s,m,de,rfl,ht,hl,m2,hs,q⟩
 exact .inr q
theorem ok_deednames {f C:Addr}{fd:FuncData}(F:Fun K "deed_names" "Chart.deed_names" Zcm f fd) (L:Cl K C) (T:Bl mg):FnOk P w K mg base CX0 1 f fd Zfk (spDeedNames C):=by
 refine F.ok scDeedNames (λvs H Q E h=>?_) (λcdv A outer s H vs Q E hr h=>?_)
 ·obtain⟨x,m,ds,ls,rfl,_⟩:=h
  rfl
 obtain⟨x,m,ds,ls,rfl,R,q⟩:=h
 obtain⟨dx,p,o,a,q',d,kp,ko,ka,kq,kd,o1,o2,h1,h2,h3,h4,h5,h6,k1,k2,k3,k4,k5⟩:=R.ex
 refine⟨_,(Zaf (Zan (Za2 (Zhu rfl) (by rfl) T.list Zcx (Zaa (Zcu (pv 0) rfl) Zae)))),?_⟩
 refine⟨_,rfl,x,C,dx,_,_,rfl,h1,L.cl,L.n3,Zis,o,ko,rfl,.inr ⟨o1,h3⟩,λl hl=>?_⟩
 exact q l _ (Same.new hl) hl (by rw[Zac,k2.keysS])
theorem ok_looknames {f C:Addr}{fd:FuncData}(F:Fun K "look_names" "Chart.look_names" Zcl f fd) (L:Cl K C) (T:Bl mg):FnOk P w K mg base CX0 1 f fd Zfh (spLookNames C):=by
 refine F.ok scLookNames (λvs H Q E h=>?_) (λcdv A outer s H vs Q E hr h=>?_)
 ·obtain⟨x,m,ds,ls,rfl,_⟩:=h
  rfl
 obtain⟨x,m,ds,ls,rfl,R,q⟩:=h
 obtain⟨dx,p,o,a,q',d,kp,ko,ka,kq,kd,o1,o2,h1,h2,h3,h4,h5,h6,k1,k2,k3,k4,k5⟩:=R.ex
 refine⟨_,(Zaf (Zan (Za2 (Zhu rfl) (by rfl) T.list Zcx (Zaa (Zcu (pv 0) rfl) Zae)))),?_⟩
 refine⟨_,rfl,x,C,dx,_,_,rfl,h1,L.cl,L.n4,Zfq,a,ka,rfl,.inr ⟨o2,h4⟩,λl hl=>?_⟩
 exact q l _ (Same.new hl) hl (by rw[Zac,k3.keysS])
theorem ok_priceof {f C G NN f1':Addr}{fd d_check_step:FuncData}(F:Fun K "price_of" "Chart.price_of" Zed f fd) (L:Cl K C) (R':Er K mg G NN) (b_check_step:Binds K d_check_step ["self", "name"] []) (m_check_step:Meth K C "check_step" f1') (G_check_step:FnOk P w K mg base (CXe P w) 1 f1' d_check_step Zek (spCheckStep C NN)):FnOk P w K mg base (CXe P w) 2 f fd Zgl (spPriceOf C NN):=by
 refine F.okE scPriceOf (λvs H Q E h=>?_) (λcdv A outer s H vs Q E hr1 h=>?_)
 ·obtain⟨x,m,ds,ls,n,rfl,_⟩:=h
  rfl
 obtain⟨x,m,ds,ls,n,rfl,R,nd,q⟩:=h
 have hu:=Zdr hr1
 have R0:=R
 obtain⟨dx,p,o,a,q',d,kp,ko,ka,kq,kd,o1,o2,h1,h2,h3,h4,h5,h6,k1,k2,k3,k4,k5⟩:=R.ex
 refine⟨_,(Zad (Za1 (Zc8 (pv 0) L.cl m_check_step G_check_step hr1 b_check_step .nil Zmc (Zaa (pv 1) Zae)))
  (Zaf (Zan (Zd7 hu (Zcu (pv 0) rfl) (pv 1) (λ_ _=>rfl))))),?_⟩
 refine⟨_,rfl,x,dx,_,rfl,h1,Zgf (by decide +kernel),_,rfl,x,m,ds,ls,n,rfl,R0,nd,?_⟩
 rcases q with⟨hn,rp,q⟩ | ⟨sp,hsm,rfl,q⟩
 ·exact .inl ⟨hn,rp,q⟩
 refine .inr ⟨by rw[← Zcq]; exact mem_map.mpr ⟨sp,hsm,rfl⟩,?_⟩
 obtain⟨v,hv,rfl⟩:=k1.val (by rw[Zcq]; exact nd) hsm
 have dg:DGet H p (.str sp.1) (some (.int sp.2)):=.inl ⟨kp,(Sum.inr sp.1:Key),.inl h2,rfl,hv.symm⟩
 exact⟨_,rfl,x,C,dx,_,_,rfl,h1,L.cl,L.n2,Zg9,_,rfl,p,_,rfl,dg,q⟩
structure Lx (H:Hp) (l1 l2:Addr) (us ws:List V) (ds:List Dee) (ls:List Loo) (m:Nat):Prop where
 h1:H l1=some (.lst us)
 h2:H l2=some (.lst ws)
 hd:A2 (DeV H) us ds
 hl:A2 (LoV H) ws ls
 nd:(ds.map Dee.name ++ ls.map Loo.name).Nodup
 de:∀d∈ds,DeOk m d
 lo:∀l∈ls,l.tab.length=m
 c1:ds.length≤3
 c2:ls.length≤2
 db:∀d∈ds,Lb d.name
 lb:∀l∈ls,Lb l.name
 ab:∀l∈ls,∀s,some s∈l.tab→Lb s
 m1:1≤m
 m2:m≤200
theorem Lx.same {H H':Hp}{l1 l2:Addr}{us ws:List V}{ds:List Dee}{ls:List Loo}{m:Nat}(h:Lx H l1 l2 us ws ds ls m) (s:Same H H'):Lx H' l1 l2 us ws ds ls m:=
 ⟨s _ _ h.h1,s _ _ h.h2,h.hd.mono λv t _ q=>q.same s,h.hl.mono λv t _ q=>q.same s,h.nd,h.de,h.lo,h.c1,h.c2,h.db,h.lb,h.ab,h.m1,h.m2⟩
theorem sh_str {x:Str}(h:strOk x=true):shaped (.str x)=true:=by
 unfold shaped
 rw[PyData.canLay0,PyData.depth,h]
 rfl
theorem sh_non:shaped .none=true:=by
 unfold shaped
 rw[PyData.canLay0,PyData.depth]
 rfl
theorem eqv_e (n:Int) (r:List Int):PyData.eqv (.list ((n :: r).map PyData.int)) (.list (([]:List Int).map PyData.int))=false:=by simp[PyData.eqv,PyData.eqvAll]
theorem eqv_se (x:Str):PyData.eqv (.str x) (.list (([]:List Int).map PyData.int))=false:=by simp[PyData.eqv]
theorem eqv_ne:PyData.eqv .none (.list (([]:List Int).map PyData.int))=false:=by simp[PyData.eqv]
theorem ch_ok {H H':Hp}{ns:List Int}{m i j:Nat}{us ws:List V}{ds:List Dee}{ls:List Loo}(d:DDs H ns m us ds i) (l:LLs H' ns m ws ls j) (hi:i≤3) (hj:j≤2) (m1:1≤m) (m2:m≤200):ChOk m ds ls (pqrL.map (wdS ns 3)):=by
 have dl:=d.dl
 have ll:=l.ll
 refine⟨m1,m2,by lia,by lia,?_,d.so,l.sl,d.de,l.lo,l.an,by rw[length_map]; decide,Ziz (by decide)⟩
 rw[d.nm,l.nm,← map_append]
 refine Ziz ?_
 have h:(abcL ++ deL).Nodup:=by decide
 exact List.Sublist.nodup (List.Sublist.append (take_sublist _ _) (take_sublist _ _)) h
theorem lx_of {H:Hp}{ns:List Int}{l1 l2:Addr}{m i j:Nat}{us ws:List V}{ds:List Dee}{ls:List Loo}(h1:H l1=some (.lst us)) (h2:H l2=some (.lst ws)) (d:DDs H ns m us ds i) (l:LLs H ns m ws ls j) (hi:i≤3) (hj:j≤2) (m1:1≤m) (m2:m≤200):Lx H l1 l2 us ws ds ls m:=by
 have dl:=d.dl
 have ll:=l.ll
 refine⟨h1,h2,d.hd,l.hl,(ch_ok d l hi hj m1 m2).nd,d.de,l.lo,by lia,by lia,λx hx=>?_,λx hx=>?_,λx hx s hs=>?_,m1,m2⟩
 ·have:x.name∈(abcL.take i).map (wdS ns 2):=by rw[← d.nm]; exact mem_map.mpr ⟨x,hx,rfl⟩
  obtain⟨c,hc,e⟩:=mem_map.mp this
  rw[← e]
  exact Zi0 ns 2 (Znz c (mem_of_mem_take hc))
 ·have:x.name∈(deL.take j).map (wdS ns 2):=by rw[← l.nm]; exact mem_map.mpr ⟨x,hx,rfl⟩
  obtain⟨c,hc,e⟩:=mem_map.mp this
  rw[← e]
  exact Zi0 ns 2 (de_lt c (mem_of_mem_take hc))
 obtain⟨c,hc,e⟩:=mem_map.mp (l.an x hx s hs)
 rw[← e]
 exact Zi0 ns 3 (pqr_lt c hc)
noncomputable def msk (s:Nat) (tab:List (Option Str)):List (Option Str):=(List.range tab.length).map λj=>if s.testBit j=true then tab.getD j none else none
theorem Zj8 (s:Nat) (tab:List (Option Str)):(msk s tab).length=tab.length:=by unfold msk; rw[length_map,length_range]
theorem Zj9 {s:Nat}{tab:List (Option Str)}{j:Nat}(hj:j < tab.length):(msk s tab)[j]? = some (if s.testBit j=true then tab.getD j none else none):=by
 unfold msk
 rw[getElem?_map,List.getElem?_range hj]
 rfl
theorem msk_at {s:Nat}{tab:List (Option Str)}{j:Nat}{z:Str}:(msk s tab)[j]? = some (some z)↔s.testBit j=true∧tab[j]? = some (some z):=by
 rcases lt_or_ge j tab.length with hj | hj
 ·rw[Zj9 hj,getD_eq_getElem?_getD,getElem?_eq_getElem hj]
  by_cases hb:s.testBit j=true
  ·rw[if_pos hb]
   simp[hb]
  rw[if_neg hb]
  simp[hb]
 rw[getElem?_eq_none (by rw[Zj8]; exact hj),getElem?_eq_none hj]
 simp
theorem Zim (s:Nat) (tab:List (Option Str)) (z:Str):bt (ixs (msk s tab) z)=s &&& bt (ixs tab z):=by
 refine eq_of_testBit_eq λi=>?_
 rw[testBit_and,Zfp,Zfp,Bool.eq_iff_iff,decide_eq_true_eq,msk_at,and_eq_true,decide_eq_true_eq]
theorem msk_has {s:Nat}{tab:List (Option Str)}{z:Str}:some z∈msk s tab↔s &&& bt (ixs tab z)≠0:=by
 rw[← Zim]
 constructor
 ·intro h e
  obtain⟨j,hj⟩:=getElem?_of_mem h
  have b:=Zfp (msk s tab) z j
  rw[e,zero_testBit,decide_eq_true hj]at b
  cases b
 intro h
 refine Decidable.byContradiction λno=>h (eq_of_testBit_eq λi=>?_)
 rw[Zfp,zero_testBit,decide_eq_false λe=>no (mem_of_getElem? e)]
theorem PsOk.skips {tab:List (Option Str)}{ps:List (Str×V)}(h:PsOk tab ps):∀k:Nat,PsOk (tab ++ replicate k none) ps
 | 0=>by rw[List.replicate_zero,append_nil]; exact h
 | k + 1=>by rw[List.replicate_succ',← append_assoc]; exact(h.skips k).skip
noncomputable def Ri (xs:List Str):Prop:=xs.Pairwise λa b=>a.cps.toList < b.cps.toList
theorem str_ext {a b:Str}(e:a.cps.toList=b.cps.toList):a=b:=by
 have e2:a.cps=b.cps:=Array.toList_inj.mp e
 cases a
 cases b
 cases e2
 rfl
theorem Ri.nd {xs:List Str}(h:Ri xs):xs.Nodup:=h.imp λl e=>by rw[e]at l; exact List.lt_irrefl _ l
theorem Ri.eq {xs ys:List Str}(hx:Ri xs) (hy:Ri ys) (h:∀z,z∈xs↔z∈ys):xs=ys:=
 List.Perm.eq_of_pairwise (le:=λa b:Str=>a.cps.toList < b.cps.toList) (λa b _ _ h1 h2=>absurd h2 (List.lt_asymm h1)) hx hy ((perm_ext_iff_of_nodup hx.nd hy.nd).mpr h)
theorem Zl3 {x y:Str}{r:List Str}(h:x.cps.toList < y.cps.toList) (hr:Ri (y :: r)):Ri (x :: y :: r):=by
 refine pairwise_cons.mpr ⟨λz hz=>?_,hr⟩
 rcases(mem_cons.mp hz)with e | hz
 ·rw[e]; exact h
 exact List.lt_trans h ((pairwise_cons.mp hr).1 z hz)
theorem Zja:∀{zs:List (Str×V)},ltP zs=true→Ri (zs.map (·.1))
 | [],_=>List.Pairwise.nil
 | [p],_=>pairwise_cons.mpr ⟨λz hz=>(nomatch hz),List.Pairwise.nil⟩
 | p :: q :: r,h=>by
  unfold ltP at h
  simp only[List.tail_cons,List.zip_cons_cons,List.all_cons,and_eq_true,decide_eq_true_eq]at h
  refine Zl3 h.1 (Zja (zs:=q :: r) ?_)
  unfold ltP
  exact h.2
theorem Zf3:∀{zs:List Str},sortedS zs=true→zs.Nodup→Ri zs
 | [],_,_=>List.Pairwise.nil
 | [x],_,_=>pairwise_cons.mpr ⟨λz hz=>(nomatch hz),List.Pairwise.nil⟩
 | x :: y :: r,h,nd=>by
  have h':(!PySem.Spec.ltCps y.cps.toList x.cps.toList && risingS y r)=true:=h
  rw[and_eq_true,not_eq_true',ltCps_eq,decide_eq_false_iff_not]at h'
  have hne:x≠y:=λe=>(nodup_cons.mp nd).1 (by rw[e]; exact mem_cons_self)
  refine Zl3 ?_ (Zf3 (zs:=y :: r) h'.2 (nodup_cons.mp nd).2)
  refine Decidable.byContradiction λh2=>hne (str_ext (List.le_antisymm (not_lt.mp h'.1) (not_lt.mp h2)))
structure QrAt (H:Hp) (ts:List Addr) (qs:List (Str×Nat)):Prop where
 len:ts.length=qs.length
 got:∀(i:Nat) t q,ts[i]? = some t→qs[i]? = some q→H t=some (.tup [.str q.1,.int (q.2:Int)])
theorem QrAt.same {H H':Hp}{ts:List Addr}{qs:List (Str×Nat)}(h:QrAt H ts qs) (s:Same H H'):QrAt H' ts qs:=⟨h.len,λi t q h1 h2=>s _ _ (h.got i t q h1 h2)⟩
theorem QrAt.snoc {H:Hp}{ts:List Addr}{qs:List (Str×Nat)}{t:Addr}{q:Str×Nat}(h:QrAt H ts qs) (e:H t=some (.tup [.str q.1,.int (q.2:Int)])):QrAt H (ts ++ [t]) (qs ++ [q]):=by
 refine⟨by rw[length_append,length_append,h.len]; rfl,λi t' q' h1 h2=>?_⟩
 by_cases hi:i < ts.length
 ·rw[getElem?_append_left hi]at h1
  rw[getElem?_append_left (by rw[← h.len]; exact hi)]at h2
  exact h.got i t' q' h1 h2
 rw[getElem?_append_right (by lia)]at h1
 rw[getElem?_append_right (by rw[← h.len]; lia),← h.len]at h2
 cases hk:i - ts.length with
 | zero=>
  rw[hk]at h1 h2
  cases h1
  cases h2
  exact e
 | succ k=>
  rw[hk]at h1
  cases h1
structure PtOf (tab:List (Option Str)) (s:Nat) (qs:List (Str×Nat)):Prop where
 ri:Ri (qs.map (·.1))
 mem:∀q,q∈qs↔q.2=s &&& bt (ixs tab q.1)∧q.2≠0
theorem PtOf.keys {tab:List (Option Str)}{s:Nat}{qs:List (Str×Nat)}(h:PtOf tab s qs) (z:Str):z∈qs.map (·.1)↔s &&& bt (ixs tab z)≠0:=by
 constructor
 ·intro hz
  obtain⟨q,hq,rfl⟩:=mem_map.mp hz
  obtain⟨e,n⟩:=(h.mem q).mp hq
  rw[← e]
  exact n
 intro hz
 exact mem_map.mpr ⟨(z,s &&& bt (ixs tab z)),(h.mem _).mpr ⟨rfl,hz⟩,rfl⟩
theorem PtOf.eq {tab:List (Option Str)}{s:Nat}{qs qs':List (Str×Nat)}(h:PtOf tab s qs) (h':PtOf tab s qs'):qs=qs':=by
 have ek:=h.ri.eq h'.ri λz=>by rw[h.keys,h'.keys]
 have all:∀{rs:List (Str×Nat)},PtOf tab s rs→rs=(rs.map (·.1)).map λz=>(z,s &&& bt (ixs tab z)):=λ{rs} hr=>by
  rw[map_map]
  have e:rs.map ((λz=>(z,s &&& bt (ixs tab z))) ∘ λq:Str×Nat=>q.1)=rs.map id:=map_congr_left λq hq=>by
   have:=((hr.mem q).mp hq).1
   show(q.1,s &&& bt (ixs tab q.1))=q
   rw[← this]
  rw[e,List.map_id]
 rw[all h,all h',ek]
theorem ptOf_zs {tab:List (Option Str)}{s:Nat}{ps zs:List (Str×V)}(pm:zs.Perm ps) (lt:ltP zs=true) (ok:PsOk tab ps):PtOf tab s ((zs.map λp=>(p.1,s &&& bt (ixs tab p.1))).filter λq=>decide (q.2≠0)):=by
 refine⟨?_,λq=>?_⟩
 ·have sub:(((zs.map λp=>(p.1,s &&& bt (ixs tab p.1))).filter λq=>decide (q.2≠0)).map (·.1)).Sublist (zs.map (·.1)):=by
   have h1:((zs.map λp=>(p.1,s &&& bt (ixs tab p.1))).map (·.1))=zs.map (·.1):=by rw[map_map]; rfl
   rw[← h1]
   exact List.Sublist.map _ List.filter_sublist
  exact List.Pairwise.sublist sub (Zja lt)
 rw[mem_filter,decide_eq_true_eq]
 constructor
 ·rintro⟨hq,n⟩
  (obtain⟨p,hp,rfl⟩:=mem_map.mp hq)
  exact⟨rfl,n⟩
 rintro⟨e,n⟩
 refine⟨?_,n⟩
 have has:some q.1∈msk s tab:=msk_has.mpr (by rw[← e]; exact n)
 obtain⟨j,hj⟩:=getElem?_of_mem has
 have hz:=(ok.has q.1).mp (mem_of_getElem? (msk_at.mp hj).2)
 obtain⟨p,hp,e2⟩:=mem_map.mp hz
 exact mem_map.mpr ⟨p,pm.mem_iff.mpr hp,by rw[e2,← e]⟩
theorem ptOf_due {tab:List (Option Str)}{s:Nat}{ps:List (Str×V)}{zs:List Str}(ok:PsOk (msk s tab) ps) (pm:zs.Perm (ps.map (·.1))) (so:sortedS zs=true):PtOf tab s (zs.map λz=>(z,bt (ixs (msk s tab) z))):=by
 refine⟨?_,λq=>?_⟩
 ·rw[map_map]
  show Ri (zs.map id)
  rw[List.map_id]
  exact Zf3 so (pm.nodup_iff.mpr ok.nd)
 constructor
 ·intro hq
  obtain⟨z,hz,rfl⟩:=mem_map.mp hq
  have h1:=msk_has.mp ((ok.has z).mpr (pm.mem_iff.mp hz))
  exact⟨Zim s tab z,by rw[← Zim]at h1; exact h1⟩
 rintro⟨e,n⟩
 have hz:=pm.mem_iff.mpr ((ok.has q.1).mp (msk_has.mpr (by rw[← e]; exact n)))
 exact mem_map.mpr ⟨q.1,hz,by rw[Zim,← e]⟩
theorem flt_at {p:Int→Bool}{xs:List Int}{i:Nat}{w:Int}(h:xs[i]? = some w) (no:(xs.take i).filter p=[]) (hp:p w=true):∃r,xs.filter p=w :: r:=by
 obtain⟨hi,hw⟩:=List.getElem?_eq_some_iff.mp h
 have e:xs=xs.take i ++ w :: xs.drop (i + 1):=by rw[← hw,← List.drop_eq_getElem_cons hi,List.take_append_drop]
 refine⟨(xs.drop (i + 1)).filter p,?_⟩
 rw[e,filter_append,List.filter_cons,if_pos hp]
 rw[← e,no]
 rfl
noncomputable def nxt (s m i:Nat):Nat:=match (wl s)[i]? with
 | some w=>w.toNat
 | none=>m
theorem Zmg {s:Nat}{tab:List (Option Str)}{a b:Nat}(ab:a≤b) (hb:b≤tab.length) (no:∀j,a≤j→j < b→s.testBit j=false):(msk s tab).take b=(msk s tab).take a ++ replicate (b - a) none:=by
 have ml:=Zj8 s tab
 refine List.ext_getElem? λi=>?_
 rcases lt_or_ge i a with h1 | h1
 ·rw[getElem?_append_left (by rw[length_take]; lia),getElem?_take_of_lt (by lia),getElem?_take_of_lt h1]
 rw[getElem?_append_right (by rw[length_take]; lia),length_take,Nat.min_eq_left (by lia),getElem?_replicate]
 rcases lt_or_ge i b with h2 | h2
 ·rw[getElem?_take_of_lt h2,Zj9 (by lia),no i h1 h2,if_neg (by decide),if_pos (show i - a < b - a by lia)]
 rw[getElem?_eq_none (by rw[length_take]; lia),if_neg (by lia)]
theorem Zne {s m i j:Nat}(lo:∀k w,k < i→(wl s)[k]? = some w→w < (j:Int)) (hi:j < nxt s m i):s.testBit j=false:=by
 cases hb:s.testBit j with
 | false=>rfl
 | true=>
  exfalso
  have hm:(j:Int)∈wl s:=wl_mem.mpr ⟨by lia,by rw[toNat_natCast]; exact hb⟩
  obtain⟨k,hk⟩:=getElem?_of_mem hm
  rcases lt_or_ge k i with h1 | h1
  ·have:=lo k _ h1 hk
   lia
  have hkl:=(List.getElem?_eq_some_iff.mp hk).1
  have hil:i < (wl s).length:=by lia
  have e:(wl s)[i]? = some (wl s)[i]:=getElem?_eq_getElem hil
  unfold nxt at hi
  rw[e]at hi
  have le:(wl s)[i]≤(j:Int):=by
   rcases lt_or_ge i k with h2 | h2
   ·have:=(pairwise_iff_getElem.mp (Zeq s)) i k hil hkl h2
    have e2:=(List.getElem?_eq_some_iff.mp hk).2
    lia
   have e3:i=k:=by lia
   subst e3
   have e2:=(List.getElem?_eq_some_iff.mp hk).2
   lia
  have hi':j < (wl s)[i].toNat:=hi
  lia
theorem ixs_small {tab:List (Option Str)}{z:Str}{n:Nat}(h:tab.length≤n):bt (ixs tab z) < 2 ^ n:=lt_pow_two_of_testBit _ λi hi=>by
 rw[Zfp,getElem?_eq_none (by lia)]
 simp
theorem valP_some {tab:List (Option Str)}{ps:List (Str×V)}(ok:PsOk tab ps) {z:Str}(h:z∈ps.map (·.1)):valV (ps.map kf) (Sum.inr z:Key)=some (.int (bt (ixs tab z):Nat)):=by
 have o:=ok.old z
 cases hv:valV (ps.map kf) (Sum.inr z:Key)with
 | none=>
  exfalso
  refine Zgh hv ?_
  obtain⟨p,hp,rfl⟩:=mem_map.mp h
  exact mem_map.mpr ⟨kf p,mem_map.mpr ⟨p,hp,rfl⟩,rfl⟩
 | some v=>
  rw[hv]at o
  have o':v=V.int (bt (ixs tab z):Nat):=o
  rw[o']
inductive spParts (C NN:Addr) (vs:List V) (H:Hp) (Q:VK) (E:XK):Prop
 | mk (x:Addr) (m:Nat) (ds:List Dee) (ls:List Loo) (as:List Str) (n:Str) (s:Nat) (c0:vs=[.ref x,.str n,.int (s:Int)]) (c1:ChAt C H x m ds ls) (c2:ChOk m ds ls as) (c3:s < 2 ^ m) (c4:((n∉ls.map Loo.name∧Rp n∧Out H E NN) ∨   ∃l∈ls,l.name=n∧Rp n∧((bdL l s=[]∧∀(r:Addr) (ts:List Addr) (qs:List (Str×Nat)) (H':Hp),Same H H'→H r=none→H' r=some (.lst (ts.map V.ref))→QrAt H' ts qs→PtOf l.tab s qs→qs.length≤1000→Q (.ref r) H')∨∃w r,bdL l s=w :: r∧Ouk H E n w))):spParts C NN vs H Q E
noncomputable abbrev Zkr:List Str:=["chart", "name", "some"]
noncomputable abbrev nParts:List Str:=["chart", "name", "some", "told"]
theorem scParts:FnScope nParts Zkr (Zab Ze0):=⟨rfl,rfl,rfl,by decide +kernel,rfl,by decide +kernel,by decide +kernel⟩
theorem ok_parts {f C CN NN f1 f2:Addr}{fd d1 d2:FuncData}(F:Fun K "parts" "parts" Ze0 f fd) (L:Cl K C) (b_answer_sets:Binds K d1 ["self", "name"] []) (m_answer_sets:Meth K C "answer_sets" f1) (G_answer_sets:FnOk P w K mg base (CXe P w) 2 f1 d1 Zew (spAnswerSets C NN))
  (D_check_can:Df K mg "check_can" Zbz Zdc f2 d2) (G_check_can:FnOk P w K mg base (CXd P w CN) 4 f2 d2 Zdc (spCheckCan C)):FnOk P w K mg base (CXd P w CN) 5 f fd Zkr (spParts C NN):=by
 refine Fun.okD F scParts (λvs H Q E h=>?_) (λcdv A outer s0 H vs Q E hr4 h=>?_)
 ·obtain⟨x,m,ds,ls,as,n,s,rfl,_⟩:=h
  rfl
 obtain⟨x,m,ds,ls,as,n,s,rfl,R,ok,hs,q⟩:=h
 have hr2:Room 2 _:=hr4.mono (by decide)
 have hsl:sizeLine=16777216:=sizeLine_eq
 have R0:=R
 obtain⟨dx,p,o,a,q',d,kp,ko,ka,kq,kd,o1,o2,h1,_⟩:=R.ex
 refine⟨_,(Zad (Zas (i:=3) scParts.nd rfl (Or.inl rfl) (Zc8 (pv 0) L.cl m_answer_sets G_answer_sets hr2 b_answer_sets .nil Zko (Zaa (pv 1) Zae)))
  (Zad (Za1 (Zai G_check_can hr4 (by rfl) D_check_can.m D_check_can.F.kp D_check_can.b .nil passD (Zaa (pv 0) (Zaa (pv 1) (Zaa (pv 2) Zae)))))
  (Zaf (Zan (Zdv (N:=["answer", "tellers", "some"]) (sc:=Zab Ze0) (own:=["answer", "tellers"]) (fr:=["some"]) (js:=[2]) ⟨rfl,rfl,rfl,rfl,by decide +kernel,by decide +kernel,by decide +kernel,rfl,by decide +kernel⟩ rfl (pi_tup (pv 3)) (λ_ _ _ _=>Zmm K rfl (Zf4 (n:=2) rfl (Za9 (Zao (i:=0) (show List.Nodup (["answer", "tellers", "some"]:List Str) by decide +kernel) rfl (Or.inl rfl)) (Za9 (Zao (i:=1) (show List.Nodup (["answer", "tellers", "some"]:List Str) by decide +kernel) rfl (Or.inl rfl)) Zd6)))) (λ_ _ _ _=>Zet (Zau Zm8 (Zaw Zhn (pv 2) (pv 1)) Zah (Zay _))) (λ_ _ _ _=>(Zct (Zaa (pv 0) (Zaa (Zaw Zhn (pv 2) (pv 1)) Zae))))))))),?_⟩
 refine⟨_,rfl,x,dx,_,rfl,h1,Zgf (by decide +kernel),_,rfl,x,m,ds,ls,n,rfl,R0,ok.nd,?_⟩
 rcases q with q | ⟨l,hl,e,rp,q⟩
 ·exact .inl q
 refine .inr ⟨l,hl,e,λv pv=>?_⟩
 have m2:=ok.m2
 have hll:=ok.lo l hl
 have hst:(l.name,bt (doI isSome l.tab))∈doOf ds ls:=mem_append_right _ (mem_map.mpr ⟨l,hl,rfl⟩)
 refine⟨_,rfl,_,rfl,_,rfl,x,m,ds,ls,n,s,_,rfl,R0,ok.nd,Zlq hs m2,hst,e,do_lt ok hst,rp,?_⟩
 rw[Zm2 hll hs]
 rcases q with⟨hb,q⟩ | q
 ·refine .inl ⟨hb,?_⟩
  obtain⟨r,ro,ts,ps,zs,rfl,d0,hr,hp,pm,lt,po⟩:=pv
  have zl:zs.length≤1000:=by
   have n1:=List.Nodup.length_le_of_subset po.nd (l₂:=as) λy hy=>ok.an l hl y ((po.has y).mpr hy)
   have:=ok.a3
   have:=pm.length_eq
   rw[length_map]at n1
   lia
  have hT:∀H':Hp,Same H H'→SqT K H' r (ts.map V.ref):=λH' s'=>.inl (.inr ⟨ro,s' _ _ hr⟩)
  have tl:(ts.map V.ref).length=zs.length:=by rw[length_map]; exact hp.1
  refine⟨_,rfl,r,rfl,⟨_,hT H (Same.refl _)⟩,λD hD=>?_⟩
  refine lcJ2 (K:=K) (n:=(ts.map V.ref).length) (λi ys H2=>∃us:List Addr,ys=us.map V.ref∧QrAt (rm H2 [D]) us (((zs.take i).map λp=>(p.1,s &&& bt (ixs l.tab p.1))).filter λq=>decide (q.2≠0))∧Same H H2∧H2 D=some (.lst ys))
   ⟨[],rfl,⟨rfl,λi t q h=>by cases h⟩,Same.new hD,Zac⟩ (λi ys H2 hi ⟨_,_,_,s2,_⟩=>⟨_,(ts.map V.ref)[i],hT H2 s2,getElem?_eq_getElem hi⟩) (λys H2 hh0=>by obtain⟨_,_,_,s2,_⟩:=hh0; exact⟨_,hT H2 s2,Nat.le_refl _⟩) ?_ ?_
  ·rintro i ys H2 v H3 hi ⟨us,rfl,qr,s2,e2⟩ ⟨rfl,hy⟩
   have hv:=hy _ (hT H3 s2)
   rw[getElem?_map]at hv
   obtain⟨t,ht,rfl⟩:=map_eq_some_iff.mp hv
   have hiz:i < zs.length:=by lia
   have hz:zs[i]? = some zs[i]:=getElem?_eq_getElem hiz
   have et:=hp.2 i t _ ht hz
   rw[po.val _ (pm.mem_iff.mp (getElem_mem hiz))]at et
   have htk:zs.take (i + 1)=zs.take i ++ [zs[i]]:=take_succ_eq_append_getElem hiz
   have qrl:=qr.len
   have fl:(((zs.take i).map λp=>(p.1,s &&& bt (ixs l.tab p.1))).filter λq=>decide (q.2≠0)).length≤zs.length:=by
    refine le_trans (length_filter_le _ _) ?_
    rw[length_map,length_take]
    lia
   refine⟨t,_,_,rfl,SqT.of (s2 _ _ et),?_⟩
   refine⟨_,rfl,_,rfl,_,_,rfl,rfl,rfl,_,rfl,?_⟩
   rw[Zeb]
   by_cases nz:s &&& bt (ixs l.tab zs[i].1)=0
   ·refine ite2 (λz=>absurd z (by rw[nz]; decide)) (λ_=>?_)
    refine⟨us,rfl,?_,s2,e2⟩
    rw[htk,map_append,filter_append]
    simp only[map_cons,map_nil,nz]
    rw[show(List.filter (λq:Str×Nat=>decide (q.2≠0)) [(zs[i].1,0)])=[] from rfl,append_nil]
    exact qr
   refine ite2 (λ_=>?_) (λz=>absurd (by simp; lia) z)
   refine⟨_,rfl,_,rfl,_,rfl,_,_,rfl,rfl,by show 2≤sizeLine; lia,λtp htp=>?_⟩
   rw[Zeb]
   have s3:=Same.new (o:=.tup [.str zs[i].1,.int ((s &&& bt (ixs l.tab zs[i].1):Nat):Int)]) htp
   have nD:tp≠D:=(Zag e2 htp).symm
   refine⟨_,s3 _ _ e2,by rw[length_map]; lia,us ++ [tp],by rw[map_append]; rfl,?_,(s2.trans s3).put hD,Zac⟩
   rw[htk,map_append,filter_append]
   have one:List.filter (λq:Str×Nat=>decide (q.2≠0)) (List.map (λp=>(p.1,s &&& bt (ixs l.tab p.1))) [zs[i]])=[(zs[i].1,s &&& bt (ixs l.tab zs[i].1))]:=by simp[nz]
   rw[one,Zdt (by simp)]
   exact(qr.same (Zbf s3)).snoc (by rw[Zbm (by simpa using nD)]; exact Zac)
  rintro ys H2 ⟨us,rfl,qr,s2,e2⟩
  rw[tl,take_length]at qr
  have fl:((zs.map λp=>(p.1,s &&& bt (ixs l.tab p.1))).filter λq=>decide (q.2≠0)).length≤1000:=by
   refine le_trans (length_filter_le _ _) ?_
   rw[length_map]
   exact zl
  exact q D us _ H2 s2 hD e2 (qr.same Zdj) (ptOf_zs pm lt po) fl
 exact .inr q
structure Ed where
 ds:List Dee
 ls:List Loo
 g:Nat
 k:Nat
noncomputable def Sb (s t:Nat):Prop:=s &&& t=s
instance (s t:Nat):Decidable (Sb s t):=inferInstanceAs (Decidable (_=_))
theorem sb_iff {s t:Nat}:Sb s t↔∀i,s.testBit i=true→t.testBit i=true:=by
 unfold Sb
 constructor
 ·intro e i hi
  rw[← e,testBit_and,and_eq_true]at hi
  exact hi.2
 intro h
 refine eq_of_testBit_eq λi=>?_
 rw[testBit_and]
 cases hb:s.testBit i with
 | false=>rfl
 | true=>rw[h i hb]; rfl
theorem Zj2 {t:Nat}:Sb 0 t:=Nat.zero_and t
inductive Mv (e:Ed) (s:Nat):Int→List Nat→Prop
 | deed (d:Dee) (hd:d∈e.ds) (c:bdD d s=[]) (k:Sb (Zcw (.did d) s) e.k):Mv e s d.price [Zcw (.did d) s]
 | look (l:Loo) (hl:l∈e.ls) (c:bdL l s=[]) (qs:List (Str×Nat)) (p:PtOf l.tab s qs):Mv e s l.price (qs.map (·.2))
structure EdOk (m:Nat) (e:Ed) (as:List Str):Prop where
 ch:ChOk m e.ds e.ls as
 hg:e.g < 2 ^ m
 hk:e.k < 2 ^ m
 m7:m≤7
 rd:∀d∈e.ds,Rp d.name
 rl:∀l∈e.ls,Rp l.name
theorem EdOk.pd {m:Nat}{e:Ed}{as:List Str}(ok:EdOk m e as) {s:Nat}{p:Int}{ss:List Nat}(h:Mv e s p ss):1≤p∧p≤1000000000:=by
 cases h with
 | deed d hd=>exact⟨(ok.ch.so d hd).p1,(ok.ch.so d hd).p2⟩
 | look l hl=>exact⟨(ok.ch.sl l hl).p1,(ok.ch.sl l hl).p2⟩
theorem EdOk.lt {m:Nat}{e:Ed}{as:List Str}(ok:EdOk m e as) {s:Nat}(hs:s < 2 ^ m) {p:Int}{ss:List Nat}(h:Mv e s p ss) {y:Nat}(hy:y∈ss):y < 2 ^ m:=by
 cases h with
 | deed d hd=>
  rw[mem_singleton.mp hy]
  exact forth_lt (ls:=e.ls) ok.ch.m2 ok.ch.de (.did d hd) hs
 | look l hl c qs p=>
  obtain⟨q,hq,rfl⟩:=mem_map.mp hy
  rw[((p.mem q).mp hq).1]
  exact lt_of_le_of_lt Nat.and_le_left hs
theorem has_bit {s:Nat}(h:s≠0):∃i,s.testBit i=true:=by
 refine Classical.byContradiction λno=>h (eq_of_testBit_eq λi=>?_)
 rw[zero_testBit]
 cases hb:s.testBit i with
 | false=>rfl
 | true=>exact absurd ⟨i,hb⟩ no
theorem bdL_at {l:Loo}{s m:Nat}(hl:l.tab.length=m) (hs:s < 2 ^ m) (c:bdL l s=[]) {i:Nat}(hi:s.testBit i=true):∃z,l.tab[i]? = some (some z):=by
 have hm:(i:Int)∈wl s:=wl_mem.mpr ⟨by lia,by rw[toNat_natCast]; exact hi⟩
 have:=(Zgu hs hm).2
 have hil:i < l.tab.length:=by lia
 have h2:=filter_eq_nil_iff.mp c _ hm
 rw[toNat_natCast,decide_eq_true_eq,getElem?_eq_getElem hil]at h2
 rw[getElem?_eq_getElem hil]
 cases hz:l.tab[i]with
 | none=>rw[hz]at h2; exact absurd rfl h2
 | some z=>exact⟨z,rfl⟩
theorem EdOk.ne {m:Nat}{e:Ed}{as:List Str}(ok:EdOk m e as) {s:Nat}(hs:s < 2 ^ m) (s0:s≠0) {p:Int}{ss:List Nat}(h:Mv e s p ss):ss≠[]:=by
 cases h with
 | deed d hd=>exact List.cons_ne_nil _ _
 | look l hl c qs p=>
  obtain⟨i,hi⟩:=has_bit s0
  obtain⟨z,hz⟩:=bdL_at (ok.ch.lo l hl) hs c hi
  have n0:s &&& bt (ixs l.tab z)≠0:=λe0=>by
   have:=congrArg (λn=>n.testBit i) e0
   simp only[testBit_and,zero_testBit]at this
   rw[hi,Zfp,decide_eq_true hz]at this
   cases this
  have:=(p.mem (z,s &&& bt (ixs l.tab z))).mpr ⟨rfl,n0⟩
  intro e0
  rw[List.map_eq_nil_iff]at e0
  rw[e0]at this
  cases this
noncomputable def Wo (e:Ed):Nat→Nat→Int→Prop
 | 0,s,c=>Sb s e.g∧0≤c
 | n + 1,s,c=>(Sb s e.g∧0≤c)∨(¬Sb s e.g∧∃p ss,Mv e s p ss∧∀y∈ss,Wo e n y (c - p))
theorem Wo.pos {m:Nat}{e:Ed}{as:List Str}(ok:EdOk m e as):∀{n s:Nat}{c:Int},s < 2 ^ m→Wo e n s c→0≤c
 | 0,_,_,_,h=>h.2
 | n + 1,s,c,hs,h=>by
  rcases h with h | ⟨ng,p,ss,mv,h⟩
  ·exact h.2
  have s0:s≠0:=λz=>ng (by rw[z]; exact Zj2)
  obtain⟨y,hy⟩:=List.exists_mem_of_ne_nil _ (ok.ne hs s0 mv)
  have:=Wo.pos ok (ok.lt hs mv hy) (h y hy)
  have:=(ok.pd mv).1
  lia
theorem Wo.more {e:Ed}:∀{n s:Nat}{c c':Int},c≤c'→Wo e n s c→Wo e n s c'
 | 0,_,_,_,l,h=>⟨h.1,by have:=h.2; lia⟩
 | n + 1,s,c,c',l,h=>by
  rcases h with h | ⟨ng,p,ss,mv,h⟩
  ·exact .inl ⟨h.1,by have:=h.2; lia⟩
  exact .inr ⟨ng,p,ss,mv,λy hy=>Wo.more (by lia) (h y hy)⟩
inductive Lst (P:Int→Prop):Option Int→Prop
 | no (h:∀c,¬P c):Lst P none
 | yes (c:Int) (h:P c) (l:∀c',P c'→c≤c'):Lst P (some c)
theorem Lst.iff {P P':Int→Prop}{v:Option Int}(h:Lst P v) (e:∀c,P c↔P' c):Lst P' v:=by
 cases h with
 | no h=>exact .no λc hc=>h c ((e c).mpr hc)
 | yes c h l=>exact .yes c ((e c).mp h) λc' hc=>l c' ((e c').mpr hc)
theorem Lst.eq {P:Int→Prop}{u v:Option Int}(h:Lst P u) (h':Lst P v):u=v:=by
 cases h with
 | no h=>cases h' with
  | no _=>rfl
  | yes c h' _=>exact absurd h' (h c)
 | yes c h l=>cases h' with
  | no h'=>exact absurd h (h' c)
  | yes c' h' l'=>rw[Int.le_antisymm (l c' h') (l' c h)]
noncomputable def Ds (pr:Nat→Option Int) (ss:List Nat) (M:Int):Prop:=(∃y∈ss,pr y=some M)∧∀y∈ss,∃a,pr y=some a∧a≤M
theorem ds_ex {pr:Nat→Option Int}{b:Int}:∀{ss:List Nat},ss≠[]→(∀y∈ss,∃a,pr y=some a∧a≤b)→∃M,Ds pr ss M∧M≤b
 | [],h,_=>absurd rfl h
 | [y],_,h=>by
  obtain⟨a,ea,la⟩:=h y mem_cons_self
  refine⟨a,⟨⟨y,mem_cons_self,ea⟩,λz hz=>?_⟩,la⟩
  rw[mem_singleton.mp hz]
  exact⟨a,ea,Int.le_refl _⟩
 | y :: x :: r,_,h=>by
  obtain⟨a,ea,la⟩:=h y mem_cons_self
  obtain⟨M,⟨⟨z,hz,ez⟩,hM⟩,lM⟩:=ds_ex (ss:=x :: r) (List.cons_ne_nil _ _) λz hz=>h z (mem_cons_of_mem _ hz)
  rcases Int.le_total a M with l | l
  ·refine⟨M,⟨⟨z,mem_cons_of_mem _ hz,ez⟩,λu hu=>?_⟩,lM⟩
   rcases(mem_cons.mp hu)with e | hu
   ·exact⟨a,by rw[e]; exact ea,l⟩
   exact hM u hu
  refine⟨a,⟨⟨y,mem_cons_self,ea⟩,λu hu=>?_⟩,la⟩
  rcases(mem_cons.mp hu)with e | hu
  ·exact⟨a,by rw[e]; exact ea,Int.le_refl _⟩
  obtain⟨c,ec,lc⟩:=hM u hu
  exact⟨c,ec,by lia⟩
noncomputable def Ch (pr:Nat→Option Int) (ms:List (Int×List Nat)) (c:Int):Prop:=∃q∈ms,∃M,Ds pr q.2 M∧q.1 + M≤c
structure MvOf (e:Ed) (s:Nat) (ms:List (Int×List Nat)):Prop where
 gl:Sb s e.g→ms=[]
 mem:¬Sb s e.g→∀p ss,(p,ss)∈ms↔Mv e s p ss
theorem ch_wo {m:Nat}{e:Ed}{as:List Str}(ok:EdOk m e as) {n s:Nat}(hs:s < 2 ^ m) (ng:¬Sb s e.g) {ms:List (Int×List Nat)}(mo:MvOf e s ms) {pr:Nat→Option Int}(hp:∀q∈ms,∀y∈q.2,Lst (Wo e n y) (pr y)) {c:Int}:Ch pr ms c↔Wo e (n + 1) s c:=by
 have s0:s≠0:=λz=>ng (by rw[z]; exact Zj2)
 constructor
 ·rintro⟨⟨p,ss⟩,hq,M,⟨_,hM⟩,le⟩
  refine .inr ⟨ng,p,ss,(mo.mem ng p ss).mp hq,λy hy=>?_⟩
  obtain⟨a,ea,la⟩:=hM y hy
  have h:=hp _ hq y hy
  rw[ea]at h
  cases h with
  | yes _ h _=>exact h.more (by dsimp only at le; lia)
 rintro(⟨sg,_⟩ | ⟨_,p,ss,mv,h⟩)
 ·exact absurd sg ng
 have hq:=(mo.mem ng p ss).mpr mv
 obtain⟨M,ds,lM⟩:=ds_ex (pr:=pr) (b:=c - p) (ok.ne hs s0 mv) λy hy=>by
  have hl:=hp _ hq y hy
  cases e:pr y with
  | none=>
   rw[e]at hl
   cases hl with
   | no no=>exact absurd (h y hy) (no _)
  | some a=>
   rw[e]at hl
   cases hl with
   | yes _ _ l=>exact⟨a,rfl,l _ (h y hy)⟩
 exact⟨_,hq,M,ds,by dsimp only; lia⟩
theorem Zio {e:Ed}{n s:Nat}(h:Sb s e.g) {m:Nat}{as:List Str}(ok:EdOk m e as) (hs:s < 2 ^ m):Lst (Wo e n s) (some 0):=by
 refine .yes 0 ?_ λc' h'=>h'.pos ok hs
 cases n with
 | zero=>exact⟨h,Int.le_refl _⟩
 | succ n=>exact .inl ⟨h,Int.le_refl _⟩
theorem Zk5 {e:Ed}{s:Nat}(h:¬Sb s e.g):Lst (Wo e 0 s) none:=.no λ_ hc=>h hc.1
structure ClE (K:W.Frag) (C:Addr):Prop where
 cl:Cls K C
 n1:NoAttr K C "told_chart"
 n2:NoAttr K C "told_goal"
 n3:NoAttr K C "told_keep"
noncomputable def e1 (c:Addr):List (Str×V):=putF "told_chart" (.ref c) []
noncomputable def e2 (c:Addr) (g:Nat):List (Str×V):=putF "told_goal" (.int (g:Int)) (e1 c)
noncomputable def e3 (c:Addr) (g k:Nat):List (Str×V):=putF "told_keep" (.int (k:Int)) (e2 c g)
theorem Zlr {c:Addr}{g k:Nat}{n:Str}(h:n∉(["told_chart", "told_goal", "told_keep"]:List Str)):(e3 c g k).lookup n=none:=by
 simp only[mem_cons,not_mem_nil,or_false,not_or]at h
 obtain⟨h1,h2,h3⟩:=h
 unfold e3 e2 e1
 rw[Zam,if_neg h3,Zam,if_neg h2,Zam,if_neg h1]
 rfl
theorem e3_chart {c:Addr}{g k:Nat}:(e3 c g k).lookup ("told_chart" : Str)=some (.ref c):=by
 unfold e3 e2 e1
 rw[Zam,if_neg (by decide +kernel),Zam,if_neg (by decide +kernel),Zam,if_pos rfl]
theorem e3_goal {c:Addr}{g k:Nat}:(e3 c g k).lookup ("told_goal" : Str)=some (.int (g:Int)):=by
 unfold e3 e2
 rw[Zam,if_neg (by decide +kernel),Zam,if_pos rfl]
theorem e3_keep {c:Addr}{g k:Nat}:(e3 c g k).lookup ("told_keep" : Str)=some (.int (k:Int)):=by
 unfold e3
 rw[Zam,if_pos rfl]
inductive ErAt (CE C:Addr) (H:Hp) (x:Addr) (m:Nat) (e:Ed):Prop
 | mk (dx c:Addr) (hx:H x=some (.ins CE dx (e3 c e.g e.k))) (hc:ChAt C H c m e.ds e.ls):ErAt CE C H x m e
theorem ErAt.same {CE C:Addr}{H H':Hp}{x:Addr}{m:Nat}{e:Ed}(h:ErAt CE C H x m e) (s:Same H H'):ErAt CE C H' x m e:=by
 obtain⟨dx,c,hx,hc⟩:=h
 exact⟨dx,c,s _ _ hx,hc.same s⟩
noncomputable def fwd (H H':Hp):Hp:=λc=>if (H c).isSome=true then none else H' c
theorem Zb3 {H H':Hp}{c:Addr}(h:H c=none):fwd H H' c=H' c:=if_neg (by rw[h]; decide)
theorem Zg8 {H H':Hp}{c:Addr}{u:HO}(h:fwd H H' c=some u):H c=none∧H' c=some u:=by
 unfold fwd at h
 cases e:H c with
 | none=>rw[e]at h; exact⟨rfl,h⟩
 | some v=>rw[e]at h; cases h
theorem Znq {H H':Hp}:Same (fwd H H') H':=λc u e=>(Zg8 e).2
theorem Zir {H H1 H2:Hp}(s:∀c u,H c=none→H1 c=some u→H2 c=some u):Same (fwd H H1) (fwd H H2):=λc u e=>by
 obtain⟨h0,h1⟩:=Zg8 e
 rw[Zb3 h0]
 exact s c u h0 h1
theorem fwd_up {H H1 H2:Hp}(s:Same H H1):Same (fwd H1 H2) (fwd H H2):=λc u e=>by
 obtain⟨h0,h1⟩:=Zg8 e
 rw[Zb3 (s.free h0)]
 exact h1
theorem Zmp {H H':Hp}{S:List Addr}(h:∀c∈S,H c≠none):Same (fwd H H') (rm H' S):=λc u e=>by
 obtain⟨h0,h1⟩:=Zg8 e
 rw[Zbm λz=>h c z h0]
 exact h1
noncomputable abbrev nV (ss:List Nat):List V:=ss.map λy:Nat=>V.int (y:Int)
inductive M1 (H:Hp) (v:V) (q:Int×List Nat):Prop
 | mk (t b:Addr) (e:v=.ref t) (ht:H t=some (.tup [.int q.1,.ref b])) (hb:H b=some (.lst (nV q.2))):M1 H v q
theorem M1.same {H H':Hp}{v:V}{q:Int×List Nat}(h:M1 H v q) (s:Same H H'):M1 H' v q:=by
 obtain⟨t,b,e,ht,hb⟩:=h
 exact⟨t,b,e,s _ _ ht,s _ _ hb⟩
inductive MsAt (H:Hp) (l:Addr) (ms:List (Int×List Nat)):Prop
 | mk (vs:List V) (hl:H l=some (.lst vs)) (ha:A2 (M1 H) vs ms):MsAt H l ms
theorem MsAt.same {H H':Hp}{l:Addr}{ms:List (Int×List Nat)}(h:MsAt H l ms) (s:Same H H'):MsAt H' l ms:=by
 obtain⟨vs,hl,ha⟩:=h
 exact⟨vs,s _ _ hl,ha.mono λv t _ q=>q.same s⟩
inductive spErInit (CE:Addr) (vs:List V) (H:Hp) (Q:VK) (E0_:XK):Prop
 | mk (y dy c:Addr) (g k:Nat) (c0:vs=[.ref y,.ref c,.int (g:Int),.int (k:Int)]) (c1:H y=some (.ins CE dy [])) (c2:∀H':Hp,(∀c u,H c=some u→c≠y→H' c=some u)→H' y=some (.ins CE dy (e3 c g k))→Q .non H'):spErInit CE vs H Q E0_
inductive spErChart (CE C:Addr) (vs:List V) (H:Hp) (Q:VK) (E0_:XK):Prop
 | mk (x:Addr) (m:Nat) (e:Ed) (c0:vs=[.ref x]) (c1:ErAt CE C H x m e) (c2:∀c,ChAt C H c m e.ds e.ls→Q (.ref c) H):spErChart CE C vs H Q E0_
inductive spErGoal (CE C:Addr) (vs:List V) (H:Hp) (Q:VK) (E0_:XK):Prop
 | mk (x:Addr) (m:Nat) (e:Ed) (c0:vs=[.ref x]) (c1:ErAt CE C H x m e) (c2:Q (.int (e.g:Int)) H):spErGoal CE C vs H Q E0_
inductive spErKeep (CE C:Addr) (vs:List V) (H:Hp) (Q:VK) (E0_:XK):Prop
 | mk (x:Addr) (m:Nat) (e:Ed) (c0:vs=[.ref x]) (c1:ErAt CE C H x m e) (c2:Q (.int (e.k:Int)) H):spErKeep CE C vs H Q E0_
noncomputable def DMv (e:Ed) (ds:List Dee) (s:Nat) (q:Int×List Nat):Prop:=∃d∈ds,bdD d s=[]∧Sb (Zcw (.did d) s) e.k∧q=(d.price,[Zcw (.did d) s])
noncomputable def LMv (ls:List Loo) (s:Nat) (q:Int×List Nat):Prop:=∃l∈ls,bdL l s=[]∧∃qs,PtOf l.tab s qs∧q=(l.price,qs.map (·.2))
inductive spDeedMoves (CE C:Addr) (vs:List V) (H:Hp) (Q:VK) (E0_:XK):Prop
 | mk (x:Addr) (m:Nat) (e:Ed) (as:List Str) (s:Nat) (c0:vs=[.ref x,.int (s:Int)]) (c1:ErAt CE C H x m e) (c2:EdOk m e as) (c3:s < 2 ^ m) (c4:∀(l:Addr) (ms:List (Int×List Nat)) (H':Hp),Same H H'→H l=none→MsAt (fwd H H') l ms→(∀q,q∈ms↔DMv e e.ds s q)→ms.length≤40→Q (.ref l) H'):spDeedMoves CE C vs H Q E0_
inductive spLookMoves (C:Addr) (vs:List V) (H:Hp) (Q:VK) (E0_:XK):Prop
 | mk (c:Addr) (m:Nat) (e:Ed) (as:List Str) (s:Nat) (c0:vs=[.ref c,.int (s:Int)]) (c1:ChAt C H c m e.ds e.ls) (c2:EdOk m e as) (c3:s < 2 ^ m) (c4:∀(l:Addr) (ms:List (Int×List Nat)) (H':Hp),Same H H'→H l=none→MsAt (fwd H H') l ms→(∀q,q∈ms↔LMv e.ls s q)→ms.length≤40→Q (.ref l) H'):spLookMoves C vs H Q E0_
inductive spMovesOf (CE C:Addr) (vs:List V) (H:Hp) (Q:VK) (E0_:XK):Prop
 | mk (x:Addr) (m:Nat) (e:Ed) (as:List Str) (s:Nat) (c0:vs=[.ref x,.int (s:Int)]) (c1:ErAt CE C H x m e) (c2:EdOk m e as) (c3:s < 2 ^ m) (c4:∀(l:Addr) (ms:List (Int×List Nat)) (H':Hp),Same H H'→H l=none→MsAt (fwd H H') l ms→MvOf e s ms→ms.length≤80→Q (.ref l) H'):spMovesOf CE C vs H Q E0_
theorem Zna {a b:Nat}:decide (V.int (Builtin.bitAnd (a:Int) (b:Int))=V.int (a:Int))=decide (Sb a b):=by
 rw[Zeb,Bool.eq_iff_iff,decide_eq_true_eq,decide_eq_true_eq]
 constructor
 ·intro h
  exact ofNat.inj (V.int.inj h)
 intro h
 have:a &&& b=a:=h
 rw[this]
noncomputable abbrev Zeu:List Str:=["self", "chart", "goal", "keep"]
noncomputable abbrev nErrandInit:List Str:=["self", "chart", "goal", "keep"]
theorem scErrandInit:FnScope nErrandInit Zeu (Zab Zb8):=⟨rfl,rfl,rfl,by decide +kernel,rfl,by decide +kernel,by decide +kernel⟩
noncomputable abbrev Zc6:List Str:=["self"]
noncomputable abbrev nErrandChart:List Str:=["self"]
theorem scErrandChart:FnScope nErrandChart Zc6 (Zab Zbv):=⟨rfl,rfl,rfl,by decide +kernel,rfl,by decide +kernel,by decide +kernel⟩
noncomputable abbrev Zdm:List Str:=["self"]
noncomputable abbrev nErrandGoal:List Str:=["self"]
theorem scErrandGoal:FnScope nErrandGoal Zdm (Zab Zb9):=⟨rfl,rfl,rfl,by decide +kernel,rfl,by decide +kernel,by decide +kernel⟩
noncomputable abbrev Zdl:List Str:=["self"]
noncomputable abbrev nErrandKeep:List Str:=["self"]
theorem scErrandKeep:FnScope nErrandKeep Zdl (Zab Zb7):=⟨rfl,rfl,rfl,by decide +kernel,rfl,by decide +kernel,by decide +kernel⟩
noncomputable abbrev Zej:List Str:=["errand", "some"]
noncomputable abbrev nDeedMoves:List Str:=["errand", "some", "chart", "moves", "name", "made"]
theorem scDeedMoves:FnScope nDeedMoves Zej (Zab Zbw):=⟨rfl,rfl,rfl,by decide +kernel,rfl,by decide +kernel,by decide +kernel⟩
noncomputable abbrev Zei:List Str:=["chart", "some"]
noncomputable abbrev nLookMoves:List Str:=["chart", "some", "moves", "name"]
theorem scLookMoves:FnScope nLookMoves Zei (Zab Zbl):=⟨rfl,rfl,rfl,by decide +kernel,rfl,by decide +kernel,by decide +kernel⟩
noncomputable abbrev Zgm:List Str:=["errand", "some"]
noncomputable abbrev nMovesOf:List Str:=["errand", "some"]
theorem scMovesOf:FnScope nMovesOf Zgm (Zab Zc0):=⟨rfl,rfl,rfl,by decide +kernel,rfl,by decide +kernel,by decide +kernel⟩
theorem ok_erinit {f CE TD:Addr}{fd:FuncData}(F:FunD K "__init__" "Errand.__init__" Zb8 f fd TD) (LE:ClE K CE):FnOk P w K mg base CX0 2 f fd Zeu (spErInit CE):=by
 refine F.ok scErrandInit (λvs H Q E h=>?_) (λcdv A outer s H vs Q E hr h=>?_)
 ·obtain⟨y,dy,c,g,k,rfl,_⟩:=h
  rfl
 obtain⟨y,dy,c,g,k,rfl,hy,q⟩:=h
 refine⟨_,(Zad (Ze3 (pv 0) (pv 1) rfl)
  (Zad (Ze3 (pv 0) (pv 2) rfl)
  (Zaf (Ze3 (pv 0) (Zgj (Zau Zmd (pv 3) Zf6 (Zay _)) pe_never (pv 3)) rfl)))),?_⟩
 refine⟨_,rfl,_,rfl,y,CE,dy,_,rfl,hy,LE.cl,LE.n1,by show 0 < 1000; decide,?_⟩
 refine⟨_,rfl,_,rfl,y,CE,dy,_,rfl,Zac,LE.cl,LE.n2,by show 1 < 1000; decide,?_⟩
 refine⟨_,rfl,rfl,_,rfl,?_⟩
 refine iteF ?_
 refine⟨_,rfl,_,rfl,y,CE,dy,_,rfl,Zac,LE.cl,LE.n3,by show 2 < 1000; decide,?_⟩
 exact q _ (λc u e n=>by rw[Zaj n,Zaj n,Zaj n]; exact e) Zac
theorem ok_erchart {f CE C:Addr}{fd:FuncData}(F:Fun K "chart" "Errand.chart" Zbv f fd) (LE:ClE K CE):FnOk P w K mg base CX0 1 f fd Zc6 (spErChart CE C):=by
 refine F.ok scErrandChart (λvs H Q E h=>?_) (λcdv A outer s H vs Q E hr h=>?_)
 ·obtain⟨x,m,e,rfl,_⟩:=h
  rfl
 obtain⟨x,m,e,rfl,⟨dx,c,hx,hc⟩,q⟩:=h
 refine⟨_,(Zaf (Zan (Zcu (pv 0) rfl))),?_⟩
 exact⟨_,rfl,x,CE,dx,_,_,rfl,hx,LE.cl,LE.n1,e3_chart,q c hc⟩
theorem ok_ergoal {f CE C:Addr}{fd:FuncData}(F:Fun K "goal" "Errand.goal" Zb9 f fd) (LE:ClE K CE):FnOk P w K mg base CX0 1 f fd Zdm (spErGoal CE C):=by
 refine F.ok scErrandGoal (λvs H Q E h=>?_) (λcdv A outer s H vs Q E hr h=>?_)
 ·obtain⟨x,m,e,rfl,_⟩:=h
  rfl
 obtain⟨x,m,e,rfl,⟨dx,c,hx,hc⟩,q⟩:=h
 refine⟨_,(Zaf (Zan (Zcu (pv 0) rfl))),?_⟩
 exact⟨_,rfl,x,CE,dx,_,_,rfl,hx,LE.cl,LE.n2,e3_goal,q⟩
theorem ok_erkeep {f CE C:Addr}{fd:FuncData}(F:Fun K "keep" "Errand.keep" Zb7 f fd) (LE:ClE K CE):FnOk P w K mg base CX0 1 f fd Zdl (spErKeep CE C):=by
 refine F.ok scErrandKeep (λvs H Q E h=>?_) (λcdv A outer s H vs Q E hr h=>?_)
 ·obtain⟨x,m,e,rfl,_⟩:=h
  rfl
 obtain⟨x,m,e,rfl,⟨dx,c,hx,hc⟩,q⟩:=h
 refine⟨_,(Zaf (Zan (Zcu (pv 0) rfl))),?_⟩
 exact⟨_,rfl,x,CE,dx,_,_,rfl,hx,LE.cl,LE.n3,e3_keep,q⟩
theorem ok_deedmoves {f CE C CN NN f1 f2 f3 f4 f5 f6 f7:Addr}{fd d1 d2 d3 d4 d5 d6 d7:FuncData}(F:Fun K "deed_moves" "deed_moves" Zbw f fd) (L:Cl K C) (LE:ClE K CE)
  (b_chart:Binds K d1 ["self"] []) (m_chart:Meth K CE "chart" f1) (G_chart:FnOk P w K mg base CX0 1 f1 d1 Zc6 (spErChart CE C)) (b_deed_names:Binds K d2 ["self"] []) (m_deed_names:Meth K C "deed_names" f2) (G_deed_names:FnOk P w K mg base CX0 1 f2 d2 Zfk (spDeedNames C))
  (D_can_do:Df K mg "can_do" Zep Zf9 f3 d3) (G_can_do:FnOk P w K mg base (CXe P w) 3 f3 d3 Zf9 (spCanDo C NN)) (D_after:Df K mg "after" Zf2 Zk1 f4 d4) (G_after:FnOk P w K mg base (CXd P w CN) 5 f4 d4 Zk1 (spAfter C NN))
  (D_within:Df K mg "within" Zcf Zcg f5 d5) (G_within:FnOk P w K mg base CX0 1 f5 d5 Zcg spIn) (b_keep:Binds K d6 ["self"] []) (m_keep:Meth K CE "keep" f6) (G_keep:FnOk P w K mg base CX0 1 f6 d6 Zdl (spErKeep CE C))
  (b_price_of:Binds K d7 ["self", "name"] []) (m_price_of:Meth K C "price_of" f7) (G_price_of:FnOk P w K mg base (CXe P w) 2 f7 d7 Zgl (spPriceOf C NN)):FnOk P w K mg base CX0 6 f fd Zej (spDeedMoves CE C):=by
 refine F.ok scDeedMoves (λvs H Q E h=>?_) (λcdv A outer s0 H vs Q E hr5 h=>?_)
 ·obtain⟨x,m,e,as,s,rfl,_⟩:=h
  rfl
 obtain⟨x,m,e,as,s,rfl,R,ok,hs,q⟩:=h
 have hr3:Room 3 _:=hr5.mono (by decide)
 have hr2:Room 2 _:=hr5.mono (by decide)
 have hr1:Room 1 _:=hr5.mono (by decide)
 have hsl:sizeLine=16777216:=sizeLine_eq
 have R0:=R
 obtain⟨dx,c0,hx,hc0⟩:=R
 refine⟨_,(Zad (Zas (i:=2) scDeedMoves.nd rfl (Or.inl rfl) (Zc4 (pv 0) LE.cl m_chart G_chart hr1 b_chart .nil Zap))
  (Zad (Zas (i:=3) scDeedMoves.nd rfl (Or.inl rfl) (Zb6 Zae))
  (Zad (Zba PassesOwn.never rfl (Zaz (Zc4 (pv 2) L.cl m_deed_names G_deed_names hr1 b_deed_names .nil Zap)) (Zao (i:=4) scDeedMoves.nd rfl (Or.inl rfl))
   (Zaf (Za4 (Zcs (Zai G_can_do hr3 (by rfl) D_can_do.m D_can_do.F.kp D_can_do.b .nil Zkp (Zaa (pv 2) (Zaa (pv 4) (Zaa (pv 1) Zae))))) (Zad (Zas (i:=5) scDeedMoves.nd rfl (Or.inl rfl) (Zai G_after hr5 (by rfl) D_after.m D_after.F.kp D_after.b .nil Zno (Zaa (pv 2) (Zaa (pv 4) (Zaa (pv 1) Zae)))))
  (Zaf (Za4 (Zcs (Zai G_within hr1 (by rfl) D_within.m D_within.F.kp D_within.b .nil Zap (Zaa (pv 5) (Zaa (Zc4 (pv 0) LE.cl m_keep G_keep hr1 b_keep .nil Zap) Zae)))) (Zaf (Za1 (Zge PySem.F.plainAttrs_list PySem.F.slot_list_append PySem.F.type_list_append Zbi (pv 3) (Zaa (Zct (Zaa (Zc8 (pv 2) L.cl m_price_of G_price_of hr2 b_price_of .nil Zkp (Zaa (pv 4) Zae)) (Zaa (Zb6 (Zaa (pv 5) Zae)) Zae))) Zae)))) Zar))) Zar)))
  (Zaf (Zan (pv 3)))))),?_⟩
 refine⟨_,rfl,x,dx,_,rfl,hx,Zlr (by decide +kernel),x,m,e,rfl,R0,λc hc=>?_⟩
 have hcE:=hc
 obtain⟨dc,p,o,a,q',d,kp,ko,ka,kq,kd,o1,o2,hc1,_⟩:=hc.ex
 refine⟨zero_le _,λmv hmv=>?_⟩
 have s1:Same H (upd H mv (.lst [])):=Same.new hmv
 have e1:(upd H mv (.lst [])) mv=some (.lst []):=Zac
 generalize (upd H mv (.lst []))=H1 at s1 e1 ⊢
 refine⟨_,rfl,c,dc,_,rfl,s1 _ _ hc1,Zgf (by decide +kernel),c,m,_,_,rfl,hc.same s1,λl H2 s2 hl e2=>⟨l,rfl,⟨_,SqL.of e2⟩,?_⟩⟩
 have nlm:l≠mv:=(Zag e1 hl).symm
 refine Za5 (K:=K) (a:=l) (xs:=(e.ds.map Dee.name).map V.str) (λi σ H3=>∃(v4 v5:Option V) (vs:List V) (ms:List (Int×List Nat)),σ = [some (.ref x),some (.int (s:Int)),some (.ref c),some (.ref mv),v4,v5]∧Same H H3∧H3 l=some (.lst ((e.ds.map Dee.name).map V.str))∧H3 mv=some (.lst vs)∧A2 (M1 (rm (fwd H H3) [mv])) vs ms∧(∀q,q∈ms↔DMv e (e.ds.take i) s q)∧ms.length≤i)
  ⟨none,none,[],[],rfl,s1.trans s2,e2,s2 _ _ e1,.nil,λq=>⟨λh=>(nomatch h),λ⟨d,hd,_⟩=>by rw[take_zero]at hd; cases hd⟩,Nat.le_refl _⟩ (λi σ H3 _ hh0=>by obtain⟨_,_,_,_,_,_,z,_⟩:=hh0; exact SqL.of z) ?_ ?_
 ·rintro i v σ H3 hv ⟨v4,v5,vs,ms,rfl,s3,el,em,am,mem,len⟩
  rw[getElem?_map,getElem?_map]at hv
  obtain⟨n,hn,rfl⟩:=map_eq_some_iff.mp hv
  obtain⟨de,hde,rfl⟩:=map_eq_some_iff.mp hn
  have hi:=(List.getElem?_eq_some_iff.mp hde).1
  have hmem:=mem_of_getElem? hde
  have htk:e.ds.take (i + 1)=e.ds.take i ++ [de]:=by rw[take_succ_eq_append_getElem hi,(List.getElem?_eq_some_iff.mp hde).2]
  have h40:=ok.ch.fd
  have vl:=am.len
  have skip:¬(bdD de s=[]∧Sb (Zcw (.did de) s) e.k)→∀q,q∈ms↔DMv e (e.ds.take (i + 1)) s q:=λno q=>by
   rw[mem,htk]
   constructor
   ·rintro⟨d,hd,r⟩
    exact⟨d,mem_append_left _ hd,r⟩
   rintro⟨d,hd,r1,r2,r3⟩
   rcases(mem_append.mp hd)with hd | hd
   ·exact⟨d,hd,r1,r2,r3⟩
   rw[mem_singleton.mp hd]at r1 r2
   exact absurd ⟨r1,r2⟩ no
  refine⟨_,rfl,_,rfl,_,rfl,c,m,_,_,de.name,s,rfl,hc.same s3,ok.ch.nd,.inr ⟨_,mem_append_left _ (mem_map.mpr ⟨de,hmem,rfl⟩),rfl,⟨_,rfl,?_⟩⟩⟩
  rw[Zm3 (ok.ch.de de hmem).len hs]
  by_cases can:bdD de s=[]
  ·refine ite2 (λ_=>?_) (λz=>absurd (decide_eq_true can) z)
   refine⟨_,rfl,_,rfl,_,rfl,c,m,_,_,as,de.name,s,rfl,hc.same s3,ok.ch,hs,.inr ⟨de,hmem,rfl,ok.rd de hmem,.inl ⟨can,λH4 s4=>?_⟩⟩⟩
   have s04:=s3.trans s4
   refine⟨_,rfl,_,rfl,x,dx,_,rfl,s04 _ _ hx,Zlr (by decide +kernel),x,m,e,rfl,R0.same s04,_,_,rfl,⟨_,rfl,?_⟩⟩
   rw[Zna]
   by_cases kp:Sb (Zcw (.did de) s) e.k
   ·refine ite2 (λ_=>?_) (λz=>absurd (decide_eq_true kp) z)
    have em4:=s4 _ _ em
    refine⟨_,rfl,.inl ⟨rfl,_,SqL.of em4⟩,_,rfl,c,dc,_,rfl,s04 _ _ hc1,Zgf (by decide +kernel),_,rfl,c,m,_,_,de.name,rfl,hc.same s04,ok.ch.nd,.inr ⟨(de.name,de.price),mem_append_left _ (mem_map.mpr ⟨de,hmem,rfl⟩),rfl,?_⟩⟩
    refine⟨_,rfl,by show 1≤sizeLine; lia,λb hb=>?_⟩
    have s5:Same H4 (upd H4 b (.lst [.int (Zcw (.did de) s:Nat)])):=Same.new hb
    have e5:(upd H4 b (.lst [.int (Zcw (.did de) s:Nat)])) b=some (.lst [.int (Zcw (.did de) s:Nat)]):=Zac
    generalize (upd H4 b (.lst [.int (Zcw (.did de) s:Nat)]))=H5 at s5 e5 ⊢
    refine⟨by show 2≤sizeLine; lia,λt ht=>?_⟩
    have s6:Same H5 (upd H5 t (.tup [.int de.price,.ref b])):=Same.new ht
    have e6:(upd H5 t (.tup [.int de.price,.ref b])) t=some (.tup [.int de.price,.ref b]):=Zac
    generalize (upd H5 t (.tup [.int de.price,.ref b]))=H6 at s6 e6 ⊢
    have em6:=s6 _ _ (s5 _ _ em4)
    have s36:=(s4.trans s5).trans s6
    refine⟨mv,vs,_,rfl,rfl,em6,by lia,?_⟩
    refine⟨some (.str de.name),_,vs ++ [.ref t],ms ++ [(de.price,[Zcw (.did de) s])],rfl,((s3.trans s36).put hmv),?_,Zac,?_,λq=>?_,by rw[length_append]; exact add_le_add_right len 1⟩
    ·rw[Zaj nlm]
     exact s36 _ _ el
    ·have hfw:Same (rm (fwd H H3) [mv]) (rm (fwd H (upd H6 mv (.lst (vs ++ [V.ref t])))) [mv]):=λc u e=>by
      have hc:c∉[mv]:=λz=>by rw[show rm (fwd H H3) [mv] c=none from if_pos z]at e; cases e
      rw[Zbm hc]at e ⊢
      obtain⟨h0,h1⟩:=Zg8 e
      rw[Zb3 h0,Zaj (by simpa using hc)]
      exact s36 _ _ h1
     refine(am.mono λv t _ r=>r.same hfw).app (.one ⟨t,b,rfl,?_,?_⟩)
     ·have nt:=(Zag (s5 _ _ em4) ht).symm
      rw[Zbm (by simpa using nt),Zb3 ((s04.trans s5).free ht),Zaj nt]
      exact e6
     have nb:=(Zag em4 hb).symm
     rw[Zbm (by simpa using nb),Zb3 (s04.free hb),Zaj nb]
     exact s6 _ _ e5
    rw[mem_append,mem,htk]
    constructor
    ·rintro(⟨d,hd,r⟩ | hq)
     ·exact⟨d,mem_append_left _ hd,r⟩
     exact⟨de,mem_append_right _ (mem_singleton.mpr rfl),can,kp,mem_singleton.mp hq⟩
    rintro⟨d,hd,r1,r2,r3⟩
    rcases(mem_append.mp hd)with hd | hd
    ·exact .inl ⟨d,hd,r1,r2,r3⟩
    rw[mem_singleton.mp hd]at r3
    exact .inr (mem_singleton.mpr r3)
   refine ite2 (λz=>absurd (of_decide_eq_true z) kp) (λ_=>?_)
   exact⟨some (.str de.name),_,vs,ms,rfl,s04,s4 _ _ el,s4 _ _ em,am.mono λv t _ r=>r.same (Zbf (Zir λc u _ z=>s4 c u z)),skip λz=>kp z.2,le_succ_of_le len⟩
  refine ite2 (λz=>absurd (of_decide_eq_true z) can) (λ_=>?_)
  exact⟨some (.str de.name),v5,vs,ms,rfl,s3,el,em,am,skip λz=>can z.1,le_succ_of_le len⟩
 rintro σ H3 ⟨v4,v5,vs,ms,rfl,s3,el,em,am,mem,len⟩
 rw[length_map,length_map]at mem len
 rw[take_length]at mem
 have h40:=ok.ch.fd
 exact⟨_,rfl,q mv ms H3 s3 hmv ⟨vs,by rw[Zb3 hmv]; exact em,am.mono λv t _ r=>r.same Zdj⟩ mem (by lia)⟩
theorem ok_lookmoves {f C CN NN f2 f3 f4 f7:Addr}{fd d2 d3 d4 d7:FuncData}(F:Fun K "look_moves" "look_moves" Zbl f fd) (L:Cl K C)
  (b_look_names:Binds K d2 ["self"] []) (m_look_names:Meth K C "look_names" f2) (G_look_names:FnOk P w K mg base CX0 1 f2 d2 Zfh (spLookNames C))
  (D_can_do:Df K mg "can_do" Zep Zf9 f3 d3) (G_can_do:FnOk P w K mg base (CXe P w) 3 f3 d3 Zf9 (spCanDo C NN)) (D_parts:Df K mg "parts" Ze0 Zkr f4 d4) (G_parts:FnOk P w K mg base (CXd P w CN) 5 f4 d4 Zkr (spParts C NN))
  (b_price_of:Binds K d7 ["self", "name"] []) (m_price_of:Meth K C "price_of" f7) (G_price_of:FnOk P w K mg base (CXe P w) 2 f7 d7 Zgl (spPriceOf C NN)):FnOk P w K mg base CX0 6 f fd Zei (spLookMoves C):=by
 refine F.ok scLookMoves (λvs H Q E h=>?_) (λcdv A outer s0 H vs Q E hr5 h=>?_)
 ·obtain⟨c,m,e,as,s,rfl,_⟩:=h
  rfl
 obtain⟨c,m,e,as,s,rfl,hc,ok,hs,q⟩:=h
 have hr3:Room 3 _:=hr5.mono (by decide)
 have hr2:Room 2 _:=hr5.mono (by decide)
 have hr1:Room 1 _:=hr5.mono (by decide)
 have hsl:sizeLine=16777216:=sizeLine_eq
 have hcE:=hc
 obtain⟨dc,p,o,a,q',d,kp,ko,ka,kq,kd,o1,o2,hc1,_⟩:=hc.ex
 refine⟨_,(Zad (Zas (i:=2) scLookMoves.nd rfl (Or.inl rfl) (Zb6 Zae))
  (Zad (Zba PassesOwn.never rfl (Zaz (Zc4 (pv 0) L.cl m_look_names G_look_names hr1 b_look_names .nil Zap)) (Zao (i:=3) scLookMoves.nd rfl (Or.inl rfl))
   (Zaf (Za4 (Zcs (Zai G_can_do hr3 (by rfl) D_can_do.m D_can_do.F.kp D_can_do.b .nil Zkp (Zaa (pv 0) (Zaa (pv 3) (Zaa (pv 1) Zae))))) (Zaf (Za1 (Zge PySem.F.plainAttrs_list PySem.F.slot_list_append PySem.F.type_list_append Zbi (pv 2) (Zaa (Zct (Zaa (Zc8 (pv 0) L.cl m_price_of G_price_of hr2 b_price_of .nil Zkp (Zaa (pv 3) Zae)) (Zaa (Zdv (N:=["part"]) (sc:=Zab Zbl) (own:=["part"]) (fr:=[]) (js:=[]) ⟨rfl,rfl,rfl,rfl,by decide +kernel,by decide +kernel,by decide +kernel,rfl,by decide +kernel⟩ rfl (Zaz (Zai G_parts hr5 (by rfl) D_parts.m D_parts.F.kp D_parts.b .nil Zno (Zaa (pv 0) (Zaa (pv 3) (Zaa (pv 1) Zae))))) (λ_ _ _ _=>Zao (i:=0) (show List.Nodup (["part"]:List Str) by decide +kernel) rfl (Or.inl rfl)) (λ_ _ _ _=>Zbs) (λ_ _ _ _=>(Za3 (Zez K rfl) (pv 0) Zah (λ_ _=>rfl)))) Zae))) Zae)))) Zar)))
  (Zaf (Zan (pv 2))))),?_⟩
 refine⟨zero_le _,λmv hmv=>?_⟩
 have s1:Same H (upd H mv (.lst [])):=Same.new hmv
 have e1:(upd H mv (.lst [])) mv=some (.lst []):=Zac
 generalize (upd H mv (.lst []))=H1 at s1 e1 ⊢
 refine⟨_,rfl,c,dc,_,rfl,s1 _ _ hc1,Zgf (by decide +kernel),c,m,_,_,rfl,hc.same s1,λl H2 s2 hl e2=>⟨l,rfl,⟨_,SqL.of e2⟩,?_⟩⟩
 have nlm:l≠mv:=(Zag e1 hl).symm
 refine Za5 (K:=K) (a:=l) (xs:=(e.ls.map Loo.name).map V.str) (λi σ H3=>∃(v4:Option V) (vs:List V) (ms:List (Int×List Nat)),σ = [some (.ref c),some (.int (s:Int)),some (.ref mv),v4]∧Same H H3∧H3 l=some (.lst ((e.ls.map Loo.name).map V.str))∧H3 mv=some (.lst vs)∧A2 (M1 (rm (fwd H H3) [mv])) vs ms∧(∀q,q∈ms↔LMv (e.ls.take i) s q)∧ms.length≤i)
  ⟨none,[],[],rfl,s1.trans s2,e2,s2 _ _ e1,.nil,λq=>⟨λh=>(nomatch h),λ⟨d,hd,_⟩=>by rw[take_zero]at hd; cases hd⟩,Nat.le_refl _⟩ (λi σ H3 _ hh0=>by obtain⟨_,_,_,_,_,z,_⟩:=hh0; exact SqL.of z) ?_ ?_
 ·rintro i v σ H3 hv ⟨v4,vs,ms,rfl,s3,el,em,am,mem,len⟩
  rw[getElem?_map,getElem?_map]at hv
  obtain⟨n,hn,rfl⟩:=map_eq_some_iff.mp hv
  obtain⟨lo,hlo,rfl⟩:=map_eq_some_iff.mp hn
  have hi:=(List.getElem?_eq_some_iff.mp hlo).1
  have hmem:=mem_of_getElem? hlo
  have htk:e.ls.take (i + 1)=e.ls.take i ++ [lo]:=by rw[take_succ_eq_append_getElem hi,(List.getElem?_eq_some_iff.mp hlo).2]
  have h40:=ok.ch.fl
  have vl:=am.len
  refine⟨_,rfl,_,rfl,_,rfl,c,m,_,_,lo.name,s,rfl,hc.same s3,ok.ch.nd,.inr ⟨_,mem_append_right _ (mem_map.mpr ⟨lo,hmem,rfl⟩),rfl,⟨_,rfl,?_⟩⟩⟩
  rw[Zm2 (ok.ch.lo lo hmem) hs]
  by_cases can:bdL lo s=[]
  ·refine ite2 (λ_=>?_) (λz=>absurd (decide_eq_true can) z)
   refine⟨_,rfl,.inl ⟨rfl,_,SqL.of em⟩,_,rfl,c,dc,_,rfl,s3 _ _ hc1,Zgf (by decide +kernel),_,rfl,c,m,_,_,lo.name,rfl,hc.same s3,ok.ch.nd,.inr ⟨(lo.name,lo.price),mem_append_right _ (mem_map.mpr ⟨lo,hmem,rfl⟩),rfl,?_⟩⟩
   refine⟨_,rfl,_,rfl,_,rfl,c,m,_,_,as,lo.name,s,rfl,hc.same s3,ok.ch,hs,.inr ⟨lo,hmem,rfl,ok.rl lo hmem,.inl ⟨can,λr ts qs H4 s4 hr4 er qr pt ql=>?_⟩⟩⟩
   refine⟨r,rfl,⟨_,SqL.of er⟩,λD hD=>?_⟩
   have tl:(ts.map V.ref).length=qs.length:=by rw[length_map]; exact qr.len
   have em4:=s4 _ _ em
   refine lcJ (n:=(ts.map V.ref).length) (λi ys H5=>ys=nV ((qs.take i).map (·.2))∧Same H4 H5∧H5 D=some (.lst ys)) ⟨rfl,Same.new hD,Zac⟩ (λi ys H5 hi ⟨_,z,_⟩=>⟨_,(ts.map V.ref)[i],SqL.of (z _ _ er),getElem?_eq_getElem hi⟩) (λys H5 hh0=>by obtain⟨_,z,_⟩:=hh0; exact⟨_,SqL.of (z _ _ er),Nat.le_refl _⟩) ?_ ?_
   ·rintro i ys H5 v H6 hi ⟨rfl,s5,e5⟩ ⟨rfl,hy⟩
    have hv:=hy _ (SqL.of (s5 _ _ er))
    rw[getElem?_map]at hv
    obtain⟨t,ht,rfl⟩:=map_eq_some_iff.mp hv
    have hiz:i < qs.length:=by lia
    have et:=s5 _ _ (qr.got i t _ ht (getElem?_eq_getElem hiz))
    have htk2:qs.take (i + 1)=qs.take i ++ [qs[i]]:=take_succ_eq_append_getElem hiz
    refine Zce ?_
    have a1:∀u v:V,atI [u,v] ((1:Nat):Int)=some v:=λ_ _=>Zav rfl
    refine⟨_,rfl,t,_,_,_,rfl,rfl,SqT.of et,a1 _ _,?_⟩
    refine⟨_,e5,by rw[length_map,length_map,length_take]; lia,?_,s5.put hD,Zac⟩
    rw[htk2,map_append]
    show _=List.map (λy:Nat=>V.int (y:Int)) (_ ++ _)
    rw[map_append]
    rfl
   rintro ys H5 ⟨rfl,s5,e5⟩
   rw[tl,take_length]at e5
   refine⟨by show 2≤sizeLine; lia,λt ht=>?_⟩
   have s6:Same H5 (upd H5 t (.tup [.int lo.price,.ref D])):=Same.new ht
   have e6:(upd H5 t (.tup [.int lo.price,.ref D])) t=some (.tup [.int lo.price,.ref D]):=Zac
   generalize (upd H5 t (.tup [.int lo.price,.ref D]))=H6 at s6 e6 ⊢
   have em5:=s5 _ _ em4
   have s36:=(s4.trans s5).trans s6
   refine⟨mv,vs,_,rfl,rfl,s6 _ _ em5,by lia,?_⟩
   refine⟨some (.str lo.name),vs ++ [.ref t],ms ++ [(lo.price,qs.map (·.2))],rfl,((s3.trans s36).put hmv),?_,Zac,?_,λq=>?_,by rw[length_append]; exact add_le_add_right len 1⟩
   ·rw[Zaj nlm]
    exact s36 _ _ el
   ·have hfw:Same (rm (fwd H H3) [mv]) (rm (fwd H (upd H6 mv (.lst (vs ++ [V.ref t])))) [mv]):=λc u e=>by
     have hc:c∉[mv]:=λz=>by rw[show rm (fwd H H3) [mv] c=none from if_pos z]at e; cases e
     rw[Zbm hc]at e ⊢
     obtain⟨h0,h1⟩:=Zg8 e
     rw[Zb3 h0,Zaj (by simpa using hc)]
     exact s36 _ _ h1
    refine(am.mono λv t _ r=>r.same hfw).app (.one ⟨t,D,rfl,?_,?_⟩)
    ·have nt:=(Zag em5 ht).symm
     rw[Zbm (by simpa using nt),Zb3 (((s3.trans s4).trans s5).free ht),Zaj nt]
     exact e6
    have nb:=(Zag em4 hD).symm
    rw[Zbm (by simpa using nb),Zb3 ((s3.trans s4).free hD),Zaj nb]
    exact s6 _ _ e5
   rw[mem_append,mem,htk]
   constructor
   ·rintro(⟨d,hd,r⟩ | hq)
    ·exact⟨d,mem_append_left _ hd,r⟩
    exact⟨lo,mem_append_right _ (mem_singleton.mpr rfl),can,qs,pt,mem_singleton.mp hq⟩
   rintro⟨d,hd,r1,qs',r2,r3⟩
   rcases(mem_append.mp hd)with hd | hd
   ·exact .inl ⟨d,hd,r1,qs',r2,r3⟩
   rw[mem_singleton.mp hd]at r2 r3
   rw[r2.eq pt]at r3
   exact .inr (mem_singleton.mpr r3)
  refine ite2 (λz=>absurd (of_decide_eq_true z) can) (λ_=>?_)
  refine⟨some (.str lo.name),vs,ms,rfl,s3,el,em,am,λq=>?_,le_succ_of_le len⟩
  rw[mem,htk]
  constructor
  ·rintro⟨d,hd,r⟩
   exact⟨d,mem_append_left _ hd,r⟩
  rintro⟨d,hd,r1,r2⟩
  rcases(mem_append.mp hd)with hd | hd
  ·exact⟨d,hd,r1,r2⟩
  rw[mem_singleton.mp hd]at r1
  exact absurd r1 can
 rintro σ H3 ⟨v4,vs,ms,rfl,s3,el,em,am,mem,len⟩
 rw[length_map,length_map]at mem len
 rw[take_length]at mem
 have h40:=ok.ch.fl
 exact⟨_,rfl,q mv ms H3 s3 hmv ⟨vs,by rw[Zb3 hmv]; exact em,am.mono λv t _ r=>r.same Zdj⟩ mem (by lia)⟩
theorem ok_movesof {f CE C f1 f2 f3 f4 f5:Addr}{fd d1 d2 d3 d4 d5:FuncData}(F:Fun K "moves_of" "moves_of" Zc0 f fd) (LE:ClE K CE)
  (D_within:Df K mg "within" Zcf Zcg f1 d1) (G_within:FnOk P w K mg base CX0 1 f1 d1 Zcg spIn) (b_goal:Binds K d2 ["self"] []) (m_goal:Meth K CE "goal" f2) (G_goal:FnOk P w K mg base CX0 1 f2 d2 Zdm (spErGoal CE C))
  (D_deed_moves:Df K mg "deed_moves" Zbw Zej f3 d3) (G_deed_moves:FnOk P w K mg base CX0 6 f3 d3 Zej (spDeedMoves CE C)) (D_look_moves:Df K mg "look_moves" Zbl Zei f4 d4) (G_look_moves:FnOk P w K mg base CX0 6 f4 d4 Zei (spLookMoves C))
  (b_chart:Binds K d5 ["self"] []) (m_chart:Meth K CE "chart" f5) (G_chart:FnOk P w K mg base CX0 1 f5 d5 Zc6 (spErChart CE C)):FnOk P w K mg base CX0 7 f fd Zgm (spMovesOf CE C):=by
 refine F.ok scMovesOf (λvs H Q E h=>?_) (λcdv A outer s0 H vs Q E hr6 h=>?_)
 ·obtain⟨x,m,e,as,s,rfl,_⟩:=h
  rfl
 obtain⟨x,m,e,as,s,rfl,R,ok,hs,q⟩:=h
 have hr1:Room 1 _:=hr6.mono (by decide)
 have hsl:sizeLine=16777216:=sizeLine_eq
 have R0:=R
 obtain⟨dx,c0,hx,hc0⟩:=R
 refine⟨_,(Zad (Za4 (Zcs (Zai G_within hr1 (by rfl) D_within.m D_within.F.kp D_within.b .nil Zap (Zaa (pv 1) (Zaa (Zc4 (pv 0) LE.cl m_goal G_goal hr1 b_goal .nil Zap) Zae)))) (Zaf (Zan (Zb6 Zae))) Zar)
  (Zaf (Zan (Zaw Zme (Zai G_deed_moves hr6 (by rfl) D_deed_moves.m D_deed_moves.F.kp D_deed_moves.b .nil Zap (Zaa (pv 0) (Zaa (pv 1) Zae))) (Zai G_look_moves hr6 (by rfl) D_look_moves.m D_look_moves.F.kp D_look_moves.b .nil Zap (Zaa (Zc4 (pv 0) LE.cl m_chart G_chart hr1 b_chart .nil Zap) (Zaa (pv 1) Zae))))))),?_⟩
 refine⟨_,rfl,_,rfl,x,dx,_,rfl,hx,Zlr (by decide +kernel),x,m,e,rfl,R0,_,_,rfl,⟨_,rfl,?_⟩⟩
 rw[Zna]
 by_cases gl:Sb s e.g
 ·refine ite2 (λ_=>?_) (λz=>absurd (decide_eq_true gl) z)
  refine⟨zero_le _,λl hl=>?_⟩
  exact q l [] _ (Same.new hl) hl ⟨[],by rw[Zb3 hl]; exact Zac,.nil⟩ ⟨λ_=>rfl,λz=>absurd gl z⟩ (zero_le _)
 refine ite2 (λz=>absurd (of_decide_eq_true z) gl) (λ_=>?_)
 try unfold tNext
 dsimp only
 refine⟨_,rfl,_,rfl,x,m,e,as,s,rfl,R0,ok,hs,λl1 ms1 H1 s1 hl1 m1 c1 n1=>?_⟩
 refine⟨_,rfl,x,dx,_,rfl,s1 _ _ hx,Zlr (by decide +kernel),x,m,e,rfl,R0.same s1,λc hc=>?_⟩
 refine⟨_,rfl,c,m,e,as,s,rfl,hc,ok,hs,λl2 ms2 H2 s2 hl2 m2 c2 n2=>?_⟩
 obtain⟨vs1,e1,a1⟩:=m1
 obtain⟨vs2,e2,a2⟩:=m2
 have v1:=a1.len
 have v2:=a2.len
 refine⟨l1,l2,vs1,vs2,rfl,rfl,s2 _ _ (Znq _ _ e1),Znq _ _ e2,by lia,λl hl=>?_⟩
 have s3:Same H2 (upd H2 l (.lst (vs1 ++ vs2))):=Same.new hl
 refine q l (ms1 ++ ms2) _ ((s1.trans s2).trans s3) ((s1.trans s2).free hl) ⟨vs1 ++ vs2,by rw[Zb3 ((s1.trans s2).free hl)]; exact Zac,(a1.mono λv t _ r=>r.same (Zir λc u _ z=>s3 _ _ (s2 _ _ z))).app (a2.mono λv t _ r=>r.same ((fwd_up s1).trans (Zir λc u _ z=>s3 _ _ z)))⟩ ⟨λz=>absurd z gl,λ_ p ss=>?_⟩ (by rw[length_append]; lia)
 rw[mem_append,c1,c2]
 constructor
 ·rintro(⟨d,hd,h1,h2,h3⟩ | ⟨lo,hl,h1,qs,h2,h3⟩)
  ·cases h3
   exact .deed d hd h1 h2
  cases h3
  exact .look lo hl h1 qs h2
 intro h
 cases h with
 | deed d hd h1 h2=>exact .inl ⟨d,hd,h1,h2,rfl⟩
 | look lo hl h1 qs h2=>exact .inr ⟨lo,hl,h1,qs,h2,rfl⟩
noncomputable abbrev ki (x:Nat):Key:=Sum.inl (x:Int)
theorem Ze7 {x y:Nat}(h:ki x=ki y):x=y:=by
 have:=Sum.inl.inj h
 lia
noncomputable def In (kvs:List (Key×V)) (x:Nat):Prop:=(valV kvs (ki x)).isSome=true
inductive Mo (G:Hp) (kvs:List (Key×V)) (x:Nat) (ms:List (Int×List Nat)):Prop
 | mk (l:Addr) (hv:valV kvs (ki x)=some (.ref l)) (hm:MsAt G l ms):Mo G kvs x ms
structure Dm (G:Hp) (m:Nat) (kvs:List (Key×V)) (mf:Nat→List (Int×List Nat)):Prop where
 nd:(kvs.map (·.1)).Nodup
 key:∀k∈kvs.map (·.1),∃x:Nat,k=ki x∧x < 2 ^ m
 val:∀x,In kvs x→Mo G kvs x (mf x)∧(∀q∈mf x,q.2≠[]∧q.2.length≤3∧∀y∈q.2,y < 2 ^ m)∧(mf x).length≤80
theorem In.key {kvs:List (Key×V)}{x:Nat}(h:In kvs x):ki x∈kvs.map (·.1):=by
 unfold In at h
 cases e:valV kvs (ki x)with
 | none=>rw[e]at h; cases h
 | some v=>exact Zhx e
theorem Zml {kvs:List (Key×V)}{x:Nat}(h:ki x∈kvs.map (·.1)):In kvs x:=by
 unfold In
 cases e:valV kvs (ki x)with
 | none=>exact absurd h (Zgh e)
 | some v=>rfl
theorem not_in {kvs:List (Key×V)}{x:Nat}(h:¬In kvs x):valV kvs (ki x)=none:=by
 unfold In at h
 cases e:valV kvs (ki x)with
 | none=>rfl
 | some v=>rw[e]at h; exact absurd rfl h
theorem Dm.lt {G:Hp}{m:Nat}{kvs:List (Key×V)}{mf:Nat→List (Int×List Nat)}(h:Dm G m kvs mf) {x:Nat}(hx:In kvs x):x < 2 ^ m:=by
 obtain⟨y,e,hy⟩:=h.key _ hx.key
 rw[Ze7 e]
 exact hy
theorem Zgr {m:Nat}{ks:List Key}(m7:m≤7) (nd:ks.Nodup) (key:∀k∈ks,∃x:Nat,k=ki x∧x < 2 ^ m):ks.length≤128:=by
 have h1:ks.length≤((List.range 128).map ki).length:=List.Nodup.length_le_of_subset nd λk hk=>by
  obtain⟨x,e,hx⟩:=key k hk
  have:2 ^ m≤2 ^ 7:=pow_le_pow_right (by decide) m7
  exact mem_map.mpr ⟨x,mem_range.mpr (by lia),e.symm⟩
 rw[length_map,length_range]at h1
 exact h1
theorem Dm.few {G:Hp}{m:Nat}{kvs:List (Key×V)}{mf:Nat→List (Int×List Nat)}(h:Dm G m kvs mf) (m7:m≤7):kvs.length≤128:=by
 have:=Zgr m7 h.nd h.key
 rw[length_map]at this
 exact this
theorem Dm.same {G G':Hp}{m:Nat}{kvs:List (Key×V)}{mf:Nat→List (Int×List Nat)}(h:Dm G m kvs mf) (s:Same G G'):Dm G' m kvs mf:=⟨h.nd,h.key,λx hx=>by
 obtain⟨⟨l,hv,hm⟩,r⟩:=h.val x hx
 exact⟨⟨l,hv,hm.same s⟩,r⟩⟩
noncomputable def Dn (e:Ed) (kvs:List (Key×V)) (mf:Nat→List (Int×List Nat)) (Lf:Nat→Nat) (x:Nat):Prop:=MvOf e x (mf x)∧∀q∈mf x,∀y∈q.2,In kvs y∧Lf y≤Lf x + 1
structure SS (e:Ed) (m:Nat) (G:Hp) (kvs:List (Key×V)) (mf:Nat→List (Int×List Nat)) (Lf:Nat→Nat) (Pd:Nat→Prop):Prop where
 dm:Dm G m kvs mf
 st:∀x,In kvs x→Dn e kvs mf Lf x∨Pd x
theorem SS.same {e:Ed}{m:Nat}{G G':Hp}{kvs:List (Key×V)}{mf:Nat→List (Int×List Nat)}{Lf:Nat→Nat}{Pd:Nat→Prop}(h:SS e m G kvs mf Lf Pd) (s:Same G G'):SS e m G' kvs mf Lf Pd:=⟨h.dm.same s,h.st⟩
theorem SS.imp {e:Ed}{m:Nat}{G:Hp}{kvs:List (Key×V)}{mf:Nat→List (Int×List Nat)}{Lf:Nat→Nat}{Pd Pd':Nat→Prop}(h:SS e m G kvs mf Lf Pd) (i:∀x,In kvs x→Pd x→Dn e kvs mf Lf x∨Pd' x):SS e m G kvs mf Lf Pd':=⟨h.dm,λx hx=>(h.st x hx).elim .inl (i x hx)⟩
structure Ad (G:Hp) (m:Nat) (kvs kvs':List (Key×V)) (ss fs:List Nat):Prop where
 nd:(kvs'.map (·.1)).Nodup
 key:∀k∈kvs'.map (·.1),∃x:Nat,k=ki x∧x < 2 ^ m
 inn:∀x,In kvs' x↔In kvs x∨x∈ss
 old:∀x,In kvs x→valV kvs' (ki x)=valV kvs (ki x)
 fre:∀x,x∈fs↔In kvs' x∧¬In kvs x
 new:∀x∈fs,∃l,valV kvs' (ki x)=some (.ref l)∧G l=some (.lst [])
 len:fs.length + kvs.length=kvs'.length
open Classical in
noncomputable def lvA (kvs:List (Key×V)) (Lf:Nat→Nat) (j:Nat):Nat→Nat:=λy=>if In kvs y then Lf y else j
open Classical in
noncomputable def mvA (kvs:List (Key×V)) (mf:Nat→List (Int×List Nat)):Nat→List (Int×List Nat):=λy=>if In kvs y then mf y else []
theorem Zg4 {kvs:List (Key×V)}{Lf:Nat→Nat}{j x:Nat}(h:In kvs x):lvA kvs Lf j x=Lf x:=if_pos h
theorem Zmh {kvs:List (Key×V)}{Lf:Nat→Nat}{j x:Nat}(h:¬In kvs x):lvA kvs Lf j x=j:=if_neg h
theorem Zk4 {kvs:List (Key×V)}{mf:Nat→List (Int×List Nat)}{x:Nat}(h:In kvs x):mvA kvs mf x=mf x:=if_pos h
theorem mvA_no {kvs:List (Key×V)}{mf:Nat→List (Int×List Nat)}{x:Nat}(h:¬In kvs x):mvA kvs mf x=[]:=if_neg h
theorem SS.add {e:Ed}{m j:Nat}{G G':Hp}{kvs kvs':List (Key×V)}{mf:Nat→List (Int×List Nat)}{Lf:Nat→Nat}{Pd:Nat→Prop}{ss fs:List Nat}(h:SS e m G kvs mf Lf Pd) (s:Same G G') (a:Ad G' m kvs kvs' ss fs):SS e m G' kvs' (mvA kvs mf) (lvA kvs Lf j) (λx=>Pd x∨x∈fs):=by
 refine⟨⟨a.nd,a.key,λx hx=>?_⟩,λx hx=>?_⟩
 ·by_cases hi:In kvs x
  ·rw[Zk4 hi]
   obtain⟨⟨l,hv,hm⟩,r⟩:=h.dm.val x hi
   exact⟨⟨l,(a.old x hi).trans hv,hm.same s⟩,r⟩
  rw[mvA_no hi]
  obtain⟨l,hv,hl⟩:=a.new x ((a.fre x).mpr ⟨hx,hi⟩)
  exact⟨⟨l,hv,⟨[],hl,.nil⟩⟩,λq hq=>(nomatch hq),zero_le _⟩
 by_cases hi:In kvs x
 ·rcases h.st x hi with⟨mo,dn⟩ | p
  ·refine .inl ⟨by rw[Zk4 hi]; exact mo,λq hq y hy=>?_⟩
   rw[Zk4 hi]at hq
   obtain⟨iy,ly⟩:=dn q hq y hy
   rw[Zg4 hi,Zg4 iy]
   exact⟨(a.inn y).mpr (.inl iy),ly⟩
  exact .inr (.inl p)
 exact .inr (.inr ((a.fre x).mpr ⟨hx,hi⟩))
theorem SS.put {e:Ed}{m:Nat}{G G':Hp}{kvs:List (Key×V)}{mf:Nat→List (Int×List Nat)}{Lf:Nat→Nat}{Pd:Nat→Prop}(h:SS e m G kvs mf Lf Pd) (s:Same G G') {x:Nat}(hx:In kvs x) {l:Addr}{ms:List (Int×List Nat)}(hm:MsAt G' l ms) (ne:∀q∈ms,q.2≠[]∧q.2.length≤3∧∀y∈q.2,y < 2 ^ m) (l80:ms.length≤80) :
  SS e m G' (putK kvs (ki x) (.ref l)) (λy=>if y=x then ms else mf y) Lf (λy=>Pd y∨y=x)∧(∀y,In (putK kvs (ki x) (.ref l)) y↔In kvs y)∧(putK kvs (ki x) (.ref l)).length=kvs.length:=by
 have ek:(putK kvs (ki x) (.ref l)).map (·.1)=kvs.map (·.1):=by
  unfold putK
  rw[if_pos]
  ·rw[map_map]
   refine map_congr_left λp _=>?_
   show(if p.1=ki x then(p.1,V.ref l)else p).1=p.1
   split <;> rfl
  rw[Zci]
  exact hx
 have inn:∀y,In (putK kvs (ki x) (.ref l)) y↔In kvs y:=λy=>⟨λh=>Zml (by rw[← ek]; exact h.key),λh=>Zml (by rw[ek]; exact h.key)⟩
 refine⟨⟨⟨by rw[ek]; exact h.dm.nd,by rw[ek]; exact h.dm.key,λy hy=>?_⟩,λy hy=>?_⟩,inn,by have:=congrArg List.length ek; rw[length_map,length_map]at this; exact this⟩
 ·by_cases e:y=x
  ·rw[if_pos e]
   refine⟨⟨l,?_,hm⟩,ne,l80⟩
   rw[Zgg,e,if_pos rfl]
  rw[if_neg e]
  obtain⟨⟨l',hv,hm'⟩,r⟩:=h.dm.val y ((inn y).mp hy)
  refine⟨⟨l',?_,hm'.same s⟩,r⟩
  rw[Zgg,if_neg λz=>e (Ze7 z)]
  exact hv
 by_cases e:y=x
 ·exact .inr (.inr e)
 rcases h.st y ((inn y).mp hy)with⟨mo,dn⟩ | p
 ·refine .inl ⟨?_,λq hq z hz=>?_⟩
  ·dsimp only
   rw[if_neg e]
   exact mo
  dsimp only at hq
  rw[if_neg e]at hq
  obtain⟨i1,i2⟩:=dn q hq z hz
  exact⟨(inn z).mpr i1,i2⟩
 exact .inr (.inl p)
noncomputable def Pr (kvp:List (Key×V)) (pr:Nat→Option Int):Prop:=∀x:Nat,valV kvp (ki x)=(pr x).map V.int
structure Nx (e:Ed) (kvs:List (Key×V)) (mf:Nat→List (Int×List Nat)) (pr pr':Nat→Option Int):Prop where
 gl:∀x,In kvs x→Sb x e.g→pr' x=some 0
 ng:∀x,In kvs x→¬Sb x e.g→Lst (Ch pr (mf x)) (pr' x)
theorem nx_zero {e:Ed}{m:Nat}{as:List Str}(ok:EdOk m e as) {G:Hp}{kvs:List (Key×V)}{mf:Nat→List (Int×List Nat)}(d:Dm G m kvs mf) {pr':Nat→Option Int}(n:Nx e kvs mf (λ_=>none) pr') {x:Nat}(hx:In kvs x):Lst (Wo e 0 x) (pr' x):=by
 by_cases g:Sb x e.g
 ·rw[n.gl x hx g]
  exact Zio g ok (d.lt hx)
 have h:=n.ng x hx g
 cases e':pr' x with
 | none=>exact Zk5 g
 | some c=>
  rw[e']at h
  cases h with
  | yes _ h _=>
   obtain⟨q,_,M,⟨⟨y,_,z⟩,_⟩,_⟩:=h
   cases z
theorem nx_succ {e:Ed}{m:Nat}{as:List Str}(ok:EdOk m e as) {G:Hp}{kvs:List (Key×V)}{mf:Nat→List (Int×List Nat)}{Lf:Nat→Nat}{most:Nat}(S:SS e m G kvs mf Lf (λx=>Lf x=most)) {pr pr':Nat→Option Int}{n:Nat}(hp:∀y,In kvs y→Lf y + n≤most→Lst (Wo e n y) (pr y)) (nx:Nx e kvs mf pr pr') {x:Nat}(hx:In kvs x) (lx:Lf x + (n + 1)≤most):Lst (Wo e (n + 1) x) (pr' x):=by
 by_cases g:Sb x e.g
 ·rw[nx.gl x hx g]
  exact Zio g ok (S.dm.lt hx)
 rcases S.st x hx with⟨mo,dn⟩ | p
 ·refine(nx.ng x hx g).iff λc=>ch_wo ok (S.dm.lt hx) g mo λq hq y hy=>?_
  obtain⟨iy,ly⟩:=dn q hq y hy
  exact hp y iy (by lia)
 lia
theorem EdOk.few {m:Nat}{e:Ed}{as:List Str}(ok:EdOk m e as) {s:Nat}{p:Int}{ss:List Nat}(h:Mv e s p ss):ss.length≤3:=by
 cases h with
 | deed d hd=>exact Nat.le_add_left 1 2
 | look l hl c qs p=>
  have h1:(qs.map (·.1)).length≤as.length:=List.Nodup.length_le_of_subset p.ri.nd λz hz=>by
   have has:some z∈msk s l.tab:=msk_has.mpr ((p.keys z).mp hz)
   obtain⟨j,hj⟩:=getElem?_of_mem has
   exact ok.ch.an l hl z (mem_of_getElem? (msk_at.mp hj).2)
  have:=ok.ch.a3
  rw[length_map]at h1 ⊢
  lia
theorem EdOk.moves {m:Nat}{e:Ed}{as:List Str}(ok:EdOk m e as) {s:Nat}(hs:s < 2 ^ m) {ms:List (Int×List Nat)}(h:MvOf e s ms):∀q∈ms,q.2≠[]∧q.2.length≤3∧∀y∈q.2,y < 2 ^ m:=λq hq=>by
 by_cases g:Sb s e.g
 ·rw[h.gl g]at hq
  cases hq
 have mv:=(h.mem g q.1 q.2).mp hq
 exact⟨ok.ne hs (λz=>g (by rw[z]; exact Zj2)) mv,ok.few mv,λy hy=>ok.lt hs mv hy⟩
theorem Zmf (a b:List Nat):nV (a ++ b)=nV a ++ nV b:=map_append
theorem Pr.put {kvp:List (Key×V)}{pr:Nat→Option Int}(h:Pr kvp pr) (x:Nat) (c:Int):Pr (putK kvp (ki x) (.int c)) (λy=>if y=x then some c else pr y):=λy=>by
 rw[Zgg]
 dsimp only
 by_cases e:y=x
 ·rw[if_pos (by rw[e]),if_pos e]
  rfl
 rw[if_neg λz=>e (Ze7 z),if_neg e]
 exact h y
structure NxI (e:Ed) (kvs:List (Key×V)) (mf:Nat→List (Int×List Nat)) (pr pr':Nat→Option Int) (i:Nat):Prop where
 inn:∀x,ki x∈(kvs.take i).map (·.1)→(Sb x e.g→pr' x=some 0)∧(¬Sb x e.g→Lst (Ch pr (mf x)) (pr' x))
 out:∀x,ki x∉(kvs.take i).map (·.1)→pr' x=none
theorem NxI.step {e:Ed}{kvs:List (Key×V)}{mf:Nat→List (Int×List Nat)}{pr pr':Nat→Option Int}{i:Nat}(h:NxI e kvs mf pr pr' i) {x:Nat}{v:V}(hk:kvs[i]? = some (ki x,v)) {u:Option Int}(h1:Sb x e.g→u=some 0) (h2:¬Sb x e.g→Lst (Ch pr (mf x)) u):NxI e kvs mf pr (λy=>if y=x then u else pr' y) (i + 1):=by
 have hi:=(List.getElem?_eq_some_iff.mp hk).1
 have htk:(kvs.take (i + 1)).map (·.1)=(kvs.take i).map (·.1) ++ [ki x]:=by rw[take_succ_eq_append_getElem hi,(List.getElem?_eq_some_iff.mp hk).2,map_append]; rfl
 refine⟨λy hy=>?_,λy hy=>?_⟩
 ·by_cases e:y=x
  ·rw[if_pos e,e]
   exact⟨h1,h2⟩
  rw[if_neg e]
  rw[htk,mem_append,mem_singleton]at hy
  exact h.inn y (hy.elim id λz=>absurd (Ze7 z) e)
 rw[htk,mem_append,not_or,mem_singleton]at hy
 rw[if_neg λz=>hy.2 (by rw[z])]
 exact h.out y hy.1
theorem NxI.skip {e:Ed}{kvs:List (Key×V)}{mf:Nat→List (Int×List Nat)}{pr pr':Nat→Option Int}{i:Nat}(h:NxI e kvs mf pr pr' i) (nd:(kvs.map (·.1)).Nodup) {x:Nat}{v:V}(hk:kvs[i]? = some (ki x,v)):(λy=>if y=x then none else pr' y)=pr':=by
 funext y
 by_cases e:y=x
 ·rw[if_pos e,e]
  refine(h.out x λz=>?_).symm
  obtain⟨kv,hkv,ek⟩:=mem_map.mp z
  obtain⟨j,hj⟩:=getElem?_of_mem hkv
  have hji:j < i:=by
   rcases(lt_or_ge j i)with h | h
   ·exact h
   rw[getElem?_eq_none (by rw[length_take]; lia)]at hj
   cases hj
  rw[getElem?_take_of_lt hji]at hj
  have a1:(kvs.map (·.1))[j]? = some (ki x):=by rw[getElem?_map,hj,← ek]; rfl
  have a2:(kvs.map (·.1))[i]? = some (ki x):=by rw[getElem?_map,hk]; rfl
  have hil:=(List.getElem?_eq_some_iff.mp a2).1
  have hjl:=(List.getElem?_eq_some_iff.mp a1).1
  have:=(List.nodup_iff_pairwise_ne.mp nd)
  exact(pairwise_iff_getElem.mp this) j i hjl hil hji (by rw[(List.getElem?_eq_some_iff.mp a1).2,(List.getElem?_eq_some_iff.mp a2).2])
 rw[if_neg e]
theorem keysR_go {i:Nat}{σ:L2.St}{H:Hp}{R:It→Hp→Prop}{d:Addr}{kvs:List (Key×V)}(hv:σ[i]? = some (some (.ref d))) (hd:Rd H d (.dK kvs)) (h:∀o H1,(∀c u,H c=some u→c≠d→H1 c=some u)→H1 d=some (.frz o (.dK kvs))→R (Itk d o kvs) H1):Zk9 (tVar i) σ H R:=by
 refine⟨_,hv,d,kvs,rfl,?_⟩
 rcases hd with hd | ⟨o,hd⟩
 ·exact .inl ⟨hd,λo=>h o _ (λc u e n=>by rw[Zaj n]; exact e) Zac⟩
 exact .inr ⟨o,hd,h o H (λc u e _=>e) hd⟩
theorem for_keysR {i:Nat}{σ:L2.St}{H:Hp}{g:TG}{tb:TS}{D:Ends}{d:Addr}{kvs:List (Key×V)}(hv:σ[i]? = some (some (.ref d))) (hd:Rd H d (.dK kvs)) (Pv:Obj→Nat→L2.St→Hp→Prop) (h0:∀o H1,(∀c u,H c=some u→c≠d→H1 c=some u)→H1 d=some (.frz o (.dK kvs))→Pv o 0 σ H1)
  (hl:∀o i σ H,i≤kvs.length→Pv o i σ H→H d=some (.frz o (.dK kvs))) (hs:∀o i k v σ H,kvs[i]? = some (k,v)→Pv o i σ H→g (kV k) σ H λσ2 H2=>tb { D with nx:=Pv o (i + 1),ct:=Pv o (i + 1),bk:=D.nx } σ2 H2) (hdn:∀o σ H,Pv o kvs.length σ H→D.nx σ H):tFor (Zk9 (tVar i)) g tb D σ H:=
 keysR_go hv hd λo H1 k f=>for_keys (Pv o) (h0 o H1 k f) (hl o) (hs o) (hdn o)
theorem for_keysRG {i j:Nat}{v:V}{σ:L2.St}{H:Hp}{g:TG}{tb R:TS}{D:Ends}{d:Addr}{kvs:List (Key×V)}(hv:(σ.set j (some v))[i]? = some (some (.ref d))) (hd:Rd H d (.dK kvs)) (Pv:Obj→Nat→L2.St→Hp→Prop) (h0:∀o H1,(∀c u,H c=some u→c≠d→H1 c=some u)→H1 d=some (.frz o (.dK kvs))→Pv o 0 (σ.set j (some v)) H1)
  (hl:∀o i σ H,i≤kvs.length→Pv o i σ H→H d=some (.frz o (.dK kvs))) (hs:∀o i k v σ H,kvs[i]? = some (k,v)→Pv o i σ H→g (kV k) σ H λσ2 H2=>tb { ({ D with nx:=R D }:Ends)with nx:=Pv o (i + 1),ct:=Pv o (i + 1),bk:=R D } σ2 H2) (hdn:∀o σ H,Pv o kvs.length σ H→R D σ H):Zhf j v σ H (tSeq (tFor (Zk9 (tVar i)) g tb) R D):=
 for_keysR (D:={ D with nx:=R D }) hv hd Pv h0 hl hs hdn
theorem Zn1 {H:Hp}{S:List Addr}{c:Addr}{u:HO}(h:rm H S c=some u):c∉S:=λz=>by
 rw[show rm H S c=none from if_pos z]at h
 cases h
theorem rm_k {H H':Hp}{S:List Addr}(k:∀c u,H c=some u→c∉S→H' c=some u):Same (rm H S) (rm H' S):=λc u e=>by
 have hc:c∉S:=λz=>by rw[show rm H S c=none from if_pos z]at e; cases e
 rw[Zbm hc]at e ⊢
 exact k c u e hc
noncomputable def oI:Option Int→V
 | none=>.non
 | some c=>.int c
inductive spAddSets (vs:List V) (H:Hp) (Q:VK) (E0_:XK):Prop
 | mk (d b:Addr) (m:Nat) (kvs:List (Key×V)) (ss:List Nat) (c0:vs=[.ref d,.ref b]) (c1:H d=some (.dK kvs)) (c2:H b=some (.lst (nV ss))) (c3:m≤7) (c4:(kvs.map (·.1)).Nodup) (c5:(∀k∈kvs.map (·.1),∃x:Nat,k=ki x∧x < 2 ^ m)) (c6:(∀x∈ss,x < 2 ^ m)) (c7:∀(a:Addr) (fs:List Nat) (kvs':List (Key×V)) (H':Hp),(∀c u,H c=some u→c≠d→H' c=some u)→H a=none→H' d=some (.dK kvs')→H' a=some (.lst (nV fs))→Ad (fwd H H') m kvs kvs' ss fs→Q (.ref a) H'):spAddSets  vs H Q E0_
inductive spSpread (CE C:Addr) (vs:List V) (H:Hp) (Q:VK) (E0_:XK):Prop
 | mk (x:Addr) (m:Nat) (e:Ed) (as:List Str) (s most:Nat) (c0:vs=[.ref x,.int (s:Int),.int (most:Int)]) (c1:ErAt CE C H x m e) (c2:EdOk m e as) (c3:s < 2 ^ m) (c4:most≤9) (c5:∀(t l d:Addr) (kvs:List (Key×V)) (mf:Nat→List (Int×List Nat)) (Lf:Nat→Nat) (H':Hp),Same H H'→H' t=some (.tup [.ref l,.ref d])→H d=none→H' d=some (.dK kvs)→SS e m (rm H' [d]) kvs mf Lf (λx=>Lf x=most)→(Sb s e.k→In kvs s∧Lf s=0)→(¬Sb s e.k→kvs=[])→Q (.ref t) H'):spSpread CE C vs H Q E0_
inductive spDearest (vs:List V) (H:Hp) (Q:VK) (E0_:XK):Prop
 | mk (b p:Addr) (ss:List Nat) (kvp:List (Key×V)) (pr:Nat→Option Int) (c0:vs=[.ref b,.ref p]) (c1:H b=some (.lst (nV ss))) (c2:H p=some (.dK kvp)) (c3:Pr kvp pr) (c4:ss≠[]) (c5:(∀y∈ss,(pr y).isSome=true)) (c6:ss.length≤3) (c7:∀(M:Int) (H':Hp),Same H H'→Ds pr ss M→Q (.int M) H'):spDearest  vs H Q E0_
inductive spCheapest (vs:List V) (H:Hp) (Q:VK) (E0_:XK):Prop
 | mk (l p:Addr) (ms:List (Int×List Nat)) (kvp:List (Key×V)) (pr:Nat→Option Int) (c0:vs=[.ref l,.ref p]) (c1:MsAt H l ms) (c2:H p=some (.dK kvp)) (c3:Pr kvp pr) (c4:(∀q∈ms,q.2≠[]∧q.2.length≤3)) (c5:ms.length≤80) (c6:∀(v:Option Int) (H':Hp),Same H H'→Lst (Ch pr ms) v→Q (oI v) H'):spCheapest  vs H Q E0_
inductive spNextPrices (CE C:Addr) (vs:List V) (H:Hp) (Q:VK) (E0_:XK):Prop
 | mk (x d p:Addr) (m:Nat) (e:Ed) (kvs kvp:List (Key×V)) (mf:Nat→List (Int×List Nat)) (pr:Nat→Option Int) (c0:vs=[.ref x,.ref d,.ref p]) (c1:ErAt CE C (rm H [d]) x m e) (c2:m≤7) (c3:Rd H d (.dK kvs)) (c4:Dm (rm H [d]) m kvs mf) (c5:H p=some (.dK kvp)) (c6:p≠d) (c7:Pr kvp pr) (c8:∀(p':Addr) (kvp':List (Key×V)) (pr':Nat→Option Int) (o:Obj) (H':Hp),(∀c u,H c=some u→c≠d→H' c=some u)→H' d=some (.frz o (.dK kvs))→H p'=none→H' p'=some (.dK kvp')→Pr kvp' pr'→Nx e kvs mf pr pr'→(∀x,¬In kvs x→pr' x=none)→Q (.ref p') H'):spNextPrices CE C vs H Q E0_
inductive spLst (CE C:Addr) (vs:List V) (H:Hp) (Q:VK) (E0_:XK):Prop
 | mk (x:Addr) (m:Nat) (e:Ed) (as:List Str) (s most:Nat) (c0:vs=[.ref x,.int (s:Int),.int (most:Int)]) (c1:ErAt CE C H x m e) (c2:EdOk m e as) (c3:s < 2 ^ m) (c4:most≤9) (c5:∀(v:Option Int) (H':Hp),Same H H'→(Sb s e.k→Lst (Wo e most s) v)→(¬Sb s e.k→v=none)→Q (oI v) H'):spLst CE C vs H Q E0_
noncomputable abbrev Zgq:List Str:=["moves", "sets"]
noncomputable abbrev nAddSets:List Str:=["moves", "sets", "added", "one"]
theorem scAddSets:FnScope nAddSets Zgq (Zab Zc2):=⟨rfl,rfl,rfl,by decide +kernel,rfl,by decide +kernel,by decide +kernel⟩
noncomputable abbrev Zh7:List Str:=["errand", "some", "most"]
noncomputable abbrev nSpread:List Str:=["errand", "some", "most", "moves", "levels", "steps", "fresh", "one", "fitting", "move"]
theorem scSpread:FnScope nSpread Zh7 (Zab Zdx):=⟨rfl,rfl,rfl,by decide +kernel,rfl,by decide +kernel,by decide +kernel⟩
noncomputable abbrev Zgp:List Str:=["sets", "prices"]
noncomputable abbrev nDearest:List Str:=["sets", "prices"]
theorem scDearest:FnScope nDearest Zgp (Zab Zck):=⟨rfl,rfl,rfl,by decide +kernel,rfl,by decide +kernel,by decide +kernel⟩
noncomputable abbrev Ze6:List Str:=["moves", "prices"]
noncomputable abbrev nCheapest:List Str:=["moves", "prices", "sums"]
theorem scCheapest:FnScope nCheapest Ze6 (Zab Zb0):=⟨rfl,rfl,rfl,by decide +kernel,rfl,by decide +kernel,by decide +kernel⟩
noncomputable abbrev Zdk:List Str:=["errand", "moves", "prices"]
noncomputable abbrev nNextPrices:List Str:=["errand", "moves", "prices", "found", "one", "price"]
theorem scNextPrices:FnScope nNextPrices Zdk (Zab Zbg):=⟨rfl,rfl,rfl,by decide +kernel,rfl,by decide +kernel,by decide +kernel⟩
noncomputable abbrev Zkt:List Str:=["errand", "some", "most"]
noncomputable abbrev nLeast:List Str:=["errand", "some", "most", "moves", "prices", "steps"]
theorem scLeast:FnScope nLeast Zkt (Zab Zfu):=⟨rfl,rfl,rfl,by decide +kernel,rfl,by decide +kernel,by decide +kernel⟩
theorem ok_addsets {f:Addr}{fd:FuncData}(F:Fun K "add_sets" "add_sets" Zc2 f fd) (T:Bl mg) (MS:∃t,mg "MOST_SETS" = some (.int 200 t)):FnOk P w K mg base CX0 1 f fd Zgq spAddSets:=by
 obtain⟨tt,m1⟩:=MS
 refine F.ok scAddSets (λvs H Q E h=>?_) (λcdv A outer s H vs Q E hr0 h=>?_)
 ·obtain⟨d,b,m,kvs,ss,rfl,_⟩:=h
  rfl
 obtain⟨d,b,m,kvs,ss,rfl,hd,hb,m7,nd,key,lt,q⟩:=h
 have hu:=Zdr hr0
 have hsl:sizeLine=16777216:=sizeLine_eq
 refine⟨_,(Zad (Zas (i:=2) scAddSets.nd rfl (Or.inl rfl) (Zb6 Zae))
  (Zad (Zba PassesOwn.never rfl (Zaz (pv 1)) (Zao (i:=3) scAddSets.nd rfl (Or.inl rfl))
   (Zaf (Za4 (Zjc (Ze4 hu (pv 3) (pv 0))) (Zad (Zc7 hu (pv 0) (pv 3) (Zb6 Zae) rfl)
  (Zaf (Za1 (Zge PySem.F.plainAttrs_list PySem.F.slot_list_append PySem.F.type_list_append Zbi (pv 2) (Zaa (pv 3) Zae))))) Zar)))
  (Zad (Za4 (Zau Zm9 (Za0 call_lenD (by rfl) T.len PySem.boot_len (Zaa (pv 0) Zae)) (Zfg (v:=.int 200) (by rfl) m1 ⟨_,rfl⟩) (Zay _)) Zb1 Zar)
  (Zaf (Zan (pv 2)))))),?_⟩
 refine⟨zero_le _,λa ha=>?_⟩
 have da:d≠a:=Zag hd ha
 have ba:b≠a:=Zag hb ha
 have bd':b≠d:=Zb4 hb hd (by intro z; cases z)
 have s1:Same H (upd H a (.lst [])):=Same.new ha
 refine⟨_,rfl,b,rfl,⟨_,SqL.of (s1 _ _ hb)⟩,?_⟩
 refine Za5 (K:=K) (a:=b) (xs:=nV ss) (λi σ H2=>∃(v3:Option V) (kvs':List (Key×V)) (fs:List Nat),σ = [some (.ref d),some (.ref b),some (.ref a),v3]∧(∀c u,H c=some u→c≠d→H2 c=some u)∧H2 d=some (.dK kvs')∧H2 a=some (.lst (nV fs))∧Ad (rm (fwd H H2) [a]) m kvs kvs' (ss.take i) fs)
  ⟨none,kvs,[],rfl,λc u e _=>s1 _ _ e,s1 _ _ hd,Zac,nd,key,λx=>⟨.inl,λh=>h.elim id λz=>by rw[take_zero]at z; cases z⟩,λ_ _=>rfl,λx=>⟨λz=>(nomatch z),λz=>absurd z.1 z.2⟩,λx z=>(nomatch z),by rw[length_nil,Nat.zero_add]⟩ (λi σ H2 _ hh0=>by obtain⟨_,_,_,_,k,_⟩:=hh0; exact SqL.of (k _ _ hb bd')) ?_ ?_
 ·rintro i v σ H2 hv ⟨v3,kvs',fs,rfl,k2,d2,a2,ad⟩
  rw[getElem?_map]at hv
  obtain⟨x,hx,rfl⟩:=map_eq_some_iff.mp hv
  have hi:=(List.getElem?_eq_some_iff.mp hx).1
  have htk:ss.take (i + 1)=ss.take i ++ [x]:=by rw[take_succ_eq_append_getElem hi,(List.getElem?_eq_some_iff.mp hx).2]
  have hxs:=mem_of_getElem? hx
  have few:=Zgr m7 ad.nd ad.key
  rw[length_map]at few
  refine⟨_,rfl,_,rfl,d,_,rfl,DGet.k (k:=ki x) d2,⟨_,rfl,?_⟩⟩
  by_cases hin:In kvs' x
  ·refine ite2 (λz=>absurd hin (by unfold In; intro y; rw[y]at z; cases z)) (λ_=>?_)
   refine⟨_,kvs',fs,rfl,k2,d2,a2,ad.nd,ad.key,λy=>?_,ad.old,ad.fre,ad.new,ad.len⟩
   rw[ad.inn,htk,mem_append,mem_singleton]
   constructor
   ·rintro(h | h)
    ·exact .inl h
    exact .inr (.inl h)
   rintro(h | h | h)
   ·exact .inl h
   ·exact .inr h
   rw[h]
   exact(ad.inn x).mp hin
  have hno:=not_in hin
  refine ite2 (λ_=>?_) (λz=>absurd (by rw[hno]; rfl) z)
  refine⟨zero_le _,λl hl=>⟨_,rfl,_,rfl,d,_,rfl,DPut.k (k:=ki x) (by rw[Zaj (Zag d2 hl)]; exact d2) (by lia),?_⟩⟩
  have dl:d≠l:=Zag d2 hl
  have al:a≠l:=Zag a2 hl
  rw[Zc3 _ hno]
  have k3:∀c u,H2 c=some u→c≠d→(upd (upd H2 l (.lst [])) d (.dK (kvs' ++ [(ki x,.ref l)]))) c=some u:=λc u e n=>by rw[Zaj n,Zaj (Zag e hl)]; exact e
  have d3:(upd (upd H2 l (.lst [])) d (.dK (kvs' ++ [(ki x,.ref l)]))) d=some (.dK (kvs' ++ [(ki x,.ref l)])):=Zac
  have l3:(upd (upd H2 l (.lst [])) d (.dK (kvs' ++ [(ki x,.ref l)]))) l=some (.lst []):=by rw[Zaj dl.symm]; exact Zac
  generalize (upd (upd H2 l (.lst [])) d (.dK (kvs' ++ [(ki x,.ref l)])))=H3 at k3 d3 l3 ⊢
  have a3:=k3 _ _ a2 da.symm
  have fl:(nV fs).length=fs.length:=length_map ..
  have al':=ad.len
  refine⟨_,rfl,.inl ⟨rfl,_,SqL.of a3⟩,_,rfl,a,_,_,rfl,rfl,a3,by lia,?_⟩
  have vS:=λy=>Zgv (ki x) (ki y) (V.ref l) kvs' hno
  have inS:∀y,In (kvs' ++ [(ki x,V.ref l)]) y↔In kvs' y∨y=x:=λy=>by
   unfold In
   rw[vS]
   by_cases e:y=x
   ·rw[e,if_pos rfl]
    exact⟨λ_=>.inr rfl,λ_=>rfl⟩
   rw[if_neg λz=>e (Ze7 z)]
   exact⟨.inl,λh=>h.elim id λz=>absurd z e⟩
  have hxk:¬In kvs x:=λz=>hin ((ad.inn x).mpr (.inl z))
  refine⟨_,_,fs ++ [x],rfl,λc u e n=>?_,by rw[Zaj da]; exact d3,by rw[Zac,Zmf]; rfl,?_⟩
  ·have:c≠a:=Zag e ha
   rw[Zaj this]
   exact k3 c u (k2 c u e n) n
  have sm:Same (rm (fwd H H2) [a]) (rm (fwd H (upd H3 a (.lst (nV fs ++ [V.int (x:Int)])))) [a]):=λc u e=>by
   have hc:c∉[a]:=λz=>by rw[show rm (fwd H H2) [a] c=none from if_pos z]at e; cases e
   rw[Zbm hc]at e ⊢
   obtain⟨h0,h1⟩:=Zg8 e
   rw[Zb3 h0,Zaj (by simpa using hc)]
   exact k3 c u h1 λz=>by rw[z,hd]at h0; cases h0
  refine⟨?_,λk hk=>?_,λy=>?_,λy hy=>?_,λy=>?_,λy hy=>?_,by rw[length_append,length_append]; simp only[length_cons,length_nil]; lia⟩
  ·rw[map_append]
   exact Zil ad.nd (Zgh hno)
  ·rw[map_append,mem_append]at hk
   rcases hk with hk | hk
   ·exact ad.key k hk
   exact⟨x,mem_singleton.mp hk,lt x hxs⟩
  ·rw[inS,ad.inn,htk,mem_append,mem_singleton]
   exact or_assoc
  ·rw[vS,if_neg λz=>hxk (by rw[← Ze7 z]; exact hy)]
   exact ad.old y hy
  ·rw[inS,mem_append,mem_singleton,ad.fre]
   constructor
   ·rintro(⟨h1,h2⟩ | h)
    ·exact⟨.inl h1,h2⟩
    exact⟨.inr h,by rw[h]; exact hxk⟩
   rintro⟨h1 | h1,h2⟩
   ·exact .inl ⟨h1,h2⟩
   exact .inr h1
  rcases(mem_append.mp hy)with hy | hy
  ·obtain⟨l',hv',hl'⟩:=ad.new y hy
   refine⟨l',?_,sm _ _ hl'⟩
   rw[vS,if_neg λz=>hin (by rw[← Ze7 z]; exact((ad.fre y).mp hy).1)]
   exact hv'
  rw[mem_singleton.mp hy]
  refine⟨l,by rw[vS,if_pos rfl],?_⟩
  have hl0:H l=none:=by
   cases e:H l with
   | none=>rfl
   | some u=>rw[k2 l u e dl.symm]at hl; cases hl
  rw[Zbm (by simpa using al.symm),Zb3 hl0,Zaj al.symm]
  exact l3
 rintro σ H2 ⟨v3,kvs',fs,rfl,k2,d2,a2,ad⟩
 rw[show(nV ss).length=ss.length from length_map ..,take_length]at ad
 have few:=Zgr m7 ad.nd ad.key
 rw[length_map]at few
 refine⟨_,rfl,d,_,rfl,d2,_,_,rfl,rfl,⟨_,rfl,?_⟩⟩
 refine ite2 (λz=>absurd (of_decide_eq_true z) (by lia)) (λ_=>?_)
 try unfold tNext
 dsimp only
 refine⟨_,rfl,q a fs kvs' H2 k2 ha d2 a2 ⟨ad.nd,ad.key,ad.inn,ad.old,ad.fre,λx hx=>?_,ad.len⟩⟩
 obtain⟨l,hv,hl⟩:=ad.new x hx
 exact⟨l,hv,Zdj _ _ hl⟩
theorem ok_dearest {f:Addr}{fd:FuncData}(F:Fun K "dearest" "dearest" Zck f fd) (T:Bl mg):FnOk P w K mg base CX0 1 f fd Zgp spDearest:=by
 refine F.ok scDearest (λvs H Q E h=>?_) (λcdv A outer s H vs Q E hr0 h=>?_)
 ·obtain⟨b,p,ss,kvp,pr,rfl,_⟩:=h
  rfl
 obtain⟨b,p,ss,kvp,pr,rfl,hb,hp,hpr,ne,all',l3,q⟩:=h
 have hu:=Zdr hr0
 have hsl:sizeLine=16777216:=sizeLine_eq
 refine⟨_,(Zaf (Zan (Za0 (call_maxL rfl) (by rfl) T.max Znv (Zaa (Zdv (N:=["one", "prices"]) (sc:=Zab Zck) (own:=["one"]) (fr:=["prices"]) (js:=[1]) ⟨rfl,rfl,rfl,rfl,by decide +kernel,by decide +kernel,by decide +kernel,rfl,by decide +kernel⟩ rfl (Zaz (pv 0)) (λ_ _ _ _=>Zao (i:=0) (show List.Nodup (["one", "prices"]:List Str) by decide +kernel) rfl (Or.inl rfl)) (λ_ _ _ _=>Zbs) (λ_ _ _ _=>(Zd7 hu (pv 1) (pv 0) (λ_ _=>rfl)))) Zae)))),?_⟩
 refine⟨_,rfl,b,rfl,⟨_,SqL.of hb⟩,λD hD=>?_⟩
 have bl:(nV ss).length=ss.length:=length_map ..
 refine lcJ (n:=ss.length) (λi ys H2=>∃ns:List Int,ys=ns.map V.int∧(ss.take i).map pr=ns.map some∧Same H H2∧H2 D=some (.lst ys))
  ⟨[],rfl,by rw[take_zero]; rfl,Same.new hD,Zac⟩ (λi ys H2 hi ⟨_,_,_,s2,_⟩=>⟨_,(nV ss)[i]'(by lia),SqL.of (s2 _ _ hb),getElem?_eq_getElem (by lia)⟩) (λys H2 hh0=>by obtain⟨_,_,_,s2,_⟩:=hh0; exact⟨_,SqL.of (s2 _ _ hb),by lia⟩) ?_ ?_
 ·rintro i ys H2 v H3 hi ⟨ns,rfl,en,s2,e2⟩ ⟨rfl,hy⟩
  have hv:=hy _ (SqL.of (s2 _ _ hb))
  rw[getElem?_map]at hv
  obtain⟨x,hx,rfl⟩:=map_eq_some_iff.mp hv
  have htk:ss.take (i + 1)=ss.take i ++ [x]:=by rw[take_succ_eq_append_getElem hi,(List.getElem?_eq_some_iff.mp hx).2]
  obtain⟨c,hc⟩:=isSome_iff_exists.mp (all' x (mem_of_getElem? hx))
  have nl:=congrArg List.length en
  rw[length_map,length_map,length_take]at nl
  have vx:valV kvp (ki x)=some (.int c):=by rw[hpr x,hc]; rfl
  refine Zce ?_
  refine⟨_,rfl,_,rfl,p,.int c,rfl,by rw[← vx]; exact DGet.k (k:=ki x) (s2 _ _ hp),?_⟩
  refine⟨_,e2,by rw[length_map]; lia,ns ++ [c],by rw[map_append]; rfl,?_,s2.put hD,Zac⟩
  rw[htk,map_append,map_append,en,map_cons,map_nil,hc]
  rfl
 rintro ys H2 ⟨ns,rfl,en,s2,e2⟩
 rw[take_length]at en
 have nl:=congrArg List.length en
 rw[length_map,length_map]at nl
 have n0:0 < ns.length:=by
  have:=List.length_pos_iff.mpr ne
  lia
 refine⟨D,ns,rfl,SqL.of e2,n0,λM hM hmax=>?_⟩
 refine q M H2 s2 ⟨?_,λy hy=>?_⟩
 ·have:some M∈ss.map pr:=by rw[en]; exact mem_map.mpr ⟨M,hM,rfl⟩
  obtain⟨y,hy,e⟩:=mem_map.mp this
  exact⟨y,hy,e⟩
 have:pr y∈ns.map some:=by rw[← en]; exact mem_map.mpr ⟨y,hy,rfl⟩
 obtain⟨c,hc,e⟩:=mem_map.mp this
 exact⟨c,e.symm,hmax c hc⟩
theorem ok_cheapest {f f1:Addr}{fd d1:FuncData}(F:Fun K "cheapest" "cheapest" Zb0 f fd) (T:Bl mg) (D_dearest:Df K mg "dearest" Zck Zgp f1 d1) (G_dearest:FnOk P w K mg base CX0 1 f1 d1 Zgp spDearest):FnOk P w K mg base CX0 2 f fd Ze6 spCheapest:=by
 refine F.ok scCheapest (λvs H Q E h=>?_) (λcdv A outer s H vs Q E hr1 h=>?_)
 ·obtain⟨l,p,ms,kvp,pr,rfl,_⟩:=h
  rfl
 obtain⟨l,p,ms,kvp,pr,rfl,⟨vs,hl,ha⟩,hp,hpr,ne,l80,q⟩:=h
 have hu:=Zdr hr1
 have hsl:sizeLine=16777216:=sizeLine_eq
 refine⟨_,(Zad (Zm5 (i:=2) (N:=["price", "sets", "prices"]) (sc:=Zab Zb0) (own:=["price", "sets"]) (fr:=["prices"]) (js:=[1]) scCheapest.nd rfl rfl ⟨rfl,rfl,rfl,rfl,by decide +kernel,by decide +kernel,by decide +kernel,rfl,by decide +kernel⟩ rfl (Zaz (pv 0)) (λ_ _ _ _=>Zmm K rfl (Zf4 (n:=2) rfl (Za9 (Zao (i:=0) (show List.Nodup (["price", "sets", "prices"]:List Str) by decide +kernel) rfl (Or.inl rfl)) (Za9 (Zao (i:=1) (show List.Nodup (["price", "sets", "prices"]:List Str) by decide +kernel) rfl (Or.inl rfl)) Zd6)))) (λ_ _ _ _=>Zet (Zcs (Za0 (call_allK K rfl rfl) (by rfl) T.all Znw (Zaa (Zdv (N:=["one", "prices"]) (sc:=_) (own:=["one"]) (fr:=["prices"]) (js:=[2]) ⟨rfl,rfl,rfl,rfl,by decide +kernel,lc_free1 (x := "prices") (by decide +kernel) (by rfl),by decide +kernel,rfl,λ_ h=>by cases mem_singleton.mp h; exact⟨by rfl,by decide +kernel⟩⟩ rfl (Zkl K rfl (pv 1)) (λ_ _ _ _=>Zao (i:=0) (show List.Nodup (["one", "prices"]:List Str) by decide +kernel) rfl (Or.inl rfl)) (λ_ _ _ _=>Zbs) (λ_ _ _ _=>(pe_cmp (Znn hu (pv 0) (pv 1))))) Zae)))) (λ_ _ _ _=>(Zaw Zb2 (pv 0) (Zai G_dearest hr1 (by rfl) D_dearest.m D_dearest.F.kp D_dearest.b .nil Zap (Zaa (pv 1) (Zaa (pv 2) Zae))))))
  (Zaf (Zan (pe_minD rfl (by rfl) T.min bt_min (Zaa (pv 2) Zae))))),?_⟩
 refine⟨_,rfl,l,rfl,⟨_,SqL.of hl⟩,λD hD=>?_⟩
 have vl:=ha.len
 refine lcJ2 (K:=K) (n:=vs.length) (λi ys H2=>∃ns:List Int,ys=ns.map V.int∧ns.length≤i∧(∀n∈ns,∃q∈ms.take i,∃M,Ds pr q.2 M∧n=q.1 + M)∧(∀q∈ms.take i,∀M,Ds pr q.2 M→∃n∈ns,n≤q.1 + M)∧Same H H2∧H2 D=some (.lst ys))
  ⟨[],rfl,Nat.le_refl _,λn h=>(nomatch h),λq h=>(by rw[take_zero]at h; cases h),Same.new hD,Zac⟩ (λi ys H2 hi ⟨_,_,_,_,_,s2,_⟩=>⟨_,vs[i],SqL.of (s2 _ _ hl),getElem?_eq_getElem hi⟩) (λys H2 hh0=>by obtain⟨_,_,_,_,_,s2,_⟩:=hh0; exact⟨_,SqL.of (s2 _ _ hl),Nat.le_refl _⟩) ?_ ?_
 ·rintro i ys H2 v H3 hi ⟨ns,rfl,nl,c1,c2,s2,e2⟩ ⟨rfl,hy⟩
  have hv:=hy _ (SqL.of (s2 _ _ hl))
  obtain⟨mo,hmo,hmem,t,b,rfl,ht,hb⟩:=ha.at hv
  have him:=(List.getElem?_eq_some_iff.mp hmo).1
  have htk:ms.take (i + 1)=ms.take i ++ [mo]:=by rw[take_succ_eq_append_getElem him,(List.getElem?_eq_some_iff.mp hmo).2]
  obtain⟨ne1,l3⟩:=ne mo hmem
  refine⟨t,_,_,rfl,SqT.of (s2 _ _ ht),?_⟩
  have bl:(nV mo.2).length=mo.2.length:=length_map ..
  have hb3:=s2 _ _ hb
  refine⟨_,rfl,b,rfl,⟨_,SqL.of hb3⟩,λD2 hD2=>?_⟩
  refine lcJ (n:=mo.2.length) (λi ys H4=>ys=((mo.2.take i).map λy=>(pr y).isSome).map V.bl∧Same H3 H4∧H4 D2=some (.lst ys))
   ⟨by rw[take_zero]; rfl,Same.new hD2,Zac⟩ (λi ys H4 hi ⟨_,s4,_⟩=>⟨_,(nV mo.2)[i]'(by lia),SqL.of (s4 _ _ hb3),getElem?_eq_getElem (by lia)⟩) (λys H4 hh0=>by obtain⟨_,s4,_⟩:=hh0; exact⟨_,SqL.of (s4 _ _ hb3),by lia⟩) ?_ ?_
  ·rintro i ys H4 v H5 hi' ⟨rfl,s4,e4⟩ ⟨rfl,hy⟩
   have hv:=hy _ (SqL.of (s4 _ _ hb3))
   rw[getElem?_map]at hv
   obtain⟨x,hx,rfl⟩:=map_eq_some_iff.mp hv
   have htk2:mo.2.take (i + 1)=mo.2.take i ++ [x]:=by rw[take_succ_eq_append_getElem hi',(List.getElem?_eq_some_iff.mp hx).2]
   refine Zce ?_
   refine⟨_,rfl,_,rfl,p,_,rfl,DGet.k (k:=ki x) (s4 _ _ (s2 _ _ hp)),?_⟩
   refine⟨_,e4,by rw[length_map,length_map,length_take]; lia,?_,s4.put hD2,Zac⟩
   rw[htk2,map_append,map_append,hpr x,isSome_map]
   rfl
  rintro ys H4 ⟨rfl,s4,e4⟩
  rw[take_length]at e4
  refine⟨D2,_,rfl,SqL.of e4,⟨_,rfl,?_⟩⟩
  have s24:=s2.trans s4
  rw[List.all_map]
  by_cases al:∀y∈mo.2,(pr y).isSome=true
  ·refine ite2 (λ_=>?_) (λz=>absurd (all_eq_true.mpr λy hy=>al y hy) z)
   refine⟨_,rfl,_,rfl,_,rfl,b,p,mo.2,kvp,pr,rfl,s4 _ _ hb3,s24 _ _ hp,hpr,ne1,al,l3,λM H5 s5 hM=>⟨_,_,rfl,rfl,?_⟩⟩
   refine⟨_,s5 _ _ (s4 _ _ e2),by rw[length_map]; lia,ns ++ [mo.1 + M],by rw[map_append]; rfl,by rw[length_append]; exact add_le_add_right nl 1,λn hn=>?_,λq hq M' hM'=>?_,(s24.trans s5).put hD,Zac⟩
   ·rw[htk]
    rcases(mem_append.mp hn)with hn | hn
    ·obtain⟨q,hq,r⟩:=c1 n hn
     exact⟨q,mem_append_left _ hq,r⟩
    exact⟨mo,mem_append_right _ (mem_singleton.mpr rfl),M,hM,mem_singleton.mp hn⟩
   rw[htk]at hq
   rcases(mem_append.mp hq)with hq | hq
   ·obtain⟨n,hn,r⟩:=c2 q hq M' hM'
    exact⟨n,mem_append_left _ hn,r⟩
   rw[mem_singleton.mp hq]at hM' ⊢
   refine⟨_,mem_append_right _ (mem_singleton.mpr rfl),?_⟩
   obtain⟨y,hy,ey⟩:=hM.1
   obtain⟨c,ec,lc⟩:=hM'.2 y hy
   rw[ey]at ec
   cases ec
   lia
  refine ite2 (λz=>absurd (λy hy=>all_eq_true.mp z y hy) al) (λ_=>?_)
  refine⟨ns,rfl,le_succ_of_le nl,λn hn=>?_,λq hq M' hM'=>?_,s24,s4 _ _ e2⟩
  ·obtain⟨q,hq,r⟩:=c1 n hn
   exact⟨q,by rw[htk]; exact mem_append_left _ hq,r⟩
  rw[htk]at hq
  rcases(mem_append.mp hq)with hq | hq
  ·exact c2 q hq M' hM'
  rw[mem_singleton.mp hq]at hM'
  refine absurd (λy hy=>?_) al
  obtain⟨c,ec,_⟩:=hM'.2 y hy
  rw[ec]
  rfl
 rintro ys H2 ⟨ns,rfl,nl,c1,c2,s2,e2⟩
 rw[vl,take_length]at c1 c2
 refine⟨_,rfl,D,ns,rfl,SqL.of e2,?_⟩
 by_cases n0:ns=[]
 ·refine .inl ⟨n0,q none H2 s2 (.no λc hp0=>?_)⟩
  obtain⟨q',hq,M,hM,_⟩:=hp0
  obtain⟨n,hn,_⟩:=c2 q' hq M hM
  rw[n0]at hn
  cases hn
 refine .inr ⟨n0,λM hM least'=>q (some M) H2 s2 (.yes M ?_ λc ⟨q',hq,M',hM',le⟩=>?_)⟩
 ·obtain⟨q',hq,M',hM',e⟩:=c1 M hM
  exact⟨q',hq,M',hM',by lia⟩
 obtain⟨n,hn,ln⟩:=c2 q' hq M' hM'
 have:=least' n hn
 lia
theorem ok_nextprices {f CE C f1 f2 f3:Addr}{fd d1 d2 d3:FuncData}(F:Fun K "next_prices" "next_prices" Zbg f fd) (LE:ClE K CE) (D_within:Df K mg "within" Zcf Zcg f1 d1) (G_within:FnOk P w K mg base CX0 1 f1 d1 Zcg spIn)
  (b_goal:Binds K d2 ["self"] []) (m_goal:Meth K CE "goal" f2) (G_goal:FnOk P w K mg base CX0 1 f2 d2 Zdm (spErGoal CE C)) (D_cheapest:Df K mg "cheapest" Zb0 Ze6 f3 d3) (G_cheapest:FnOk P w K mg base CX0 2 f3 d3 Ze6 spCheapest):FnOk P w K mg base CX0 3 f fd Zdk (spNextPrices CE C):=by
 refine F.ok scNextPrices (λvs H Q E h=>?_) (λcdv A outer s H vs Q E hr2 h=>?_)
 ·obtain⟨x,d,p,m,e,kvs,kvp,mf,pr,rfl,_⟩:=h
  rfl
 obtain⟨x,d,p,m,e,kvs,kvp,mf,pr,rfl,R,m7,hd,dm,hp,pd,hpr,q⟩:=h
 have hr1:Room 1 _:=hr2.mono (by decide)
 have hu:=Zdr hr2
 have hsl:sizeLine=16777216:=sizeLine_eq
 have few:=dm.few m7
 refine⟨_,(Zad (Zas (i:=3) scNextPrices.nd rfl (Or.inl rfl) Zc5)
  (Zad (Zba PassesOwn.never rfl (pi_keysR (pv 1)) (Zao (i:=4) scNextPrices.nd rfl (Or.inl rfl))
   (Zad (Zas (i:=5) scNextPrices.nd rfl (Or.inl rfl) (Zgj (Zcs (Zai G_within hr1 (by rfl) D_within.m D_within.F.kp D_within.b .nil Zap (Zaa (pv 4) (Zaa (Zc4 (pv 0) LE.cl m_goal G_goal hr1 b_goal .nil Zap) Zae)))) Zah (Zai G_cheapest hr2 (by rfl) D_cheapest.m D_cheapest.F.kp D_cheapest.b .nil Zap (Zaa (Zd7 hu (pv 1) (pv 4) (λ_ _=>rfl)) (Zaa (pv 2) Zae)))))
  (Zaf (Za4 (Zau Zj6 (pv 5) Zf6 (Zay _)) (Zaf (Zc7 hu (pv 3) (pv 4) (pv 5) rfl)) Zar))))
  (Zaf (Zan (pv 3))))),?_⟩
 intro p' hp'
 have dsome:H d≠none:=λz=>by
  rcases hd with h | ⟨o,h⟩
  ·rw[h]at z; cases z
  rw[h]at z; cases z
 have dp':d≠p':=λz=>dsome (by rw[z]; exact hp')
 have s1:Same H (upd H p' (.dK [])):=Same.new hp'
 have e1:(upd H p' (.dK [])) p'=some (.dK []):=Zac
 have hd1:Rd (upd H p' (.dK [])) d (.dK kvs):=by
  rcases hd with h | ⟨o,h⟩
  ·exact .inl (s1 _ _ h)
  exact .inr ⟨o,s1 _ _ h⟩
 generalize (upd H p' (.dK []))=H1 at s1 e1 hd1 ⊢
 refine for_keysRG (i:=1) rfl hd1 (λo i σ H3=>∃(v4 v5:Option V) (kvp':List (Key×V)) (pr':Nat→Option Int),σ = [some (.ref x),some (.ref d),some (.ref p),some (.ref p'),v4,v5]∧(∀c u,H c=some u→c≠d→H3 c=some u)∧H3 d=some (.frz o (.dK kvs))∧H3 p'=some (.dK kvp')∧Pr kvp' pr'∧NxI e kvs mf pr pr' i∧kvp'.length≤i)
  (λo H2 k2 d2=>⟨none,none,[],λ_=>none,rfl,λc u z n=>k2 c u (s1 _ _ z) n,d2,k2 _ _ e1 dp'.symm,λx=>rfl,⟨λx hx=>(by rw[take_zero]at hx; cases hx),λ_ _=>rfl⟩,Nat.le_refl _⟩) (λo i σ H3 _ hh0=>by obtain⟨_,_,_,_,_,_,z,_⟩:=hh0; exact z) ?_ ?_
 ·rintro o i k v σ H3 hkv ⟨v4,v5,kvp',pr',rfl,k3,d3,p3,hpr',nx,len⟩
  have hil:=(List.getElem?_eq_some_iff.mp hkv).1
  obtain⟨y,rfl,hy⟩:=dm.key k (mem_map.mpr ⟨_,mem_of_getElem? hkv,rfl⟩)
  have hin:In kvs y:=Zml (mem_map.mpr ⟨_,mem_of_getElem? hkv,rfl⟩)
  obtain⟨⟨l,hv,hm⟩,ne,l80⟩:=dm.val y hin
  have R3:=R.same (rm_k (H':=H3) λc u z n=>k3 c u z (by simpa using n))
  have R3':=R3.same Zdj
  obtain⟨dx,c0,hx,hc0⟩:=R3'
  have p3':=k3 _ _ hp pd
  have hpp:p≠p':=Zag hp hp'
  refine⟨_,rfl,_,rfl,x,dx,_,rfl,hx,Zlr (by decide +kernel),x,m,e,rfl,R3.same Zdj,_,_,rfl,⟨_,rfl,?_⟩⟩
  rw[Zna]
  by_cases g:Sb y e.g
  ·refine ite2 (λ_=>?_) (λz=>absurd (decide_eq_true g) z)
   refine⟨_,rfl,rfl,⟨_,rfl,?_⟩⟩
   refine iteT ?_
   refine⟨_,rfl,_,rfl,_,rfl,p',_,rfl,DPut.k (k:=ki y) p3 (by lia),?_⟩
   refine⟨_,_,_,_,rfl,λc u z n=>?_,by rw[Zaj dp']; exact d3,Zac,hpr'.put y 0,nx.step hkv (λ_=>rfl) (λz=>absurd g z),le_trans (Zcv _ _ _) (add_le_add_right len 1)⟩
   rw[Zaj (Zag z hp')]
   exact k3 c u z n
  refine ite2 (λz=>absurd (of_decide_eq_true z) g) (λ_=>?_)
  have hlH:rm H [d] l≠none:=by
   obtain⟨vs,hl,_⟩:=hm
   intro z
   rw[hl]at z
   cases z
  have gd:DGet H3 d (kV (ki y)) (some (.ref l)):=.inl ⟨kvs,ki y,.inr ⟨o,d3⟩,rfl,hv.symm⟩
  refine⟨_,rfl,_,rfl,d,.ref l,rfl,gd,_,rfl,l,p,mf y,kvp,pr,rfl,hm.same ((rm_k (H':=H3) λc u z n=>k3 c u z (by simpa using n)).trans Zdj),p3',hpr,λq hq=>⟨(ne q hq).1,(ne q hq).2.1⟩,l80,λu H4 s4 hu'=>?_⟩
  have k4:∀c v,H c=some v→c≠d→H4 c=some v:=λc v z n=>s4 _ _ (k3 c v z n)
  have st:=nx.step hkv (u:=u) (λz=>absurd z g) (λ_=>hu')
  cases u with
  | none=>
   refine⟨_,rfl,rfl,⟨_,rfl,?_⟩⟩
   refine iteF ?_
   rw[nx.skip dm.nd hkv]at st
   exact⟨_,_,kvp',pr',rfl,k4,s4 _ _ d3,s4 _ _ p3,hpr',st,le_succ_of_le len⟩
  | some c=>
   refine⟨_,rfl,rfl,⟨_,rfl,?_⟩⟩
   refine iteT ?_
   refine⟨_,rfl,_,rfl,_,rfl,p',_,rfl,DPut.k (k:=ki y) (s4 _ _ p3) (by lia),?_⟩
   refine⟨_,_,_,_,rfl,λc u z n=>?_,by rw[Zaj dp']; exact s4 _ _ d3,Zac,hpr'.put y c,st,le_trans (Zcv _ _ _) (add_le_add_right len 1)⟩
   rw[Zaj (Zag z hp')]
   exact k4 _ _ z n
 rintro o σ H3 ⟨v4,v5,kvp',pr',rfl,k3,d3,p3,hpr',nx,len⟩
 have i1:=nx.inn
 have i2:=nx.out
 rw[take_length]at i1 i2
 exact⟨_,rfl,q p' kvp' pr' o H3 k3 d3 hp' p3 hpr' ⟨λx hx=>(i1 x hx.key).1,λx hx=>(i1 x hx.key).2⟩ λx hx=>i2 x λz=>hx (Zml z)⟩
theorem ok_spread {f CE C f1 f2 f3 f4:Addr}{fd d1 d2 d3 d4:FuncData}(F:Fun K "spread" "spread" Zdx f fd) (LE:ClE K CE) (T:Bl mg) (D_within:Df K mg "within" Zcf Zcg f1 d1) (G_within:FnOk P w K mg base CX0 1 f1 d1 Zcg spIn)
  (b_keep:Binds K d2 ["self"] []) (m_keep:Meth K CE "keep" f2) (G_keep:FnOk P w K mg base CX0 1 f2 d2 Zdl (spErKeep CE C)) (D_add_sets:Df K mg "add_sets" Zc2 Zgq f3 d3) (G_add_sets:FnOk P w K mg base CX0 1 f3 d3 Zgq spAddSets)
  (D_moves_of:Df K mg "moves_of" Zc0 Zgm f4 d4) (G_moves_of:FnOk P w K mg base CX0 7 f4 d4 Zgm (spMovesOf CE C)):FnOk P w K mg base CX0 8 f fd Zh7 (spSpread CE C):=by
 refine F.ok scSpread (λvs H Q E h=>?_) (λcdv A outer s0 H vs Q E hr7 h=>?_)
 ·obtain⟨x,m,e,as,s,most,rfl,_⟩:=h
  rfl
 obtain⟨x,m,e,as,s,most,rfl,R,ok,hs,m9,q⟩:=h
 have hr1:Room 1 _:=hr7.mono (by decide)
 have hu:=Zdr hr7
 have hsl:sizeLine=16777216:=sizeLine_eq
 have R0:=R
 obtain⟨dx,c0,hx,hc0⟩:=R
 have m7:=ok.m7
 refine⟨_,(Zad (Zas (i:=3) scSpread.nd rfl (Or.inl rfl) Zc5)
  (Zad (Zas (i:=4) scSpread.nd rfl (Or.inl rfl) (Zb6 (Zaa (Zgj (Zcs (Zai G_within hr1 (by rfl) D_within.m D_within.F.kp D_within.b .nil Zap (Zaa (pv 1) (Zaa (Zc4 (pv 0) LE.cl m_keep G_keep hr1 b_keep .nil Zap) Zae)))) (Zb6 (Zaa (pv 1) Zae)) (Zb6 Zae)) Zae)))
  (Zad (Za1 (Zai G_add_sets hr1 (by rfl) D_add_sets.m D_add_sets.F.kp D_add_sets.b .nil Zap (Zaa (pv 3) (Zaa (Za3 Zch (pv 4) Zah (λ_ _=>rfl)) Zae))))
  (Zad (Zba PassesOwn.never rfl (Zbo (by rfl) T.range (Zaa (pv 2) Zae)) (Zao (i:=5) scSpread.nd rfl (Or.inl rfl))
   (Zad (Zas (i:=6) scSpread.nd rfl (Or.inl rfl) (Zb6 Zae))
  (Zad (Zba PassesOwn.never rfl (Zaz (Za3 Zch (pv 4) (Zl9 Zi5 Zah) (λ_ _=>rfl))) (Zao (i:=7) scSpread.nd rfl (Or.inl rfl))
   (Zad (Zas (i:=8) scSpread.nd rfl (Or.inl rfl) (Zai G_moves_of hr7 (by rfl) D_moves_of.m D_moves_of.F.kp D_moves_of.b .nil Zap (Zaa (pv 0) (Zaa (pv 7) Zae))))
  (Zad (Zc7 hu (pv 3) (pv 7) (pv 8) rfl)
  (Zaf (Zba PassesOwn.never rfl (Zaz (pv 8)) (Zao (i:=9) scSpread.nd rfl (Or.inl rfl))
   (Zaf (Za1 (Zge PySem.F.plainAttrs_list PySem.F.slot_list_extend PySem.F.type_list_extend mt_extend (pv 6) (Zaa (Zai G_add_sets hr1 (by rfl) D_add_sets.m D_add_sets.F.kp D_add_sets.b .nil Zap (Zaa (pv 3) (Zaa (Za3 Za6 (pv 9) Zah (λ_ _=>rfl)) Zae))) Zae)))))))))
  (Zaf (Za1 (Zge PySem.F.plainAttrs_list PySem.F.slot_list_append PySem.F.type_list_append Zbi (pv 4) (Zaa (pv 6) Zae)))))))
  (Zaf (Zan (Zct (Zaa (pv 4) (Zaa (pv 3) Zae))))))))),?_⟩
 intro d hd
 have s1:Same H (upd H d (.dK [])):=Same.new hd
 have e1:(upd H d (.dK [])) d=some (.dK []):=Zac
 generalize (upd H d (.dK []))=H1 at s1 e1 ⊢
 dsimp only
 refine Zhy (λσ' H'=>∃(lv c:Addr) (fl:List Nat),σ'=[some (.ref x),some (.int (s:Int)),some (.int (most:Int)),some (.ref d),some (.ref lv),none,none,none,none,none]∧Same H1 H'∧H1 lv=none∧H1 c=none∧c≠lv∧H' lv=some (.lst [.ref c])∧H' c=some (.lst (nV fl))∧(∀y,y∈fl↔y=s∧Sb s e.k)) ?_ (λN hN=>?_)
 ·rintro σ H2 ⟨lv,c,fl,rfl,s2,hlv,hc,cl,elv,ec,hfl⟩
  have dlv:d≠lv:=Zag e1 hlv
  have dc:d≠c:=Zag e1 hc
  have a0:∀u:V,atI [u] ((0:Nat):Int)=some u:=λ_=>Zav rfl
  refine⟨_,rfl,_,rfl,lv,_,_,_,rfl,rfl,SqL.of elv,a0 _,d,c,m,[],fl,rfl,s2 _ _ e1,ec,m7,nodup_nil,λk hk=>(nomatch hk),λy hy=>?_,λa fs kvs H3 k3 ha d3 a3 ad=>?_⟩
  ·rw[((hfl y).mp hy).1]
   exact hs
  have no0:∀y,¬In [] y:=λy z=>by cases z
  have ss0:SS e m (rm H2 [d,lv]) [] (λ_=>[]) (λ_=>0) (λ_=>False):=⟨⟨nodup_nil,λk hk=>(nomatch hk),λy hy=>absurd hy (no0 y)⟩,λy hy=>absurd hy (no0 y)⟩
  have k3':∀c u,H2 c=some u→c∉[d,lv]→H3 c=some u:=λc u z n=>k3 c u z λz'=>n (by rw[z']; simp)
  have sf:Same (fwd H2 H3) (rm H3 [d,lv]):=Zmp λc hc=>by
   rcases(mem_cons.mp hc)with rfl | hc
   ·rw[s2 _ _ e1]; simp
   rw[mem_singleton.mp hc,elv]; simp
  have ad':Ad (rm H3 [d,lv]) m [] kvs fl fs:=⟨ad.nd,ad.key,ad.inn,ad.old,ad.fre,λy hy=>by
   obtain⟨l,h1,h2⟩:=ad.new y hy
   exact⟨l,h1,sf _ _ h2⟩,ad.len⟩
  have ss1:=(ss0.add (j:=0) (rm_k k3') ad').imp (Pd':=(·∈fl)) λy hy hp=>by
   rcases hp with hp | hp
   ·exact hp.elim
   exact .inr (((ad.inn y).mp hy).elim (λz=>absurd z (no0 y)) id)
  have sHH:Same H H3:=λc u z=>k3 c u (s2 _ _ (s1 _ _ z)) (Zag z hd)
  have lvs1:∀y,lvA [] (λ_=>0) 0 y=0:=λy=>Zmh (no0 y)
  refine⟨_,rfl,(most:Int),rfl,by lia,by lia,?_⟩
  refine Ze9 (lo:=0) (n:=most) (λj σ H4=>∃(v5 v6 v7 v8 v9:Option V) (kvs:List (Key×V)) (mf:Nat→List (Int×List Nat)) (Lf:Nat→Nat) (lvs:List V) (cur:Addr) (fl:List Nat),σ = [some (.ref x),some (.int (s:Int)),some (.int (most:Int)),some (.ref d),some (.ref lv),v5,v6,v7,v8,v9]∧Same H H4∧H4 d=some (.dK kvs)∧H4 lv=some (.lst (lvs ++ [.ref cur]))∧lvs.length≤j∧rm H4 [d,lv] cur=some (.lst (nV fl))∧SS e m (rm H4 [d,lv]) kvs mf Lf (·∈fl) ∧
    (∀y∈fl,In kvs y∧Lf y=j)∧(∀y,In kvs y→Lf y≤j)∧(Sb s e.k→In kvs s∧Lf s=0)∧(¬Sb s e.k→kvs=[]∧fl=[]))
   ⟨none,none,none,none,none,kvs,_,_,[],c,fl,rfl,sHH,d3,k3 _ _ elv dlv.symm,Nat.le_refl _,?_,ss1,λy hy=>⟨(ad.inn y).mpr (.inr hy),lvs1 y⟩,λy hy=>le_of_eq (lvs1 y),λsb=>⟨(ad.inn s).mpr (.inr ((hfl s).mpr ⟨rfl,sb⟩)),lvs1 s⟩,λns=>?_⟩ ?_ ?_
  ·rw[Zbm (by simp only[mem_cons,not_mem_nil,or_false,not_or]; exact⟨dc.symm,cl⟩)]
   exact k3 _ _ ec dc.symm
  ·have fl0:fl=[]:=List.eq_nil_iff_forall_not_mem.mpr λy hy=>ns ((hfl y).mp hy).2
   refine⟨?_,fl0⟩
   cases kvs with
   | nil=>rfl
   | cons kv r=>
    obtain⟨y,ey,_⟩:=ad.key kv.1 mem_cons_self
    have:In (kv :: r) y:=Zml (by rw[← ey]; exact mem_cons_self)
    rw[ad.inn,fl0]at this
    exact this.elim (λz=>absurd z (no0 y)) λz=>(nomatch z)
  ·rintro j σ H4 hj ⟨v5,v6,v7,v8,v9,kvs,mf,Lf,lvs,cur,fl,rfl,sH,d4,lv4,ll,c4,SS4,hfl4,top4,sc,ns⟩
   have hlv0:H lv=none:=s1.free hlv
   have dlv4:d≠lv:=dlv
   refine⟨zero_le _,λfr hfr=>?_⟩
   have dfr:d≠fr:=Zag d4 hfr
   have lvfr:lv≠fr:=Zag lv4 hfr
   have hfr0:H fr=none:=sH.free hfr
   have s5:Same H4 (upd H4 fr (.lst [])):=Same.new hfr
   have fr5:(upd H4 fr (.lst [])) fr=some (.lst []):=Zac
   generalize (upd H4 fr (.lst []))=H5 at s5 fr5 ⊢
   have c4':=Zdj _ _ c4
   have cfr:cur≠fr:=Zag c4' hfr
   have cdl:cur∉[d,lv]:=Zn1 c4
   have up:∀{G:Hp},Same H4 G→Same (rm H4 [d,lv]) (rm G [d,lv,fr]):=λ{G} z c u e=>by
    have hc:=Zn1 e
    rw[Zbm hc]at e
    have cf:c≠fr:=Zag e hfr
    rw[Zbm (by simp only[mem_cons,not_mem_nil,or_false,not_or]at hc ⊢; exact⟨hc.1,hc.2,cf⟩)]
    exact z _ _ e
   refine⟨_,rfl,_,rfl,lv,_,_,_,rfl,rfl,SqL.of (s5 _ _ lv4),atI_last _ _,cur,rfl,⟨_,SqL.of (s5 _ _ c4')⟩,?_⟩
   refine Za5 (K:=K) (a:=cur) (xs:=nV fl) (λi σ H6=>∃(v7 v8 v9:Option V) (kvs:List (Key×V)) (mf:Nat→List (Int×List Nat)) (Lf:Nat→Nat) (fs:List Nat),σ = [some (.ref x),some (.int (s:Int)),some (.int (most:Int)),some (.ref d),some (.ref lv),some (.int (0 + (j:Int))),some (.ref fr),v7,v8,v9]∧Same H H6∧H6 d=some (.dK kvs)∧H6 lv=some (.lst (lvs ++ [.ref cur]))∧H6 fr=some (.lst (nV fs))∧rm H6 [d,lv,fr] cur=some (.lst (nV fl))∧SS e m (rm H6 [d,lv,fr]) kvs mf Lf (λy=>y∈fl.drop i∨y∈fs) ∧
     (∀y∈fl,In kvs y∧Lf y=j)∧(∀y∈fs,In kvs y∧Lf y=j + 1)∧(∀y,In kvs y→Lf y≤j + 1)∧(Sb s e.k→In kvs s∧Lf s=0)∧(¬Sb s e.k→kvs=[])∧fs.length≤kvs.length)
    ⟨v7,v8,v9,kvs,mf,Lf,[],rfl,sH.trans s5,s5 _ _ d4,s5 _ _ lv4,fr5,up s5 _ _ c4,(SS4.same (up s5)).imp (λy _ h=>.inr (.inl h)),hfl4,λy hy=>(nomatch hy),λy hy=>le_succ_of_le (top4 y hy),sc,λz=>(ns z).1,zero_le _⟩ (λi σ H6 _ hh0=>by obtain⟨_,_,_,_,_,_,_,_,_,_,_,_,z,_⟩:=hh0; exact SqL.of (Zdj _ _ z)) ?_ ?_
   ·rintro i v σ H6 hv ⟨v7,v8,v9,kvs,mf,Lf,fs,rfl,sH6,d6,lv6,fr6,c6,SS6,hfl6,hfs6,top6,sc6,ns6,len6⟩
    rw[getElem?_map]at hv
    obtain⟨y0,hy0,rfl⟩:=map_eq_some_iff.mp hv
    have hi:=(List.getElem?_eq_some_iff.mp hy0).1
    have hdr:fl.drop i=y0 :: fl.drop (i + 1):=by rw[List.drop_eq_getElem_cons hi,(List.getElem?_eq_some_iff.mp hy0).2]
    have y0m:=mem_of_getElem? hy0
    obtain⟨in0,lf0⟩:=hfl6 y0 y0m
    have lt0:=SS6.dm.lt in0
    have few6:=SS6.dm.few m7
    have sb:Sb s e.k:=Decidable.byContradiction λz=>by
     rw[(ns z).2]at y0m
     cases y0m
    refine⟨_,rfl,_,rfl,x,m,e,as,y0,rfl,R0.same sH6,ok,lt0,λl ms H7 s7 hl7 mo7 mv7 l80=>?_⟩
    have rm3:∀c∈[d,lv,fr],H6 c≠none:=λc hc=>by
     simp only[mem_cons,not_mem_nil,or_false]at hc
     rcases hc with rfl | rfl | rfl
     ·rw[d6]; simp
     ·rw[lv6]; simp
     rw[fr6]; simp
    have mo8:=mo7.same (Zmp (H':=H7) rm3)
    refine⟨_,rfl,_,rfl,_,rfl,d,_,rfl,DPut.k (k:=ki y0) (s7 _ _ d6) (by lia),?_⟩
    obtain⟨SS8,in8,len8⟩:=SS6.put (Zbf s7) in0 mo8 (ok.moves lt0 mv7) l80
    have rm8:rm (upd H7 d (.dK (putK kvs (ki y0) (.ref l)))) [d,lv,fr]=rm H7 [d,lv,fr]:=Zdt (by simp)
    have sH8:Same H (upd H7 d (.dK (putK kvs (ki y0) (.ref l)))):=(sH6.trans s7).put hd
    have d8:(upd H7 d (.dK (putK kvs (ki y0) (.ref l)))) d=some (.dK (putK kvs (ki y0) (.ref l))):=Zac
    have lv8:(upd H7 d (.dK (putK kvs (ki y0) (.ref l)))) lv=some (.lst (lvs ++ [.ref cur])):=by rw[Zaj dlv.symm]; exact s7 _ _ lv6
    have fr8:(upd H7 d (.dK (putK kvs (ki y0) (.ref l)))) fr=some (.lst (nV fs)):=by rw[Zaj dfr.symm]; exact s7 _ _ fr6
    rw[← rm8]at SS8 mo8
    have c8:rm (upd H7 d (.dK (putK kvs (ki y0) (.ref l)))) [d,lv,fr] cur=some (.lst (nV fl)):=by rw[rm8]; exact Zbf s7 _ _ c6
    generalize hkv:putK kvs (ki y0) (V.ref l)=kvs8 at SS8 in8 len8 sH8 d8 lv8 fr8 rm8 mo8 c8 ⊢
    generalize (upd H7 d (.dK kvs8))=H8 at SS8 sH8 d8 lv8 fr8 rm8 mo8 c8 ⊢
    obtain⟨vs,hl8,a8⟩:=mo8
    refine⟨_,rfl,l,rfl,⟨_,SqL.of (Zdj _ _ hl8)⟩,?_⟩
    refine Za5 (K:=K) (a:=l) (xs:=vs) (λt σ H9=>∃(v9:Option V) (kvs:List (Key×V)) (mf:Nat→List (Int×List Nat)) (Lf:Nat→Nat) (fs:List Nat),σ = [some (.ref x),some (.int (s:Int)),some (.int (most:Int)),some (.ref d),some (.ref lv),some (.int (0 + (j:Int))),some (.ref fr),some (.int (y0:Int)),some (.ref l),v9]∧Same H H9∧H9 d=some (.dK kvs)∧H9 lv=some (.lst (lvs ++ [.ref cur]))∧H9 fr=some (.lst (nV fs))∧Same (rm H8 [d,lv,fr]) (rm H9 [d,lv,fr])∧SS e m (rm H9 [d,lv,fr]) kvs mf Lf (λy=>y∈fl.drop (i + 1)∨y∈fs∨y=y0)∧mf y0=ms∧In kvs y0∧(∀q∈ms.take t,∀y∈q.2,In kvs y∧Lf y≤j + 1) ∧
      (∀y∈fl,In kvs y∧Lf y=j)∧(∀y∈fs,In kvs y∧Lf y=j + 1)∧(∀y,In kvs y→Lf y≤j + 1)∧(In kvs s∧Lf s=0)∧fs.length≤kvs.length)
     ⟨v9,kvs8,_,Lf,fs,rfl,sH8,d8,lv8,fr8,Same.refl _,SS8.imp (λy _ h=>.inr ?_),if_pos rfl,(in8 y0).mpr in0,λq hq=>(by rw[take_zero]at hq; cases hq),λy hy=>⟨(in8 y).mpr (hfl6 y hy).1,(hfl6 y hy).2⟩,λy hy=>⟨(in8 y).mpr (hfs6 y hy).1,(hfs6 y hy).2⟩,λy hy=>top6 y ((in8 y).mp hy),⟨(in8 s).mpr (sc6 sb).1,(sc6 sb).2⟩,by rw[len8]; exact len6⟩ (λt σ H9 _ hh0=>by obtain⟨_,_,_,_,_,_,_,_,_,_,z,_⟩:=hh0; exact SqL.of (Zdj _ _ (z _ _ hl8))) ?_ ?_
    ·rw[hdr,mem_cons]at h
     rcases h with((h | h) | h) | h
     ·exact .inr (.inr h)
     ·exact .inl h
     ·exact .inr (.inl h)
     exact .inr (.inr h)
    ·rintro t v σ H9 hv ⟨v9,kvs9,mf9,Lf9,fs9,rfl,sH9,d9,lv9,fr9,s89,SS9,mf0,in09,suc9,hfl9,hfs9,top9,sc9,len9⟩
     obtain⟨mo,hmo,hmem,tp,b,rfl,htp,hb⟩:=a8.at hv
     have him:=(List.getElem?_eq_some_iff.mp hmo).1
     have htk:ms.take (t + 1)=ms.take t ++ [mo]:=by rw[take_succ_eq_append_getElem him,(List.getElem?_eq_some_iff.mp hmo).2]
     have htp9:=Zdj _ _ (s89 _ _ htp)
     have hb9:=Zdj _ _ (s89 _ _ hb)
     have a1:∀u v:V,atI [u,v] ((1:Nat):Int)=some v:=λ_ _=>Zav rfl
     have few9:=SS9.dm.few m7
     refine⟨_,rfl,.inl ⟨rfl,_,SqL.of fr9⟩,_,rfl,_,rfl,tp,_,_,_,rfl,rfl,SqT.of htp9,a1 _ _,d,b,m,kvs9,mo.2,rfl,d9,hb9,m7,SS9.dm.nd,SS9.dm.key,((ok.moves lt0 mv7) mo hmem).2.2,λa fa kvsA HA kA ha dA aA ad=>?_⟩
     have frA:=kA _ _ fr9 dfr.symm
     have fewA:=Zgr m7 ad.nd ad.key
     rw[length_map]at fewA
     have l1:(nV fs9).length=fs9.length:=length_map ..
     have l2:(nV fa).length=fa.length:=length_map ..
     have adl:=ad.len
     refine⟨fr,a,nV fs9,nV fa,rfl,rfl,frA,aA,by lia,?_⟩
     have rmB:rm (upd HA fr (.lst (nV fs9 ++ nV fa))) [d,lv,fr]=rm HA [d,lv,fr]:=Zdt (by simp)
     have sAB:Same (rm H9 [d,lv,fr]) (rm HA [d,lv,fr]):=rm_k λc u z n=>kA c u z λz'=>n (by rw[z']; simp)
     have sfA:Same (fwd H9 HA) (rm HA [d,lv,fr]):=Zmp λc hc=>by
      simp only[mem_cons,not_mem_nil,or_false]at hc
      rcases hc with rfl | rfl | rfl
      ·rw[d9]; simp
      ·rw[lv9]; simp
      rw[fr9]; simp
     have ad':Ad (rm HA [d,lv,fr]) m kvs9 kvsA mo.2 fa:=⟨ad.nd,ad.key,ad.inn,ad.old,ad.fre,λy hy=>by
      obtain⟨l',h1,h2⟩:=ad.new y hy
      exact⟨l',h1,sfA _ _ h2⟩,ad.len⟩
     have inA:∀y,In kvs9 y→In kvsA y:=λy hy=>(ad.inn y).mpr (.inl hy)
     have SSA:=(SS9.add (j:=j + 1) sAB ad').imp (Pd':=λy=>y∈fl.drop (i + 1)∨y∈fs9 ++ fa∨y=y0) λy _ h=>.inr (by
      rcases h with(h | h | h) | h
      ·exact .inl h
      ·exact .inr (.inl (mem_append_left _ h))
      ·exact .inr (.inr h)
      exact .inr (.inl (mem_append_right _ h)))
     have topA:∀y,In kvsA y→lvA kvs9 Lf9 (j + 1) y≤j + 1:=λy hy=>by
      by_cases h:In kvs9 y
      ·rw[Zg4 h]; exact top9 y h
      rw[Zmh h]; exact Nat.le_refl _
     refine⟨_,kvsA,mvA kvs9 mf9,lvA kvs9 Lf9 (j + 1),fs9 ++ fa,rfl,λc u z=>?_,by rw[Zaj dfr]; exact dA,by rw[Zaj lvfr]; exact kA _ _ lv9 dlv.symm,by rw[Zac,Zmf],by rw[rmB]; exact s89.trans sAB,by rw[rmB]; exact SSA,by rw[Zk4 in09]; exact mf0,inA _ in09,λq hq y hy=>?_,λy hy=>⟨inA _ (hfl9 y hy).1,by rw[Zg4 (hfl9 y hy).1]; exact(hfl9 y hy).2⟩,λy hy=>?_,topA,⟨inA _ sc9.1,by rw[Zg4 sc9.1]; exact sc9.2⟩,by rw[length_append]; lia⟩
     ·rw[Zaj (Zag z hfr0)]
      exact kA c u (sH9 _ _ z) (Zag z hd)
     ·rw[htk]at hq
      rcases(mem_append.mp hq)with hq | hq
      ·obtain⟨h1,h2⟩:=suc9 q hq y hy
       exact⟨inA _ h1,by rw[Zg4 h1]; exact h2⟩
      rw[mem_singleton.mp hq]at hy
      have:=(ad.inn y).mpr (.inr hy)
      exact⟨this,topA y this⟩
     rcases(mem_append.mp hy)with hy | hy
     ·exact⟨inA _ (hfs9 y hy).1,by rw[Zg4 (hfs9 y hy).1]; exact(hfs9 y hy).2⟩
     obtain⟨h1,h2⟩:=(ad.fre y).mp hy
     exact⟨h1,Zmh h2⟩
    rintro σ H9 ⟨v9,kvs9,mf9,Lf9,fs9,rfl,sH9,d9,lv9,fr9,s89,SS9,mf0,in09,suc9,hfl9,hfs9,top9,sc9,len9⟩
    rw[a8.len,take_length]at suc9
    refine⟨_,_,_,kvs9,mf9,Lf9,fs9,rfl,sH9,d9,lv9,fr9,s89 _ _ c8,SS9.imp λy hy h=>?_,hfl9,hfs9,top9,λ_=>sc9,λz=>absurd sb z,len9⟩
    rcases h with h | h | h
    ·exact .inr (.inl h)
    ·exact .inr (.inr h)
    left
    rw[h]
    refine⟨by rw[mf0]; exact mv7,λq hq y hy=>?_⟩
    rw[mf0]at hq
    rw[(hfl9 y0 y0m).2]
    exact suc9 q hq y hy
   rintro σ H6 ⟨v7,v8,v9,kvs,mf,Lf,fs,rfl,sH6,d6,lv6,fr6,c6,SS6,hfl6,hfs6,top6,sc6,ns6,len6⟩
   have ll':(lvs ++ [V.ref cur]).length=lvs.length + 1:=by rw[length_append]; rfl
   refine⟨_,rfl,.inl ⟨rfl,_,SqL.of lv6⟩,_,rfl,lv,_,_,rfl,rfl,lv6,by lia,?_⟩
   have n0:fl.drop (nV fl).length=[]:=by rw[show(nV fl).length=fl.length from length_map ..,List.drop_length]
   have rmC:rm (upd H6 lv (.lst (lvs ++ [.ref cur] ++ [.ref fr]))) [d,lv]=rm H6 [d,lv]:=Zdt (by simp)
   refine⟨_,_,_,_,_,kvs,mf,Lf,lvs ++ [.ref cur],fr,fs,rfl,λc u z=>?_,by rw[Zaj dlv]; exact d6,Zac,by lia,?_,?_,hfs6,top6,sc6,λz=>⟨ns6 z,?_⟩⟩
   ·rw[Zaj (Zag z hlv0)]
    exact sH6 _ _ z
   ·rw[rmC,Zbm (by simp only[mem_cons,not_mem_nil,or_false,not_or]; exact⟨dfr.symm,lvfr.symm⟩)]
    exact fr6
   ·rw[rmC]
    refine(SS6.same (Zkj λc hc=>by simp only[mem_cons,not_mem_nil,or_false]at hc ⊢; rcases hc with h | h <;> simp[h])).imp λy _ h=>?_
    rw[n0]at h
    exact .inr (h.elim (λz=>(nomatch z)) id)
   have:=ns6 z
   rw[this]at len6
   exact length_eq_zero_iff.mp (Nat.le_zero.mp len6)
  rintro σ H4 ⟨v5,v6,v7,v8,v9,kvs,mf,Lf,lvs,cur,fl,rfl,sH,d4,lv4,ll,c4,SS4,hfl4,top4,sc,ns⟩
  refine⟨_,rfl,_,rfl,by show 2≤sizeLine; lia,λt ht=>?_⟩
  have s5:Same H4 (upd H4 t (.tup [.ref lv,.ref d])):=Same.new ht
  refine q t lv d kvs mf Lf _ (sH.trans s5) Zac hd (s5 _ _ d4) (((SS4.same (Zkj (by simp))).same (Zbf s5)).imp λy hy hp=>.inr (hfl4 y hp).2) sc λz=>(ns z).1
 refine⟨_,rfl,_,rfl,x,dx,_,rfl,s1 _ _ hx,Zlr (by decide +kernel),x,m,e,rfl,R0.same s1,_,_,rfl,⟨_,rfl,?_⟩⟩
 rw[Zna]
 by_cases kp:Sb s e.k
 ·refine ite2 (λ_=>?_) (λz=>absurd (decide_eq_true kp) z)
  refine⟨_,rfl,by show 1≤sizeLine; lia,λc hc=>⟨by show 1≤sizeLine; lia,λlv hlv=>?_⟩⟩
  have n1:c≠lv:=λz=>by rw[← z,Zac]at hlv; cases hlv
  rw[Zaj n1.symm]at hlv
  refine hN _ _ ⟨lv,c,[s],rfl,(Same.new hc).put hlv,hlv,hc,n1,Zac,by rw[Zaj n1]; exact Zac,λy=>?_⟩
  rw[mem_singleton]
  exact⟨λz=>⟨z,kp⟩,λz=>z.1⟩
 refine ite2 (λz=>absurd (of_decide_eq_true z) kp) (λ_=>?_)
 refine⟨zero_le _,λc hc=>⟨by show 1≤sizeLine; lia,λlv hlv=>?_⟩⟩
 have n1:c≠lv:=λz=>by rw[← z,Zac]at hlv; cases hlv
 rw[Zaj n1.symm]at hlv
 exact hN _ _ ⟨lv,c,[],rfl,(Same.new hc).put hlv,hlv,hc,n1,Zac,by rw[Zaj n1]; exact Zac,λy=>⟨λz=>(nomatch z),λz=>absurd z.2 kp⟩⟩
theorem ok_least {f CE C f1 f2:Addr}{fd d1 d2:FuncData}(F:Fun K "least" "least" Zfu f fd) (T:Bl mg) (D_spread:Df K mg "spread" Zdx Zh7 f1 d1) (G_spread:FnOk P w K mg base CX0 8 f1 d1 Zh7 (spSpread CE C))
  (D_next_prices:Df K mg "next_prices" Zbg Zdk f2 d2) (G_next_prices:FnOk P w K mg base CX0 3 f2 d2 Zdk (spNextPrices CE C)):FnOk P w K mg base CX0 9 f fd Zkt (spLst CE C):=by
 refine F.ok scLeast (λvs H Q E h=>?_) (λcdv A outer s0 H vs Q E hr8 h=>?_)
 ·obtain⟨x,m,e,as,s,most,rfl,_⟩:=h
  rfl
 obtain⟨x,m,e,as,s,most,rfl,R,ok,hs,m9,q⟩:=h
 have hr3:Room 3 _:=hr8.mono (by decide)
 have hu:=Zdr hr8
 have hsl:sizeLine=16777216:=sizeLine_eq
 have a1:∀u v:V,atI [u,v] ((1:Nat):Int)=some v:=λ_ _=>Zav rfl
 refine⟨_,(Zad (Zas (i:=3) scLeast.nd rfl (Or.inl rfl) (Za3 Za6 (Zai G_spread hr8 (by rfl) D_spread.m D_spread.F.kp D_spread.b .nil Zap (Zaa (pv 0) (Zaa (pv 1) (Zaa (pv 2) Zae)))) Zah (λ_ _=>rfl)))
  (Zad (Zas (i:=4) scLeast.nd rfl (Or.inl rfl) Zc5)
  (Zad (Zba PassesOwn.never rfl (Zbo (by rfl) T.range (Zaa (Zaw Zb2 (pv 2) Zah) Zae)) (Zao (i:=5) scLeast.nd rfl (Or.inl rfl))
   (Zaf (Zas (i:=4) scLeast.nd rfl (Or.inl rfl) (Zai G_next_prices hr3 (by rfl) D_next_prices.m D_next_prices.F.kp D_next_prices.b .nil Zap (Zaa (pv 0) (Zaa (pv 3) (Zaa (pv 4) Zae)))))))
  (Zaf (Zan (pe_dget1 hu (pv 4) (pv 1) ⟨by rfl,by rfl,by rfl,by rfl⟩)))))),?_⟩
 refine⟨_,rfl,_,rfl,_,rfl,x,m,e,as,s,most,rfl,R,ok,hs,m9,λt l d kvs mf Lf H1 s1 et hd ed S sc ns=>?_⟩
 refine⟨t,_,_,_,rfl,rfl,SqT.of et,a1 _ _,?_⟩
 intro p0 hp0
 have dp0:d≠p0:=Zag ed hp0
 have s2:Same H1 (upd H1 p0 (.dK [])):=Same.new hp0
 have e2:(upd H1 p0 (.dK [])) p0=some (.dK []):=Zac
 generalize (upd H1 p0 (.dK []))=H2 at s2 e2 ⊢
 refine⟨_,rfl,_,_,rfl,rfl,_,rfl,by lia,by lia,?_⟩
 refine Ze9 (lo:=0) (n:=most + 1) (λi σ H3=>∃(v5:Option V) (p:Addr) (kvp:List (Key×V)) (pr:Nat→Option Int),σ = [some (.ref x),some (.int (s:Int)),some (.int (most:Int)),some (.ref d),some (.ref p),v5]∧(∀c u,H1 c=some u→c≠d→H3 c=some u)∧Rd H3 d (.dK kvs)∧H3 p=some (.dK kvp)∧p≠d∧Pr kvp pr∧(i=0→pr=λ_=>none)∧(∀n,i=n + 1→∀y,In kvs y→Lf y + n≤most→Lst (Wo e n y) (pr y))∧(∀y,¬In kvs y→pr y=none))
  ⟨none,p0,[],λ_=>none,rfl,λc u z _=>s2 _ _ z,.inl (s2 _ _ ed),e2,dp0.symm,λy=>rfl,λ_=>rfl,λn z=>(by cases z),λ_ _=>rfl⟩ ?_ ?_
 ·rintro i σ H3 hi ⟨v5,p,kvp,pr,rfl,k3,d3,p3,pd,hpr,z0,zn,out⟩
  have kr:Same (rm H1 [d]) (rm H3 [d]):=rm_k λc u z n=>k3 c u z (by simpa using n)
  have R1:ErAt CE C (rm H1 [d]) x m e:=R.same λc u z=>by
   rw[Zbm (by simpa using Zag z hd)]
   exact s1 _ _ z
  refine⟨_,rfl,_,rfl,_,rfl,x,d,p,m,e,kvs,kvp,mf,pr,rfl,R1.same kr,ok.m7,d3,S.dm.same kr,p3,pd,hpr,λp' kvp' pr' o H4 k4 d4 hp' p4 hpr' nx out'=>?_⟩
  refine⟨_,p',kvp',pr',rfl,λc u z n=>k4 _ _ (k3 c u z n) n,.inr ⟨o,d4⟩,p4,λz=>?_,hpr',λz=>(by cases z),λn en y hy ly=>?_,out'⟩
  ·rw[z]at hp'
   rcases d3 with h | ⟨o',h⟩
   ·rw[h]at hp'; cases hp'
   rw[h]at hp'; cases hp'
  have en':i=n:=Nat.succ.inj en
  cases n with
  | zero=>
   rw[z0 en']at nx
   exact nx_zero ok S.dm nx hy
  | succ n=>exact nx_succ ok S (zn n en') nx hy ly
 rintro σ H3 ⟨v5,p,kvp,pr,rfl,k3,d3,p3,pd,hpr,z0,zn,out⟩
 refine⟨_,rfl,p,rfl,.inl ⟨_,.inl p3⟩,_,rfl,_,DGet.k (k:=ki s) p3,?_⟩
 have ev:(valV kvp (ki s)).getD V.non=oI (pr s):=by
  rw[hpr s]
  cases pr s <;> rfl
 rw[ev]
 refine q (pr s) H3 (λc u z=>k3 c u (s1 _ _ z) (Zag z hd)) (λsb=>?_) (λnb=>?_)
 ·obtain⟨h1,h2⟩:=sc sb
  exact zn most rfl s h1 (by lia)
 refine out s λz=>?_
 rw[ns nb]at z
 cases z
inductive spGoal (K:W.Frag) (vs:List V) (H:Hp) (Q:VK) (E0_:XK):Prop
 | mk (a:Addr) (ns:List Int) (m:Nat) (c0:vs=[.ref a,.int (m:Int)]) (c1:SqL K H a (ns.map V.int)) (c2:ns.length≤63) (c3:1≤m) (c4:m≤7) (c5:∀(n:Nat) (H':Hp),Same H H'→n < 2 ^ m→Q (.int (n:Int)) H'):spGoal K vs H Q E0_
inductive spKeep (K:W.Frag) (vs:List V) (H:Hp) (Q:VK) (E0_:XK):Prop
 | mk (a:Addr) (ns:List Int) (m:Nat) (c0:vs=[.ref a,.int (m:Int)]) (c1:SqL K H a (ns.map V.int)) (c2:ns.length≤63) (c3:1≤m) (c4:m≤7) (c5:∀n:Nat,n < 2 ^ m→Q (.int (n:Int)) H):spKeep K vs H Q E0_
inductive spBound (K:W.Frag) (vs:List V) (H:Hp) (Q:VK) (E0_:XK):Prop
 | mk (a:Addr) (ns:List Int) (c0:vs=[.ref a]) (c1:SqL K H a (ns.map V.int)) (c2:ns.length≤63) (c3:∀n:Nat,n≤8→Q (.int (n:Int)) H):spBound K vs H Q E0_
noncomputable abbrev Zk0:List Str:=["_law_script", "_law_many_here"]
noncomputable abbrev nLGoal:List Str:=["_law_script", "_law_many_here"]
theorem scLGoal:FnScope nLGoal Zk0 (Zab Zf1):=⟨rfl,rfl,rfl,by decide +kernel,rfl,by decide +kernel,by decide +kernel⟩
noncomputable abbrev Zky:List Str:=["_law_script", "_law_many_here"]
noncomputable abbrev nLKeep:List Str:=["_law_script", "_law_many_here"]
theorem scLKeep:FnScope nLKeep Zky (Zab Zfz):=⟨rfl,rfl,rfl,by decide +kernel,rfl,by decide +kernel,by decide +kernel⟩
noncomputable abbrev Zii:List Str:=["_law_script"]
noncomputable abbrev nLBound:List Str:=["_law_script"]
theorem scLBound:FnScope nLBound Zii (Zab Zd5):=⟨rfl,rfl,rfl,by decide +kernel,rfl,by decide +kernel,by decide +kernel⟩
theorem ok_goal {f f1 f2:Addr}{fd d1 d2:FuncData}(F:Fun K "_law_goal" "_law_goal" Zf1 f fd) (D_l_draw:Df K mg "_law_draw" Zb5 Zbb f1 d1) (G_l_draw:FnOk P w K mg base CX0 2 f1 d1 Zbb (spDraw K)) (D_l_set:Df K mg "_law_set" Zhd Zlp f2 d2) (G_l_set:FnOk P w K mg base CX0 3 f2 d2 Zlp (spSetD K)):FnOk P w K mg base CX0 4 f fd Zk0 (spGoal K):=by
 refine F.ok scLGoal (λvs H Q E h=>?_) (λcdv A outer s H vs Q E hr3 h=>?_)
 ·obtain⟨a,ns,m,rfl,_⟩:=h
  rfl
 obtain⟨a,ns,m,rfl,hS,hn,m1,m2,q⟩:=h
 have hr2:Room 2 _:=hr3.mono (by decide)
 refine⟨_,(Zad (Za4 (Zau Zdw (Zai G_l_draw hr2 (by rfl) D_l_draw.m D_l_draw.F.kp D_l_draw.b .nil Zap (Zaa (pv 0) (Zaa Zah (Zaa Zah (Zaa Zah Zae))))) Zah (Zay _)) (Zaf (Zan (Zaw Zjg (Zaw Zd8 Zah (Zai G_l_draw hr2 (by rfl) D_l_draw.m D_l_draw.F.kp D_l_draw.b .nil Zap (Zaa (pv 0) (Zaa Zah (Zaa Zah (Zaa (pv 1) Zae)))))) (Zaw Zd8 Zah (Zai G_l_draw hr2 (by rfl) D_l_draw.m D_l_draw.F.kp D_l_draw.b .nil Zap (Zaa (pv 0) (Zaa Zah (Zaa Zah (Zaa (pv 1) Zae))))))))) Zar)
  (Zaf (Zan (Zai G_l_set hr3 (by rfl) D_l_set.m D_l_set.F.kp D_l_set.b .nil Zap (Zaa (pv 0) (Zaa Zah (Zaa (pv 1) Zae))))))),?_⟩
 refine⟨_,rfl,a,ns,_,_,_,rfl,hS,hn,by decide,by decide,by decide,by decide,λr a1 b1=>⟨rfl,_,rfl,?_⟩⟩
 refine ite2 (λ_=>?_) (λ_=>?_)
 ·refine⟨_,rfl,_,rfl,a,ns,_,_,_,rfl,hS,hn,by decide,by decide,by decide,by lia,λr1 a1 b1=>⟨_,_,rfl,rfl,⟨by lia,by lia,by lia⟩,?_⟩⟩
  refine⟨_,rfl,_,rfl,a,ns,_,_,_,rfl,hS,hn,by decide,by decide,by decide,by lia,λr2 a2 b2=>⟨_,_,rfl,rfl,⟨by lia,by lia,by lia⟩,_,_,rfl,rfl,?_⟩⟩
  have h1:∀r:Int,(1:Int) * 2 ^ r.toNat=((2 ^ r.toNat:Nat):Int):=λr=>by rw[Zh2]; lia
  rw[h1,h1,Zga]
  exact q (2 ^ r1.toNat ||| 2 ^ r2.toNat) H (Same.refl _) (Nat.or_lt_two_pow (pow_lt_pow_right (by decide) (by lia)) (pow_lt_pow_right (by decide) (by lia)))
 try unfold tNext
 dsimp only
 exact⟨_,rfl,_,rfl,a,ns,_,m,rfl,hS,hn,by decide,by decide,m1,by lia,q⟩
theorem ok_keep {f f1:Addr}{fd d1:FuncData}(F:Fun K "_law_keep" "_law_keep" Zfz f fd) (D_l_draw:Df K mg "_law_draw" Zb5 Zbb f1 d1) (G_l_draw:FnOk P w K mg base CX0 2 f1 d1 Zbb (spDraw K)):FnOk P w K mg base CX0 3 f fd Zky (spKeep K):=by
 refine F.ok scLKeep (λvs H Q E h=>?_) (λcdv A outer s H vs Q E hr2 h=>?_)
 ·obtain⟨a,ns,m,rfl,_⟩:=h
  rfl
 obtain⟨a,ns,m,rfl,hS,hn,m1,m2,q⟩:=h
 refine⟨_,(Zad (Za4 (Zau Zik (Zai G_l_draw hr2 (by rfl) D_l_draw.m D_l_draw.F.kp D_l_draw.b .nil Zap (Zaa (pv 0) (Zaa Zah (Zaa Zah (Zaa Zah Zae))))) Zah (Zay _)) (Zaf (Zan (Zaw Zjf (Zaw Zd8 Zah (pv 1)) Zah))) Zar)
  (Zaf (Zan (Zaw Zjf (Zaw Zjf (Zaw Zd8 Zah (pv 1)) Zah) (Zaw Zd8 Zah (Zai G_l_draw hr2 (by rfl) D_l_draw.m D_l_draw.F.kp D_l_draw.b .nil Zap (Zaa (pv 0) (Zaa Zah (Zaa Zah (Zaa (pv 1) Zae)))))))))),?_⟩
 have h1:∀r:Int,(1:Int) * 2 ^ r.toNat=((2 ^ r.toNat:Nat):Int):=λr=>by rw[Zh2]; lia
 have hp:=two_pow_pos m
 refine⟨_,rfl,a,ns,_,_,_,rfl,hS,hn,by decide,by decide,by decide,by decide,λr a1 b1=>⟨_,_,rfl,rfl,_,rfl,?_⟩⟩
 refine ite2 (λ_=>?_) (λ_=>?_)
 ·refine⟨_,rfl,_,_,rfl,rfl,⟨by lia,by lia,by lia⟩,_,_,rfl,rfl,?_⟩
  rw[h1,toNat_natCast]
  have e:(((2 ^ m:Nat):Int) - 1)=((2 ^ m - 1:Nat):Int):=by lia
  rw[e]
  exact q _ (by lia)
 try unfold tNext
 dsimp only
 refine⟨_,rfl,_,_,rfl,rfl,⟨by lia,by lia,by lia⟩,_,_,rfl,rfl,_,rfl,_,rfl,a,ns,_,_,_,rfl,hS,hn,by decide,by decide,by decide,by lia,λr1 a2 b2=>⟨_,_,rfl,rfl,⟨by lia,by lia,by lia⟩,_,_,rfl,rfl,?_⟩⟩
 rw[h1,h1,toNat_natCast]
 have lt:2 ^ r1.toNat < 2 ^ m:=pow_lt_pow_right (by decide) (by lia)
 have e:(((2 ^ m:Nat):Int) - 1 - ((2 ^ r1.toNat:Nat):Int))=((2 ^ m - 1 - 2 ^ r1.toNat:Nat):Int):=by lia
 rw[e]
 exact q _ (lt_of_le_of_lt (Nat.sub_le _ _) (Nat.sub_lt hp (by decide)))
theorem ok_bound {f f1:Addr}{fd d1:FuncData}(F:Fun K "_law_bound" "_law_bound" Zd5 f fd) (D_l_draw:Df K mg "_law_draw" Zb5 Zbb f1 d1) (G_l_draw:FnOk P w K mg base CX0 2 f1 d1 Zbb (spDraw K)):FnOk P w K mg base CX0 3 f fd Zii (spBound K):=by
 refine F.ok scLBound (λvs H Q E h=>?_) (λcdv A outer s H vs Q E hr2 h=>?_)
 ·obtain⟨a,ns,rfl,_⟩:=h
  rfl
 obtain⟨a,ns,rfl,hS,hn,q⟩:=h
 refine⟨_,(Zad (Za4 (Zau Zdw (Zai G_l_draw hr2 (by rfl) D_l_draw.m D_l_draw.F.kp D_l_draw.b .nil Zap (Zaa (pv 0) (Zaa Zah (Zaa Zah (Zaa Zah Zae))))) Zah (Zay _)) (Zaf (Zan Zah)) Zar)
  (Zaf (Zan (Zai G_l_draw hr2 (by rfl) D_l_draw.m D_l_draw.F.kp D_l_draw.b .nil Zap (Zaa (pv 0) (Zaa Zah (Zaa Zah (Zaa Zah Zae)))))))),?_⟩
 refine⟨_,rfl,a,ns,_,_,_,rfl,hS,hn,by decide,by decide,by decide,by decide,λr a1 b1=>⟨rfl,_,rfl,?_⟩⟩
 refine ite2 (λ_=>?_) (λ_=>?_)
 ·exact q 8 (by decide)
 try unfold tNext
 dsimp only
 refine⟨_,rfl,a,ns,_,_,_,rfl,hS,hn,by decide,by decide,by decide,by decide,λr2 a2 b2=>?_⟩
 have:=q r2.toNat (by lia)
 rw[toNat_of_nonneg a2]at this
 exact this
inductive TbV (H:Hp) (v:V) (bad:Bool):Prop
 | lst (b:Addr) (e:List Int) (hv:v=.ref b) (h:H b=some (.lst (e.map V.int))) (hb:bad=decide (e=[])):TbV H v bad
 | opt (o:Option Str) (hv:v=oS o) (hs:∀s,o=some s→strOk s=true) (hb:bad=decide (o=none)):TbV H v bad
inductive spLCan (vs:List V) (H:Hp) (Q:VK) (E0_:XK):Prop
 | mk (t:Addr) (s m:Nat) (xs:List V) (bad:Nat→Bool) (c0:vs=[.ref t,.int (s:Int)]) (c1:H t=some (.lst xs)) (c2:xs.length=m) (c3:m≤200) (c4:s < 2 ^ m) (c5:(∀(i:Nat) v,xs[i]? = some v→TbV H v (bad i))) (c6:∀H':Hp,Same H H'→Q (.bl (decide ((wl s).filter (λw=>bad w.toNat)=[]))) H'):spLCan  vs H Q E0_
inductive spLMade (vs:List V) (H:Hp) (Q:VK) (E0_:XK):Prop
 | mk (t:Addr) (s m:Nat) (es:List V) (d:Dee) (c0:vs=[.ref t,.int (s:Int)]) (c1:H t=some (.lst es)) (c2:A2 (EnV H) es d.tab) (c3:DeOk m d) (c4:m≤200) (c5:s < 2 ^ m) (c6:∀H':Hp,Same H H'→Q (.int (Zcw (.did d) s:Nat)) H'):spLMade  vs H Q E0_
inductive spSplit (vs:List V) (H:Hp) (Q:VK) (E0_:XK):Prop
 | mk (t:Addr) (s m:Nat) (l:Loo) (as:List Str) (c0:vs=[.ref t,.int (s:Int)]) (c1:H t=some (.lst (l.tab.map oS))) (c2:l.tab.length=m) (c3:m≤200) (c4:s < 2 ^ m) (c5:bdL l s=[]) (c6:(∀z,some z∈l.tab→z∈as)) (c7:as.length≤3) (c8:∀(r:Addr) (qs:List (Str×Nat)) (H':Hp),Same H H'→H r=none→H' r=some (.lst (nV (qs.map (·.2))))→PtOf l.tab s qs→Q (.ref r) H'):spSplit  vs H Q E0_
structure Dat (H:Hp) (dt:Addr) (e:Ed):Prop where
 ex:∃(l1 l2:Addr) (us ws:List V),H dt=some (.tup [.ref l1,.ref l2,.int (e.g:Int),.int (e.k:Int)])∧H l1=some (.lst us)∧H l2=some (.lst ws)∧A2 (DeV H) us e.ds∧A2 (LoV H) ws e.ls
theorem Dat.same {H H':Hp}{dt:Addr}{e:Ed}(h:Dat H dt e) (s:Same H H'):Dat H' dt e:=by
 obtain⟨l1,l2,us,ws,h1,h2,h3,h4,h5⟩:=h.ex
 exact⟨l1,l2,us,ws,s _ _ h1,s _ _ h2,s _ _ h3,h4.mono λv t _ r=>r.same s,h5.mono λv t _ r=>r.same s⟩
noncomputable def SkE (e:Ed):Prop:=∀l∈e.ls,∀z,some z∈l.tab→strOk z=true
inductive spSteps (vs:List V) (H:Hp) (Q:VK) (E0_:XK):Prop
 | mk (dt:Addr) (m:Nat) (e:Ed) (as:List Str) (s:Nat) (c0:vs=[.ref dt,.int (s:Int)]) (c1:Dat H dt e) (c2:EdOk m e as) (c3:SkE e) (c4:s < 2 ^ m) (c5:∀(l:Addr) (ms:List (Int×List Nat)) (H':Hp),Same H H'→H l=none→MsAt H' l ms→(∀q,q∈ms↔Mv e s q.1 q.2)→ms.length≤80→Q (.ref l) H'):spSteps  vs H Q E0_
theorem Zn4 {a b:Nat}:decide (V.int (Builtin.bitOr (a:Int) (b:Int))=V.int (b:Int))=decide (Sb a b):=by
 rw[Zga,Bool.eq_iff_iff,decide_eq_true_eq,decide_eq_true_eq,sb_iff]
 constructor
 ·intro h i hi
  have e:a ||| b=b:=ofNat.inj (V.int.inj h)
  rw[← e,testBit_or,hi]
  rfl
 intro h
 have e:a ||| b=b:=eq_of_testBit_eq λi=>by
  rw[testBit_or]
  cases ha:a.testBit i with
  | false=>rfl
  | true=>rw[h i ha]; rfl
 rw[e]
theorem lst_ex {P:Int→Prop}(h:∀c,P c→0≤c):∃u,Lst P u:=by
 refine Classical.byCases (p:=∃n:Nat,P (n:Int)) (λhn=>?_) (λno=>⟨none,.no λc hc=>no ⟨c.toNat,by rw[toNat_of_nonneg (h c hc)]; exact hc⟩⟩)
 obtain⟨n,hn⟩:=hn
 have go:∀k n:Nat,n≤k→P (n:Int)→∃u,Lst P u:=λk=>by
  induction k with
  | zero=>exact λn hk hp=>⟨_,.yes _ hp λc hc=>by have:=h c hc; lia⟩
  | succ k ih=>
   intro n hk hp
   refine Classical.byCases (p:=∃j:Nat,j < n∧P (j:Int)) (λhh0=>by obtain⟨j,hj,hp'⟩:=hh0; exact ih j (by lia) hp') (λno=>⟨_,.yes _ hp λc hc=>?_⟩)
   refine Classical.byContradiction λlt=>no ⟨c.toNat,?_,by rw[toNat_of_nonneg (h c hc)]; exact hc⟩
   have:=h c hc
   lia
 exact go n n (Nat.le_refl _) hn
open Classical in
noncomputable def bO (e:Ed) (n s:Nat):Option Int:=if h:∃u,Lst (Wo e n s) u then Classical.choose h else none
theorem Znc {m:Nat}{e:Ed}{as:List Str}(ok:EdOk m e as) {n s:Nat}(hs:s < 2 ^ m):Lst (Wo e n s) (bO e n s):=by
 have h:=lst_ex (P:=Wo e n s) λc hc=>hc.pos ok hs
 unfold bO
 rw[dif_pos h]
 exact Classical.choose_spec h
theorem bO_pos {m:Nat}{e:Ed}{as:List Str}(ok:EdOk m e as) {n s:Nat}(hs:s < 2 ^ m) {c:Int}(h:bO e n s=some c):0≤c:=by
 have:=Znc (n:=n) ok hs
 rw[h]at this
 cases this with
 | yes _ h _=>exact h.pos ok hs
noncomputable def oM:Option Int→Int
 | none=>-1
 | some c=>c
structure Me (e:Ed) (m:Nat) (kvs:List (List Key×V)):Prop where
 nd:(kvs.map (·.1)).Nodup
 key:∀k∈kvs.map (·.1),∃x n:Nat,k=[ki x,ki n]∧x < 2 ^ m∧n≤8
 val:∀x n v,valV kvs [ki x,ki n]=some v→v=.int (oM (bO e n x))
theorem Me.few {e:Ed}{m:Nat}{kvs:List (List Key×V)}(h:Me e m kvs) (m7:m≤7):kvs.length≤1152:=by
 have h1:(kvs.map (·.1)).length≤((List.range 128).flatMap λx=>(List.range 9).map λn=>[ki x,ki n]).length:=List.Nodup.length_le_of_subset h.nd λk hk=>by
  obtain⟨x,n,e,hx,hn⟩:=h.key k hk
  have:2 ^ m≤2 ^ 7:=pow_le_pow_right (by decide) m7
  exact List.mem_flatMap.mpr ⟨x,mem_range.mpr (by lia),mem_map.mpr ⟨n,mem_range.mpr (by lia),e.symm⟩⟩
 have h2:((List.range 128).flatMap λx=>(List.range 9).map λn=>[ki x,ki n]).length=1152:=by
  rw[List.length_flatMap]
  (simp only[length_map,length_range])
  decide
 rw[length_map,h2]at h1
 exact h1
theorem Me.put {e:Ed}{m:Nat}{kvs:List (List Key×V)}(h:Me e m kvs) {x n:Nat}(hx:x < 2 ^ m) (hn:n≤8):Me e m (putK kvs [ki x,ki n] (.int (oM (bO e n x)))):=by
 refine⟨?_,λk hk=>?_,λy j v hv=>?_⟩
 ·cases hv:valV kvs [ki x,ki n]with
  | none=>
   rw[Zc3 _ hv,map_append]
   exact Zil h.nd (Zgh hv)
  | some v=>
   have ek:(putK kvs [ki x,ki n] (.int (oM (bO e n x)))).map (·.1)=kvs.map (·.1):=by
    unfold putK
    rw[if_pos]
    ·rw[map_map]
     refine map_congr_left λp _=>?_
     show(if p.1=[ki x,ki n]then(p.1,V.int (oM (bO e n x)))else p).1=p.1
     split <;> rfl
    rw[Zci,hv]
    rfl
   rw[ek]
   exact h.nd
 ·by_cases e':k=[ki x,ki n]
  ·exact⟨x,n,e',hx,hn⟩
  refine h.key k ?_
  obtain⟨kv,hkv,rfl⟩:=mem_map.mp hk
  unfold putK at hkv
  split at hkv
  ·obtain⟨kv',hkv',e2⟩:=mem_map.mp hkv
   split at e2
   ·rename_i e3
    rw[← e2]at e'
    exact absurd e3 e'
   rw[← e2]
   exact mem_map.mpr ⟨_,hkv',rfl⟩
  rcases(mem_append.mp hkv)with z | z
  ·exact mem_map.mpr ⟨_,z,rfl⟩
  rw[mem_singleton.mp z]at e'
  exact absurd rfl e'
 rw[Zgg]at hv
 by_cases e':[ki y,ki j]=[ki x,ki n]
 ·rw[if_pos e']at hv
  cases hv
  injection e' with h1 h2
  injection h2 with h3
  rw[Ze7 h1,Ze7 h3]
 rw[if_neg e']at hv
 exact h.val y j v hv
noncomputable def Wst (pr:Nat→Option Int) (p:Int) (ss:List Nat) (v:Int):Prop:=(v=-1∧∃y∈ss,pr y=none)∨∃M,Ds pr ss M∧0≤M∧v=p + M
theorem ds_eq {pr:Nat→Option Int}{ss:List Nat}{M M':Int}(h:Ds pr ss M) (h':Ds pr ss M'):M=M':=by
 obtain⟨y,hy,ey⟩:=h.1
 obtain⟨z,hz,ez⟩:=h'.1
 obtain⟨a,ea,la⟩:=h'.2 y hy
 obtain⟨b,eb,lb⟩:=h.2 z hz
 rw[ey]at ea
 rw[ez]at eb
 cases ea
 cases eb
 lia
theorem ch_skip {pr:Nat→Option Int}{ms:List (Int×List Nat)}{q:Int×List Nat}{u:Option Int}(h:Lst (Ch pr ms) u) (hn:∃y∈q.2,pr y=none):Lst (Ch pr (ms ++ [q])) u:=h.iff λc=>by
 constructor
 ·rintro⟨q',hq,r⟩
  exact⟨q',mem_append_left _ hq,r⟩
 rintro⟨q',hq,M,hM,r⟩
 rcases(mem_append.mp hq)with hq | hq
 ·exact⟨q',hq,M,hM,r⟩
 rw[mem_singleton.mp hq]at hM
 obtain⟨y,hy,ey⟩:=hn
 obtain⟨a,ea,_⟩:=hM.2 y hy
 rw[ey]at ea
 cases ea
theorem ch_more {pr:Nat→Option Int}{ms:List (Int×List Nat)}{q:Int×List Nat}{u:Option Int}{M:Int}(h:Lst (Ch pr ms) u) (hM:Ds pr q.2 M):Lst (Ch pr (ms ++ [q])) (match u with | none=>some (q.1 + M) | some c=>some (if q.1 + M < c then q.1 + M else c)):=by
 have new:Ch pr (ms ++ [q]) (q.1 + M):=⟨q,mem_append_right _ (mem_singleton.mpr rfl),M,hM,Int.le_refl _⟩
 have inv:∀c,Ch pr (ms ++ [q]) c→Ch pr ms c∨q.1 + M≤c:=λc ⟨q',hq,M',hM',le⟩=>by
  rcases(mem_append.mp hq)with hq | hq
  ·exact .inl ⟨q',hq,M',hM',le⟩
  rw[mem_singleton.mp hq]at hM' le
  rw[ds_eq hM hM']
  exact .inr le
 cases h with
 | no no=>exact .yes _ new λc hc=>(inv c hc).elim (λz=>absurd z (no c)) id
 | yes c hc lc=>
  have old:Ch pr (ms ++ [q]) c:=by
   obtain⟨q',hq,r⟩:=hc
   exact⟨q',mem_append_left _ hq,r⟩
  dsimp only
  by_cases lt:q.1 + M < c
  ·rw[if_pos lt]
   exact .yes _ new λc' hc'=>(inv c' hc').elim (λz=>by have:=lc c' z; lia) id
  rw[if_neg lt]
  exact .yes _ old λc' hc'=>(inv c' hc').elim (λz=>lc c' z) λz=>by lia
theorem MsAt.cut {H:Hp}{l d:Addr}{ms:List (Int×List Nat)}{kvs:List (List Key×V)}(h:MsAt H l ms) (hd:H d=some (.dT kvs)):MsAt (rm H [d]) l ms:=by
 obtain⟨vs,hl,ha⟩:=h
 have ne:∀{c:Addr}{u:HO},H c=some u→(∀k,u≠.dT k)→rm H [d] c=some u:=λ{c u} e n=>by
  rw[Zbm (by simp only[mem_singleton]; intro z; rw[z,hd]at e; cases e; exact n _ rfl)]
  exact e
 refine⟨vs,ne hl (by intro k z; cases z),ha.mono λv t _ r=>?_⟩
 obtain⟨t',b,e,ht,hb⟩:=r
 exact⟨t',b,e,ne ht (by intro k z; cases z),ne hb (by intro k z; cases z)⟩
theorem Dat.cut {H:Hp}{dt d:Addr}{e:Ed}{kvs:List (List Key×V)}(h:Dat H dt e) (hd:H d=some (.dT kvs)):Dat (rm H [d]) dt e:=by
 obtain⟨l1,l2,us,ws,h1,h2,h3,h4,h5⟩:=h.ex
 have ne:∀{c:Addr}{u:HO},H c=some u→(∀k,u≠.dT k)→rm H [d] c=some u:=λ{c u} e n=>by
  rw[Zbm (by simp only[mem_singleton]; intro z; rw[z,hd]at e; cases e; exact n _ rfl)]
  exact e
 refine⟨l1,l2,us,ws,ne h1 (by intro k z; cases z),ne h2 (by intro k z; cases z),ne h3 (by intro k z; cases z),h4.mono λv t _ r=>?_,h5.mono λv t _ r=>?_⟩
 ·obtain⟨tb,es,⟨o,eo,ho⟩,htb,hes⟩:=r
  exact⟨tb,es,⟨o,eo,ne ho (by intro k z; cases z)⟩,ne htb (by intro k z; cases z),hes.mono λv t _ r=>by
   obtain⟨b,eb,hb⟩:=r
   exact⟨b,eb,ne hb (by intro k z; cases z)⟩⟩
 obtain⟨tb,⟨o,eo,ho⟩,htb⟩:=r
 exact⟨tb,⟨o,eo,ne ho (by intro k z; cases z)⟩,ne htb (by intro k z; cases z)⟩
theorem Zj3 {H H':Hp}{d:Addr}(k:∀c u,H c=some u→c≠d→H' c=some u):Same (rm H [d]) H':=λc u e=>by
 have hc:=Zn1 e
 rw[Zbm hc]at e
 exact k c u e (by simpa using hc)
theorem fn_false {P:Program}{w:World}{K:W.Frag}{mg:Str→Option Value}{base:Heap}{CX:CXT}{k:Nat}{f:Addr}{fd:FuncData}{ps:List Str}:FnOk P w K mg base CX k f fd ps (λ_ _ _ _=>False):=⟨λ_ _ _ _ h=>h.elim,λ_ _ _ _ _ _ _ _ _ _ _ _ _ h=>h.elim⟩
inductive spWorst (n:Nat) (vs:List V) (H:Hp) (Q:VK) (E0_:XK):Prop
 | mk (dt t b d:Addr) (m:Nat) (e:Ed) (as:List Str) (p:Int) (ss:List Nat) (kvs:List (List Key×V)) (c0:vs=[.ref dt,.ref t,.int ((n + 1:Nat):Int),.ref d]) (c1:Dat H dt e) (c2:EdOk m e as) (c3:SkE e) (c4:n≤7) (c5:H t=some (.tup [.int p,.ref b])) (c6:H b=some (.lst (nV ss))) (c7:ss≠[]) (c8:(∀y∈ss,y < 2 ^ m)) (c9:H d=some (.dT kvs)) (c10:Me e m kvs) (c11:∀(v:Int) (kvs':List (List Key×V)) (H':Hp),(∀c u,H c=some u→c≠d→H' c=some u)→H' d=some (.dT kvs')→Me e m kvs'→Wst (bO e n) p ss v→Q (.int v) H'):spWorst n vs H Q E0_
inductive spValue (n:Nat) (vs:List V) (H:Hp) (Q:VK) (E0_:XK):Prop
 | mk (dt d:Addr) (m:Nat) (e:Ed) (as:List Str) (s:Nat) (kvs:List (List Key×V)) (c0:vs=[.ref dt,.int (s:Int),.int (n:Int),.ref d]) (c1:Dat H dt e) (c2:EdOk m e as) (c3:SkE e) (c4:s < 2 ^ m) (c5:n≤8) (c6:H d=some (.dT kvs)) (c7:Me e m kvs) (c8:∀(kvs':List (List Key×V)) (H':Hp),(∀c u,H c=some u→c≠d→H' c=some u)→H' d=some (.dT kvs')→Me e m kvs'→Q (.int (oM (bO e n s))) H'):spValue n vs H Q E0_
noncomputable abbrev Zc9:List Str:=["_law_data", "_law_some", "_law_left", "_law_found"]
noncomputable abbrev nLValue:List Str:=["_law_data", "_law_some", "_law_left", "_law_found", "_law_lowest", "_law_step", "_law_price_here"]
theorem scLValue:FnScope nLValue Zc9 (Zab Zde):=⟨rfl,rfl,rfl,by decide +kernel,rfl,by decide +kernel,by decide +kernel⟩
theorem Zlv {f:Addr}{fd:FuncData}(h0:FnOk P w K mg base CX0 (5 + 2 * 0) f fd Zc9 (spValue 0)) (hs:∀n,FnOk P w K mg base CX0 (5 + 2 * n) f fd Zc9 (spValue n)→FnOk P w K mg base CX0 (5 + 2 * (n + 1)) f fd Zc9 (spValue (n + 1))):∀n,FnOk P w K mg base CX0 (5 + 2 * n) f fd Zc9 (spValue n)
 | 0=>h0
 | n + 1=>hs n (Zlv h0 hs n)
inductive spLLeast (vs:List V) (H:Hp) (Q:VK) (E0_:XK):Prop
 | mk (dt:Addr) (m:Nat) (e:Ed) (as:List Str) (s n:Nat) (c0:vs=[.ref dt,.int (s:Int),.int (n:Int)]) (c1:Dat H dt e) (c2:EdOk m e as) (c3:SkE e) (c4:s < 2 ^ m) (c5:n≤8) (c6:∀H':Hp,Same H H'→Q (.int (if Sb s e.k then oM (bO e n s)else -1)) H'):spLLeast  vs H Q E0_
inductive spIsLeast (vs:List V) (H:Hp) (Q:VK) (E0_:XK):Prop
 | mk (u:Option Int) (c0:vs=[oI u,.int (oM u)]) (c1:(∀c,u=some c→0≤c)) (c2:Q (.bl true) H):spIsLeast  vs H Q E0_
noncomputable abbrev Zm7:List Str:=["_law_table", "_law_some"]
noncomputable abbrev nLCan:List Str:=["_law_table", "_law_some", "_law_world"]
theorem scLCan:FnScope nLCan Zm7 (Zab Zi8):=⟨rfl,rfl,rfl,by decide +kernel,rfl,by decide +kernel,by decide +kernel⟩
noncomputable abbrev Zkx:List Str:=["_law_table", "_law_some"]
noncomputable abbrev nLMade:List Str:=["_law_table", "_law_some", "_law_found", "_law_world", "_law_other"]
theorem scLMade:FnScope nLMade Zkx (Zab Zfy):=⟨rfl,rfl,rfl,by decide +kernel,rfl,by decide +kernel,by decide +kernel⟩
noncomputable abbrev Zid:List Str:=["_law_table", "_law_some"]
noncomputable abbrev nLSplit:List Str:=["_law_table", "_law_some", "_law_found", "_law_world"]
theorem scLSplit:FnScope nLSplit Zid (Zab Zdf):=⟨rfl,rfl,rfl,by decide +kernel,rfl,by decide +kernel,by decide +kernel⟩
noncomputable abbrev Zic:List Str:=["_law_data", "_law_some"]
noncomputable abbrev nLSteps:List Str:=["_law_data", "_law_some", "_law_steps_here", "_law_deed", "_law_made_here", "_law_look"]
theorem scLSteps:FnScope nLSteps Zic (Zab Zd1):=⟨rfl,rfl,rfl,by decide +kernel,rfl,by decide +kernel,by decide +kernel⟩
noncomputable abbrev Zia:List Str:=["_law_data", "_law_step", "_law_left", "_law_found"]
noncomputable abbrev nLWorst:List Str:=["_law_data", "_law_step", "_law_left", "_law_found", "_law_worst_here", "_law_other", "_law_price_here"]
theorem scLWorst:FnScope nLWorst Zia (Zab Zdz):=⟨rfl,rfl,rfl,by decide +kernel,rfl,by decide +kernel,by decide +kernel⟩
noncomputable abbrev Zif:List Str:=["_law_data", "_law_some", "_law_most"]
noncomputable abbrev nLLeast:List Str:=["_law_data", "_law_some", "_law_most"]
theorem scLLeast:FnScope nLLeast Zif (Zab Zd3):=⟨rfl,rfl,rfl,by decide +kernel,rfl,by decide +kernel,by decide +kernel⟩
noncomputable abbrev Ze5:List Str:=["_law_told_here", "_law_due"]
noncomputable abbrev nLIsLeast:List Str:=["_law_told_here", "_law_due"]
theorem scLIsLeast:FnScope nLIsLeast Ze5 (Zab Zcd):=⟨rfl,rfl,rfl,by decide +kernel,rfl,by decide +kernel,by decide +kernel⟩
theorem ok_lcan {f f1:Addr}{fd d1:FuncData}(F:Fun K "_law_can" "_law_can" Zi8 f fd) (D_l_list:Df K mg "_law_list" Zd2 Zf8 f1 d1) (G_l_list:FnOk P w K mg base CX0 1 f1 d1 Zf8 spWof):FnOk P w K mg base CX0 2 f fd Zm7 spLCan:=by
 refine F.ok scLCan (λvs H Q E h=>?_) (λcdv A outer s0 H vs Q E hr1 h=>?_)
 ·obtain⟨t,s,m,xs,bad,rfl,_⟩:=h
  rfl
 obtain⟨t,s,m,xs,bad,rfl,ht,hxl,m2,hs,tb,q⟩:=h
 have hun:=hr1.units
 refine⟨_,(Zad (Zba PassesOwn.never rfl (Zaz (Zai G_l_list hr1 (by rfl) D_l_list.m D_l_list.F.kp D_l_list.b .nil Zap (Zaa (pv 1) Zae))) (Zao (i:=2) scLCan.nd rfl (Or.inl rfl))
   (Zaf (Za4 (PW.pt (Zn2 (Zau (op_eqW hun) (Za3 Zch (pv 0) (pv 2) (λ_ _=>rfl)) (Zb6 Zae) (Zay _)) (Zl4 (Zau Zmd (Za3 Zch (pv 0) (pv 2) (λ_ _=>rfl)) Zf6 (Zay _))))) (Zaf (Zan Zm6)) Zar)))
  (Zaf (Zan Zm6))),?_⟩
 refine⟨_,rfl,s,rfl,Zlq hs m2,λl H1 s1 hl e1=>⟨l,rfl,⟨_,SqL.of e1⟩,?_⟩⟩
 have hl1:((wl s).map V.int).length=(wl s).length:=length_map ..
 refine Za5 (K:=K) (a:=l) (xs:=(wl s).map V.int) (λi σ H2=>∃(v2:Option V),σ = [some (.ref t),some (.int (s:Int)),v2]∧Same H1 H2∧((wl s).take i).filter (λw=>bad w.toNat)=[])
  ⟨none,rfl,Same.refl _,rfl⟩ (λi σ H2 _ hh0=>by obtain⟨_,_,z,_⟩:=hh0; exact SqL.of (z _ _ e1)) ?_ ?_
 ·rintro i v σ H2 hv ⟨v2,rfl,s2,no⟩
  have hi:i < (wl s).length:=by
   have:=(List.getElem?_eq_some_iff.mp hv).1
   lia
  have hw:(wl s)[i]? = some (wl s)[i]:=getElem?_eq_getElem hi
  have hv':v=.int (wl s)[i]:=by
   rw[getElem?_map,hw]at hv
   exact(Option.some.inj hv).symm
  subst hv'
  obtain⟨w0,w1⟩:=Zgu hs (getElem_mem hi)
  have htk:(wl s).take (i + 1)=(wl s).take i ++ [(wl s)[i]]:=take_succ_eq_append_getElem hi
  generalize (wl s)[i]=wv at hw w0 w1 htk
  obtain⟨j,rfl⟩:∃j:Nat,(j:Int)=wv:=⟨wv.toNat,toNat_of_nonneg w0⟩
  have hj:j < xs.length:=by lia
  have hx:xs[j]? = some xs[j]:=getElem?_eq_getElem hj
  have s12:=s1.trans s2
  have yes:bad j=true→∀H3,Same H2 H3→Q (.bl false) H3:=λhb H3 s3=>by
   obtain⟨r,er⟩:=flt_at (p:=λw=>bad w.toNat) hw no (by rw[toNat_natCast]; exact hb)
   have:=q H3 (s12.trans s3)
   rw[er]at this
   exact this
  have goon:bad j=false→((wl s).take (i + 1)).filter (λw=>bad w.toNat)=[]:=λhb=>by
   rw[htk,filter_append,no]
   simp[hb]
  rcases tb j _ hx with⟨b,e,hv',hb,hbad⟩ | ⟨o,hv',hso,hbad⟩
  ·have hat:atI xs (j:Int)=some (.ref b):=Zav (by rw[hx,hv'])
   refine⟨_,rfl,_,rfl,t,_,_,_,rfl,rfl,SqL.of (s12 _ _ ht),hat,zero_le _,λl0 hl0=>?_⟩
   have s3:Same H2 (upd H2 l0 (.lst [])):=Same.new hl0
   have e3:(upd H2 l0 (.lst [])) l0=some (.lst (([]:List Int).map V.int)):=Zac
   generalize (upd H2 l0 (.lst []))=H3 at s3 e3 ⊢
   refine⟨_,_,.lst (s3 _ _ (s12 _ _ hb)) (RdWs.of (Zes e)),.lst e3 (RdWs.of (Zes [])),Zfe _,Zfe _,_,rfl,?_⟩
   cases e with
   | nil=>
    rw[Zld]
    refine iteT ?_
    exact yes hbad H3 s3
   | cons z0 zr=>
    rw[eqv_e]
    refine iteF ?_
    refine⟨_,rfl,_,rfl,t,_,_,_,rfl,rfl,SqL.of ((s12.trans s3) _ _ ht),hat,rfl,_,rfl,?_⟩
    refine iteF ?_
    exact⟨_,rfl,s2.trans s3,goon hbad⟩
  have hat:atI xs (j:Int)=some (oS o):=Zav (by rw[hx,hv'])
  refine⟨_,rfl,_,rfl,t,_,_,_,rfl,rfl,SqL.of (s12 _ _ ht),hat,zero_le _,λl0 hl0=>?_⟩
  have s3:Same H2 (upd H2 l0 (.lst [])):=Same.new hl0
  have e3:(upd H2 l0 (.lst [])) l0=some (.lst (([]:List Int).map V.int)):=Zac
  generalize (upd H2 l0 (.lst []))=H3 at s3 e3 ⊢
  cases o with
  | none=>
   refine⟨_,_,.flat .non,.lst e3 (RdWs.of (Zes [])),sh_non,Zfe _,_,rfl,?_⟩
   rw[eqv_ne]
   refine iteF ?_
   refine⟨_,rfl,_,rfl,t,_,_,_,rfl,rfl,SqL.of ((s12.trans s3) _ _ ht),hat,rfl,_,rfl,?_⟩
   refine iteT ?_
   exact yes hbad H3 s3
  | some y=>
   refine⟨_,_,.flat (.str y),.lst e3 (RdWs.of (Zes [])),sh_str (hso y rfl),Zfe _,_,rfl,?_⟩
   rw[eqv_se]
   refine iteF ?_
   refine⟨_,rfl,_,rfl,t,_,_,_,rfl,rfl,SqL.of ((s12.trans s3) _ _ ht),hat,rfl,_,rfl,?_⟩
   refine iteF ?_
   exact⟨_,rfl,s2.trans s3,goon hbad⟩
 rintro σ H2 ⟨v2,rfl,s2,no⟩
 rw[hl1,take_length]at no
 have:=q H2 (s1.trans s2)
 rw[no]at this
 exact this
theorem ok_lmade {f f1:Addr}{fd d1:FuncData}(F:Fun K "_law_made" "_law_made" Zfy f fd) (D_l_list:Df K mg "_law_list" Zd2 Zf8 f1 d1) (G_l_list:FnOk P w K mg base CX0 1 f1 d1 Zf8 spWof):FnOk P w K mg base CX0 2 f fd Zkx spLMade:=by
 refine F.ok scLMade (λvs H Q E h=>?_) (λcdv A outer s0 H vs Q E hr1 h=>?_)
 ·obtain⟨t,s,m,es,d,rfl,_⟩:=h
  rfl
 obtain⟨t,s,m,es,d,rfl,ht,he,dok,m2,hs,q⟩:=h
 refine⟨_,(Zad (Zas (i:=2) scLMade.nd rfl (Or.inl rfl) Zah)
  (Zad (Zba PassesOwn.never rfl (Zaz (Zai G_l_list hr1 (by rfl) D_l_list.m D_l_list.F.kp D_l_list.b .nil Zap (Zaa (pv 1) Zae))) (Zao (i:=3) scLMade.nd rfl (Or.inl rfl))
   (Zaf (Zba PassesOwn.never rfl (Zaz (Za3 Zch (pv 0) (pv 3) (λ_ _=>rfl))) (Zao (i:=4) scLMade.nd rfl (Or.inl rfl))
   (Zaf (Zas (i:=2) scLMade.nd rfl (Or.inl rfl) (Zaw Zjg (pv 2) (Zaw Zd8 Zah (pv 4))))))))
  (Zaf (Zan (pv 2))))),?_⟩
 have hel:=he.len
 have hdl:=dok.len
 refine⟨_,rfl,s,rfl,Zlq hs m2,λl H1 s1 hl e1=>⟨l,rfl,⟨_,SqL.of e1⟩,?_⟩⟩
 have hl1:((wl s).map V.int).length=(wl s).length:=length_map ..
 refine Za5 (K:=K) (a:=l) (xs:=(wl s).map V.int) (λi σ H2=>∃(v3 v4:Option V),σ = [some (.ref t),some (.int (s:Int)),some (.int ((bt (((wl s).take i).flatMap (lead (.did d))):Nat):Int)),v3,v4]∧H2=H1)
  ⟨none,none,rfl,rfl⟩ (λi σ H2 _ hh0=>by obtain⟨_,_,_,z⟩:=hh0; rw[z]; exact SqL.of e1) ?_ ?_
 ·rintro i v σ H2 hv ⟨v3,v4,rfl,rfl⟩
  have hi:i < (wl s).length:=by
   have:=(List.getElem?_eq_some_iff.mp hv).1
   lia
  have hw:(wl s)[i]? = some (wl s)[i]:=getElem?_eq_getElem hi
  have hv':v=.int (wl s)[i]:=by
   rw[getElem?_map,hw]at hv
   exact(Option.some.inj hv).symm
  subst hv'
  obtain⟨w0,w1⟩:=Zgu hs (getElem_mem hi)
  have htk:(wl s).take (i + 1)=(wl s).take i ++ [(wl s)[i]]:=take_succ_eq_append_getElem hi
  generalize (wl s)[i]=wv at hw w0 w1 htk
  obtain⟨j,rfl⟩:∃j:Nat,(j:Int)=wv:=⟨wv.toNat,toNat_of_nonneg w0⟩
  have hje:j < es.length:=by lia
  obtain⟨en,hen,henm,eb,hev,heb⟩:=he.at (getElem?_eq_getElem hje)
  have hat:atI es (j:Int)=some (.ref eb):=Zav (by rw[getElem?_eq_getElem hje,hev])
  have hld:lead (.did d) (j:Int)=en:=by
   show d.tab.getD ((j:Int)).toNat []=_
   rw[toNat_natCast,getD_eq_getElem?_getD,hen]
   rfl
  have hinn:=dok.inn en henm
  have hfew:=dok.few en henm
  have hl2:(en.map V.int).length=en.length:=length_map ..
  refine⟨_,rfl,_,rfl,t,_,_,_,rfl,rfl,SqL.of (s1 _ _ ht),hat,eb,rfl,⟨_,SqL.of (s1 _ _ heb)⟩,?_⟩
  refine Za5 (K:=K) (a:=eb) (xs:=en.map V.int) (λi2 σ H3=>∃(v4:Option V),σ = [some (.ref t),some (.int (s:Int)),some (.int ((bt (((wl s).take i).flatMap (lead (.did d)) ++ en.take i2):Nat):Int)),some (.int (j:Int)),v4]∧H3=H2)
   ⟨v4,by rw[take_zero,append_nil]; rfl,rfl⟩ (λi2 σ H3 _ hh0=>by obtain⟨_,_,z⟩:=hh0; rw[z]; exact SqL.of (s1 _ _ heb)) ?_ ?_
  ·rintro i2 v σ H3 hv ⟨v4,rfl,rfl⟩
   rw[getElem?_map]at hv
   obtain⟨n,en2,rfl⟩:=map_eq_some_iff.mp hv
   have hi2:i2 < en.length:=(List.getElem?_eq_some_iff.mp en2).1
   have hni:en[i2]=n:=(List.getElem?_eq_some_iff.mp en2).2
   have hn2:=hinn n (mem_of_getElem? en2)
   have key:Builtin.bitOr ((bt (((wl s).take i).flatMap (lead (.did d)) ++ en.take i2):Nat):Int) (1 * 2 ^ n.toNat)=((bt (((wl s).take i).flatMap (lead (.did d)) ++ en.take (i2 + 1)):Nat):Int):=by
    rw[take_succ_eq_append_getElem hi2,hni,← append_assoc,Zix,one_mul,Zh2,Zga]
   refine⟨_,rfl,_,rfl,_,_,rfl,rfl,⟨hn2.1,by lia,by decide⟩,_,_,rfl,rfl,?_⟩
   exact⟨some (.int n),by rw[← key]; rfl,rfl⟩
  rintro σ H3 ⟨v4,rfl,rfl⟩
  refine⟨some (.int (j:Int)),v4,?_,rfl⟩
  rw[hl2,take_length,htk,List.flatMap_append]
  simp only[List.flatMap_cons,List.flatMap_nil,append_nil,hld]
 rintro σ H2 ⟨v3,v4,rfl,rfl⟩
 rw[hl1,take_length]
 exact⟨_,rfl,q H2 s1⟩
theorem ok_split {f f1:Addr}{fd d1:FuncData}(F:Fun K "_law_split" "_law_split" Zdf f fd) (T:Bl mg) (D_l_list:Df K mg "_law_list" Zd2 Zf8 f1 d1) (G_l_list:FnOk P w K mg base CX0 1 f1 d1 Zf8 spWof):FnOk P w K mg base CX0 2 f fd Zid spSplit:=by
 refine F.ok scLSplit (λvs H Q E h=>?_) (λcdv A outer s0 H vs Q E hr1 h=>?_)
 ·obtain⟨t,s,m,l,as,rfl,_⟩:=h
  rfl
 obtain⟨t,s,m,lo,as,rfl,ht,hxl,m2,hs,hb,has,a3,q⟩:=h
 have hu:=Zdr hr1
 have hsl:sizeLine=16777216:=sizeLine_eq
 refine⟨_,(Zad (Zas (i:=2) scLSplit.nd rfl (Or.inr rfl) Zc5)
  (Zad (Zba PassesOwn.never rfl (Zaz (Zai G_l_list hr1 (by rfl) D_l_list.m D_l_list.F.kp D_l_list.b .nil Zap (Zaa (pv 1) Zae))) (Zao (i:=3) scLSplit.nd rfl (Or.inl rfl))
   (Zaf (Zc7 hu (pv 2) (Za3 Zch (pv 0) (pv 3) (λ_ _=>rfl)) (Zaw Zb2 (Zkn hu (pv 2) (Za3 Zch (pv 0) (pv 3) (λ_ _=>rfl)) Zah ⟨by rfl,by rfl,by rfl,by rfl⟩) (Zaw Zd8 Zah (pv 3))) rfl)))
  (Zaf (Zan (Zdv (N:=["_law_answer", "_law_found"]) (sc:=Zab Zdf) (own:=["_law_answer"]) (fr:=["_law_found"]) (js:=[2]) ⟨rfl,rfl,rfl,rfl,by decide +kernel,by decide +kernel,by decide +kernel,rfl,by decide +kernel⟩ rfl (Zaz (Za0 (call_sortedD rfl) (by rfl) T.sorted Zfc (Zaa (pv 2) Zae))) (λ_ _ _ _=>Zao (i:=0) (show List.Nodup (["_law_answer", "_law_found"]:List Str) by decide +kernel) rfl (Or.inl rfl)) (λ_ _ _ _=>Zbs) (λ_ _ _ _=>(Zd7 hu (pv 1) (pv 0) (λ_ _=>rfl)))))))),?_⟩
 have ml:=Zj8 s lo.tab
 have nm:∀i,nxt s m i≤m:=λi=>by
  unfold nxt
  split
  ·rename_i w hw
   have:=Zgu hs (mem_of_getElem? hw)
   lia
  exact Nat.le_refl _
 intro d hd
 have s0:Same H (upd H d (.dK [])):=Same.new hd
 have e0:(upd H d (.dK [])) d=some (.dK (([]:List (Str×V)).map kf)):=Zac
 generalize (upd H d (.dK []))=H0 at s0 e0 ⊢
 refine⟨_,rfl,s,rfl,Zlq hs m2,λl H1 s1 hl e1=>⟨l,rfl,⟨_,SqL.of e1⟩,?_⟩⟩
 have hl1:((wl s).map V.int).length=(wl s).length:=length_map ..
 have hld:l≠d:=λz=>by rw[z,e0]at hl; cases hl
 have start0:PsOk ((msk s lo.tab).take (nxt s m 0)) []:=by
  rw[Zmg (a:=0) (zero_le _) (by have:=nm 0; lia) λj _ hj=>Zne (λk w hk=>absurd hk (by lia)) hj,take_zero]
  exact PsOk.zero.skips _
 have few:∀{k:Nat}{ps:List (Str×V)},PsOk ((msk s lo.tab).take k) ps→ps.length≤3:=λ{k ps} po=>by
  have h1:(ps.map (·.1)).length≤as.length:=List.Nodup.length_le_of_subset po.nd λz hz=>by
   obtain⟨j,hj⟩:=getElem?_of_mem (mem_of_mem_take ((po.has z).mpr hz))
   exact has z (mem_of_getElem? (msk_at.mp hj).2)
  rw[length_map]at h1
  lia
 refine Za5 (K:=K) (a:=l) (xs:=(wl s).map V.int) (λi σ H2=>∃(v3:Option V) (ps:List (Str×V)),σ = [some (.ref t),some (.int (s:Int)),some (.ref d),v3]∧(∀c u,H1 c=some u→c≠d→H2 c=some u)∧H2 d=some (.dK (ps.map kf))∧PsOk ((msk s lo.tab).take (nxt s m i)) ps)
  ⟨none,[],rfl,λc u z _=>z,s1 _ _ e0,start0⟩ (λi σ H2 _ hh0=>by obtain⟨_,_,_,z,_⟩:=hh0; exact SqL.of (z _ _ e1 hld)) ?_ ?_
 ·rintro i v σ H2 hv ⟨v3,ps,rfl,s2,e2,po⟩
  have hi:i < (wl s).length:=by
   have:=(List.getElem?_eq_some_iff.mp hv).1
   lia
  have hw:(wl s)[i]? = some (wl s)[i]:=getElem?_eq_getElem hi
  have hv':v=.int (wl s)[i]:=by
   rw[getElem?_map,hw]at hv
   exact(Option.some.inj hv).symm
  subst hv'
  have hwm:=getElem_mem hi
  obtain⟨w0,w1⟩:=Zgu hs hwm
  have hnx:nxt s m i=(wl s)[i].toNat:=by unfold nxt; rw[hw]
  have later:∀j,(wl s)[i].toNat + 1≤j→j < nxt s m (i + 1)→s.testBit j=false:=λj h1 h2=>Zne (λk w hk hkw=>by
   have hkl:=(List.getElem?_eq_some_iff.mp hkw).1
   have ekw:=(List.getElem?_eq_some_iff.mp hkw).2
   rcases lt_or_ge k i with h3 | h3
   ·have:=(pairwise_iff_getElem.mp (Zeq s)) k i hkl hi h3
    lia
   have e3:k=i:=by lia
   subst e3
   lia) h2
  have nle:(wl s)[i].toNat + 1≤nxt s m (i + 1):=by
   unfold nxt
   split
   ·rename_i w' hw'
    obtain⟨hl',e'⟩:=List.getElem?_eq_some_iff.mp hw'
    have:=(pairwise_iff_getElem.mp (Zeq s)) i (i + 1) hi hl' (by lia)
    lia
   lia
  rw[hnx]at po
  generalize (wl s)[i]=wv at hw w0 w1 later nle po hwm
  obtain⟨j,rfl⟩:∃j:Nat,(j:Int)=wv:=⟨wv.toNat,toNat_of_nonneg w0⟩
  rw[toNat_natCast]at later nle po
  have hj:j < lo.tab.length:=by lia
  have sb:s.testBit j=true:=by
   have:=(wl_mem.mp hwm).2
   rwa [toNat_natCast]at this
  obtain⟨z,hz⟩:∃z,lo.tab[j]=some z:=by
   cases ho:lo.tab[j]with
   | some z=>exact⟨z,rfl⟩
   | none=>
    have:(j:Int)∈bdL lo s:=mem_filter.mpr ⟨hwm,by rw[toNat_natCast,getElem?_eq_getElem hj,ho]; simp⟩
    rw[hb]at this
    cases this
  have hat:atI (lo.tab.map oS) (j:Int)=some (.str z):=Zav (by rw[getElem?_map,getElem?_eq_getElem hj,hz]; rfl)
  have ht2:H2 t=some (.lst (lo.tab.map oS)):=s2 _ _ ((s0.trans s1) _ _ ht) (Zag ht hd)
  have hst:(msk s lo.tab).take (j + 1)=(msk s lo.tab).take j ++ [some z]:=by
   rw[take_succ,Zj9 hj,if_pos sb,getD_eq_getElem?_getD,getElem?_eq_getElem hj,hz]
   rfl
  have hpl:=few po
  have key:((bt (ixs ((msk s lo.tab).take j) z):Nat):Int) + 1 * 2 ^ ((j:Int)).toNat=((bt (ixs ((msk s lo.tab).take j ++ [some z]) z):Nat):Int):=by
   have sm:bt (ixs ((msk s lo.tab).take j) z) < 2 ^ j:=ixs_small (by rw[length_take]; lia)
   have lt:((msk s lo.tab).take j).length=j:=by rw[length_take]; lia
   rw[Zgt,if_pos rfl,lt,Zix,one_mul,Zh2,toNat_natCast]
   have:=Nat.two_pow_add_eq_or_of_lt sm 1
   rw[Nat.mul_one]at this
   rw[Nat.or_comm,← this]
   lia
  refine⟨_,rfl,d,rfl,.inl ⟨_,.inl e2⟩,_,rfl,_,rfl,t,_,_,_,rfl,rfl,SqL.of ht2,hat,_,DGet.k (k:=(Sum.inr z:Key)) e2,?_⟩
  rw[po.old z]
  refine⟨_,rfl,_,_,rfl,rfl,⟨by lia,by lia,by decide⟩,_,_,rfl,rfl,?_⟩
  rw[key]
  obtain⟨ps',e',po'⟩:=po.put z
  refine⟨_,rfl,_,rfl,_,rfl,t,_,_,_,rfl,rfl,SqL.of ht2,hat,d,_,rfl,DPut.k (k:=(Sum.inr z:Key)) e2 (by rw[length_map]; lia),?_⟩
  rw[e']
  refine⟨_,ps',rfl,λc u hc nc=>by rw[Zaj nc]; exact s2 _ _ hc nc,Zac,?_⟩
  rw[Zmg nle (by have:=nm (i + 1); lia) later,hst]
  exact po'.skips _
 rintro σ H2 ⟨v3,ps,rfl,s2,e2,po⟩
 have hend:nxt s m ((wl s).map V.int).length=m:=by
  unfold nxt
  rw[hl1,getElem?_eq_none (Nat.le_refl _)]
 rw[hend,take_of_length_le (by lia)]at po
 have s02:Same H H2:=λc u hc=>s2 _ _ ((s0.trans s1) _ _ hc) (Zag hc hd)
 have h3:ps.length≤3:=few (k:=m) (by rw[take_of_length_le (by lia)]; exact po)
 refine⟨_,rfl,d,ps,rfl,e2,by lia,λlz zs hlz pm so=>?_⟩
 have s3:Same H2 (upd H2 lz (.lst (zs.map V.str))):=Same.new hlz
 have e3:(upd H2 lz (.lst (zs.map V.str))) lz=some (.lst (zs.map V.str)):=Zac
 generalize (upd H2 lz (.lst (zs.map V.str)))=H3 at s3 e3 ⊢
 have zl:=pm.length_eq
 rw[length_map]at zl
 have z2:(zs.map V.str).length=zs.length:=length_map ..
 have s03:=s02.trans s3
 refine⟨lz,rfl,⟨_,SqL.of e3⟩,λD hD=>?_⟩
 refine lcJ (n:=(zs.map V.str).length) (λi ys H4=>ys=nV ((zs.take i).map λz=>bt (ixs (msk s lo.tab) z))∧Same H3 H4∧H4 D=some (.lst ys))
  ⟨by rw[take_zero]; rfl,Same.new hD,Zac⟩ (λi ys H4 hi ⟨_,s4,_⟩=>⟨_,(zs.map V.str)[i],SqL.of (s4 _ _ e3),getElem?_eq_getElem hi⟩) (λys H4 hh0=>by obtain⟨_,s4,_⟩:=hh0; exact⟨_,SqL.of (s4 _ _ e3),Nat.le_refl _⟩) ?_ ?_
 ·rintro i ys H4 v H5 hi ⟨rfl,s4,e4⟩ ⟨rfl,hy⟩
  have hv:=hy _ (SqL.of (s4 _ _ e3))
  rw[getElem?_map]at hv
  obtain⟨z,hz,rfl⟩:=map_eq_some_iff.mp hv
  have hiz:=(List.getElem?_eq_some_iff.mp hz).1
  have ez:=(List.getElem?_eq_some_iff.mp hz).2
  have htk:zs.take (i + 1)=zs.take i ++ [z]:=by rw[take_succ_eq_append_getElem hiz,ez]
  have dg:DGet H5 d (.str z) (some (.int (bt (ixs (msk s lo.tab) z):Nat))):=.inl ⟨_,(Sum.inr z:Key),.inl (s4 _ _ (s3 _ _ e2)),rfl,(valP_some po (pm.mem_iff.mp (mem_of_getElem? hz))).symm⟩
  refine Zce ?_
  refine⟨_,rfl,_,rfl,d,_,rfl,dg,?_⟩
  refine⟨_,e4,by rw[length_map,length_map,length_take]; lia,?_,s4.put hD,Zac⟩
  rw[htk,map_append,Zmf]
  rfl
 rintro ys H4 ⟨rfl,s4,e4⟩
 rw[z2,take_length]at e4
 refine q D (zs.map λz=>(z,bt (ixs (msk s lo.tab) z))) H4 (s03.trans s4) (s03.free hD) ?_ (ptOf_due po pm so)
 rw[map_map]
 exact e4
theorem ok_steps {f f1 f2 f3:Addr}{fd d1 d2 d3:FuncData}(F:Fun K "_law_steps" "_law_steps" Zd1 f fd) (D_l_can:Df K mg "_law_can" Zi8 Zm7 f1 d1) (G_l_can:FnOk P w K mg base CX0 2 f1 d1 Zm7 spLCan) (D_l_made:Df K mg "_law_made" Zfy Zkx f2 d2) (G_l_made:FnOk P w K mg base CX0 2 f2 d2 Zkx spLMade)
  (D_l_split:Df K mg "_law_split" Zdf Zid f3 d3) (G_l_split:FnOk P w K mg base CX0 2 f3 d3 Zid spSplit):FnOk P w K mg base CX0 3 f fd Zic spSteps:=by
 refine F.ok scLSteps (λvs H Q E h=>?_) (λcdv A outer s0 H vs Q E hr2 h=>?_)
 ·obtain⟨dt,m,e,as,s,rfl,_⟩:=h
  rfl
 obtain⟨dt,m,e,as,s,rfl,D0,ok,sk,hs,q⟩:=h
 have hsl:sizeLine=16777216:=sizeLine_eq
 have m2:=ok.ch.m2
 obtain⟨l1,l2,us,ws,hdt,h1,h2,hd,hl⟩:=D0.ex
 have b0:∀u v x y:V,atI [u,v,x,y] ((0:Nat):Int)=some u:=λ_ _ _ _=>Zav rfl
 have b1:∀u v x y:V,atI [u,v,x,y] ((1:Nat):Int)=some v:=λ_ _ _ _=>Zav rfl
 have b3:∀u v x y:V,atI [u,v,x,y] ((3:Nat):Int)=some y:=λ_ _ _ _=>Zav rfl
 have a1:∀u v z:V,atI [u,v,z] ((1:Nat):Int)=some v:=λ_ _ _=>Zav rfl
 have a2:∀u v z:V,atI [u,v,z] ((2:Nat):Int)=some z:=λ_ _ _=>Zav rfl
 have h40:=ok.ch.fd
 have h40':=ok.ch.fl
 refine⟨_,(Zad (Zas (i:=2) scLSteps.nd rfl (Or.inl rfl) (Zb6 Zae))
  (Zad (Zba PassesOwn.never rfl (Zaz (Za3 Za6 (pv 0) Zah (λ_ _=>rfl))) (Zao (i:=3) scLSteps.nd rfl (Or.inl rfl))
   (Zaf (Za4 (Zcs (Zai G_l_can hr2 (by rfl) D_l_can.m D_l_can.F.kp D_l_can.b .nil Zap (Zaa (Za3 Za6 (pv 3) Zah (λ_ _=>rfl)) (Zaa (pv 1) Zae)))) (Zad (Zas (i:=4) scLSteps.nd rfl (Or.inl rfl) (Zai G_l_made hr2 (by rfl) D_l_made.m D_l_made.F.kp D_l_made.b .nil Zap (Zaa (Za3 Za6 (pv 3) Zah (λ_ _=>rfl)) (Zaa (pv 1) Zae))))
  (Zaf (Za4 (Zau Zdw (Zaw Zjg (pv 4) (Za3 Za6 (pv 0) Zah (λ_ _=>rfl))) (Za3 Za6 (pv 0) Zah (λ_ _=>rfl)) (Zay _)) (Zaf (Za1 (Zge PySem.F.plainAttrs_list PySem.F.slot_list_append PySem.F.type_list_append Zbi (pv 2) (Zaa (Zct (Zaa (Za3 Za6 (pv 3) Zah (λ_ _=>rfl)) (Zaa (Zb6 (Zaa (pv 4) Zae)) Zae))) Zae)))) Zar))) Zar)))
  (Zad (Zba PassesOwn.never rfl (Zaz (Za3 Za6 (pv 0) Zah (λ_ _=>rfl))) (Zao (i:=5) scLSteps.nd rfl (Or.inl rfl))
   (Zaf (Za4 (Zcs (Zai G_l_can hr2 (by rfl) D_l_can.m D_l_can.F.kp D_l_can.b .nil Zap (Zaa (Za3 Za6 (pv 5) Zah (λ_ _=>rfl)) (Zaa (pv 1) Zae)))) (Zaf (Za1 (Zge PySem.F.plainAttrs_list PySem.F.slot_list_append PySem.F.type_list_append Zbi (pv 2) (Zaa (Zct (Zaa (Za3 Za6 (pv 5) Zah (λ_ _=>rfl)) (Zaa (Zai G_l_split hr2 (by rfl) D_l_split.m D_l_split.F.kp D_l_split.b .nil Zap (Zaa (Za3 Za6 (pv 5) Zah (λ_ _=>rfl)) (Zaa (pv 1) Zae))) Zae))) Zae)))) Zar)))
  (Zaf (Zan (pv 2)))))),?_⟩
 refine⟨zero_le _,λmv hmv=>?_⟩
 have s1:Same H (upd H mv (.lst [])):=Same.new hmv
 have e1:(upd H mv (.lst [])) mv=some (.lst []):=Zac
 generalize (upd H mv (.lst []))=H1 at s1 e1 ⊢
 refine⟨_,rfl,dt,_,_,_,rfl,rfl,SqT.of (s1 _ _ hdt),b0 _ _ _ _,l1,rfl,⟨_,SqL.of (s1 _ _ h1)⟩,?_⟩
 refine Za5 (K:=K) (a:=l1) (xs:=us) (λi σ H3=>∃(v3 v4:Option V) (vs:List V) (ms:List (Int×List Nat)),σ = [some (.ref dt),some (.int (s:Int)),some (.ref mv),v3,v4,none]∧Same H H3∧H3 mv=some (.lst vs)∧A2 (M1 (rm H3 [mv])) vs ms∧(∀q,q∈ms↔DMv e (e.ds.take i) s q)∧ms.length≤i)
  ⟨none,none,[],[],rfl,s1,e1,.nil,λq=>⟨λh=>(nomatch h),λ⟨d,hd,_⟩=>by rw[take_zero]at hd; cases hd⟩,Nat.le_refl _⟩ (λi σ H3 _ hh0=>by obtain⟨_,_,_,_,_,z,_⟩:=hh0; exact SqL.of (z _ _ h1)) ?_ ?_
 ·rintro i v σ H3 hv ⟨v3,v4,vs,ms,rfl,s3,em,am,mem,len⟩
  obtain⟨de,hde,hmem,tb,es,⟨o,rfl,ho⟩,htb,hes⟩:=hd.at hv
  have hi:=(List.getElem?_eq_some_iff.mp hde).1
  have htk:e.ds.take (i + 1)=e.ds.take i ++ [de]:=by rw[take_succ_eq_append_getElem hi,(List.getElem?_eq_some_iff.mp hde).2]
  have vl:=am.len
  have dok:=ok.ch.de de hmem
  have tbv:∀{G:Hp},Same H G→∀(i:Nat) v,es[i]? = some v→TbV G v (decide (de.tab[i]? = some [])):=λ{G} sG i v hv=>by
   obtain⟨en,hen,_,b,rfl,hb⟩:=hes.at hv
   refine .lst b en rfl (sG _ _ hb) ?_
   rw[hen,Bool.eq_iff_iff,decide_eq_true_eq,decide_eq_true_eq,Option.some.injEq]
  have skip:¬(bdD de s=[]∧Sb (Zcw (.did de) s) e.k)→∀q,q∈ms↔DMv e (e.ds.take (i + 1)) s q:=λno q=>by
   rw[mem,htk]
   constructor
   ·rintro⟨d,hd,r⟩
    exact⟨d,mem_append_left _ hd,r⟩
   rintro⟨d,hd,r1,r2,r3⟩
   rcases(mem_append.mp hd)with hd | hd
   ·exact⟨d,hd,r1,r2,r3⟩
   rw[mem_singleton.mp hd]at r1 r2
   exact absurd ⟨r1,r2⟩ no
  refine⟨_,rfl,o,_,_,_,rfl,rfl,SqT.of (s3 _ _ ho),a2 _ _ _,_,rfl,tb,s,m,es,(λi=>decide (de.tab[i]? = some [])),rfl,s3 _ _ htb,hes.len.trans dok.len,m2,hs,tbv s3,λH4 s4=>⟨_,rfl,?_⟩⟩
  have s04:=s3.trans s4
  by_cases can:bdD de s=[]
  ·refine ite2 (λ_=>?_) (λz=>absurd (decide_eq_true can) z)
   refine⟨_,rfl,o,_,_,_,rfl,rfl,SqT.of (s04 _ _ ho),a2 _ _ _,_,rfl,tb,s,m,es,de,rfl,s04 _ _ htb,hes.mono λv t _ r=>r.same s04,dok,m2,hs,λH5 s5=>?_⟩
   have s05:=s04.trans s5
   refine⟨_,rfl,_,rfl,dt,_,_,_,rfl,rfl,SqT.of (s05 _ _ hdt),b3 _ _ _ _,_,_,rfl,rfl,_,rfl,dt,_,_,_,rfl,rfl,SqT.of (s05 _ _ hdt),b3 _ _ _ _,rfl,_,rfl,?_⟩
   rw[Zn4]
   have em5:=s5 _ _ (s4 _ _ em)
   by_cases kp:Sb (Zcw (.did de) s) e.k
   ·refine ite2 (λ_=>?_) (λz=>absurd (decide_eq_true kp) z)
    refine⟨_,rfl,.inl ⟨rfl,_,SqL.of em5⟩,_,rfl,o,_,_,_,rfl,rfl,SqT.of (s05 _ _ ho),a1 _ _ _,?_⟩
    refine⟨_,rfl,by show 1≤sizeLine; lia,λb hb=>?_⟩
    have s6:Same H5 (upd H5 b (.lst [.int (Zcw (.did de) s:Nat)])):=Same.new hb
    have e6:(upd H5 b (.lst [.int (Zcw (.did de) s:Nat)])) b=some (.lst [.int (Zcw (.did de) s:Nat)]):=Zac
    generalize (upd H5 b (.lst [.int (Zcw (.did de) s:Nat)]))=H6 at s6 e6 ⊢
    refine⟨by show 2≤sizeLine; lia,λt ht=>?_⟩
    have s7:Same H6 (upd H6 t (.tup [.int de.price,.ref b])):=Same.new ht
    have e7:(upd H6 t (.tup [.int de.price,.ref b])) t=some (.tup [.int de.price,.ref b]):=Zac
    generalize (upd H6 t (.tup [.int de.price,.ref b]))=H7 at s7 e7 ⊢
    have s37:=((s4.trans s5).trans s6).trans s7
    refine⟨mv,vs,_,rfl,rfl,s7 _ _ (s6 _ _ em5),by lia,?_⟩
    refine⟨_,_,vs ++ [.ref t],ms ++ [(de.price,[Zcw (.did de) s])],rfl,((s3.trans s37).put hmv),Zac,?_,λq=>?_,by rw[length_append]; exact add_le_add_right len 1⟩
    ·rw[Zdt (by simp)]
     refine(am.mono λv t _ r=>r.same (Zbf s37)).app (.one ⟨t,b,rfl,?_,?_⟩)
     ·rw[Zbm (by simpa using (Zag (s6 _ _ em5) ht).symm)]
      exact e7
     rw[Zbm (by simpa using (Zag em5 hb).symm)]
     exact s7 _ _ e6
    rw[mem_append,mem,htk]
    constructor
    ·rintro(⟨d,hd,r⟩ | hq)
     ·exact⟨d,mem_append_left _ hd,r⟩
     exact⟨de,mem_append_right _ (mem_singleton.mpr rfl),can,kp,mem_singleton.mp hq⟩
    rintro⟨d,hd,r1,r2,r3⟩
    rcases(mem_append.mp hd)with hd | hd
    ·exact .inl ⟨d,hd,r1,r2,r3⟩
    rw[mem_singleton.mp hd]at r3
    exact .inr (mem_singleton.mpr r3)
   refine ite2 (λz=>absurd (of_decide_eq_true z) kp) (λ_=>?_)
   exact⟨_,_,vs,ms,rfl,s05,em5,am.mono λv t _ r=>r.same (Zbf (s4.trans s5)),skip λz=>kp z.2,le_succ_of_le len⟩
  refine ite2 (λz=>absurd (of_decide_eq_true z) can) (λ_=>?_)
  exact⟨_,v4,vs,ms,rfl,s04,s4 _ _ em,am.mono λv t _ r=>r.same (Zbf s4),skip λz=>can z.1,le_succ_of_le len⟩
 rintro σ H3 ⟨v3,v4,vs,ms,rfl,s3,em,am,mem,len⟩
 have ul:=hd.len
 rw[ul]at mem len
 rw[take_length]at mem
 refine⟨_,rfl,dt,_,_,_,rfl,rfl,SqT.of (s3 _ _ hdt),b1 _ _ _ _,l2,rfl,⟨_,SqL.of (s3 _ _ h2)⟩,?_⟩
 refine Za5 (K:=K) (a:=l2) (xs:=ws) (λi σ H4=>∃(v5:Option V) (vs:List V) (ms2:List (Int×List Nat)),σ = [some (.ref dt),some (.int (s:Int)),some (.ref mv),v3,v4,v5]∧Same H H4∧H4 mv=some (.lst vs)∧A2 (M1 (rm H4 [mv])) vs (ms ++ ms2)∧(∀q,q∈ms2↔LMv (e.ls.take i) s q)∧ms2.length≤i)
  ⟨none,vs,[],rfl,s3,em,by rw[append_nil]; exact am,λq=>⟨λh=>(nomatch h),λ⟨d,hd,_⟩=>by rw[take_zero]at hd; cases hd⟩,Nat.le_refl _⟩ (λi σ H4 _ hh0=>by obtain⟨_,_,_,_,z,_⟩:=hh0; exact SqL.of (z _ _ h2)) ?_ ?_
 ·rintro i v σ H4 hv ⟨v5,vs,ms2,rfl,s4,em,am,mem2,len2⟩
  obtain⟨lo,hlo,hmem,tb,⟨o,rfl,ho⟩,htb⟩:=hl.at hv
  have hi:=(List.getElem?_eq_some_iff.mp hlo).1
  have htk:e.ls.take (i + 1)=e.ls.take i ++ [lo]:=by rw[take_succ_eq_append_getElem hi,(List.getElem?_eq_some_iff.mp hlo).2]
  have vl:=am.len
  rw[length_append]at vl
  have lol:=ok.ch.lo lo hmem
  have tbv:∀{G:Hp}(i:Nat) v,(lo.tab.map oS)[i]? = some v→TbV G v (decide (lo.tab[i]? = some none)):=λ{G} i v hv=>by
   rw[getElem?_map]at hv
   obtain⟨o',ho',rfl⟩:=map_eq_some_iff.mp hv
   refine .opt o' rfl (λz hz=>sk lo hmem z (by rw[← hz]; exact mem_of_getElem? ho')) ?_
   rw[ho',Bool.eq_iff_iff,decide_eq_true_eq,decide_eq_true_eq,Option.some.injEq]
  refine⟨_,rfl,o,_,_,_,rfl,rfl,SqT.of (s4 _ _ ho),a2 _ _ _,_,rfl,tb,s,m,_,(λi=>decide (lo.tab[i]? = some none)),rfl,s4 _ _ htb,by rw[length_map]; exact lol,m2,hs,tbv,λH5 s5=>⟨_,rfl,?_⟩⟩
  have s05:=s4.trans s5
  have em5:=s5 _ _ em
  by_cases can:bdL lo s=[]
  ·refine ite2 (λ_=>?_) (λz=>absurd (decide_eq_true can) z)
   refine⟨_,rfl,.inl ⟨rfl,_,SqL.of em5⟩,_,rfl,o,_,_,_,rfl,rfl,SqT.of (s05 _ _ ho),a1 _ _ _,?_⟩
   refine⟨_,rfl,o,_,_,_,rfl,rfl,SqT.of (s05 _ _ ho),a2 _ _ _,_,rfl,tb,s,m,lo,as,rfl,s05 _ _ htb,lol,m2,hs,can,ok.ch.an lo hmem,ok.ch.a3,λr qs H6 s6 hr er pt=>?_⟩
   refine⟨by show 2≤sizeLine; lia,λt ht=>?_⟩
   have s7:Same H6 (upd H6 t (.tup [.int lo.price,.ref r])):=Same.new ht
   have e7:(upd H6 t (.tup [.int lo.price,.ref r])) t=some (.tup [.int lo.price,.ref r]):=Zac
   generalize (upd H6 t (.tup [.int lo.price,.ref r]))=H7 at s7 e7 ⊢
   have em6:=s6 _ _ em5
   have s47:=(s5.trans s6).trans s7
   refine⟨mv,vs,_,rfl,rfl,s7 _ _ em6,by lia,?_⟩
   refine⟨_,vs ++ [.ref t],ms2 ++ [(lo.price,qs.map (·.2))],rfl,((s4.trans s47).put hmv),Zac,?_,λq=>?_,by rw[length_append]; exact add_le_add_right len2 1⟩
   ·rw[Zdt (by simp),← append_assoc]
    refine(am.mono λv t _ r=>r.same (Zbf s47)).app (.one ⟨t,r,rfl,?_,?_⟩)
    ·rw[Zbm (by simpa using (Zag em6 ht).symm)]
     exact e7
    rw[Zbm (by simpa using (Zag em5 hr).symm)]
    exact s7 _ _ er
   rw[mem_append,mem2,htk]
   constructor
   ·rintro(⟨d,hd,r⟩ | hq)
    ·exact⟨d,mem_append_left _ hd,r⟩
    exact⟨lo,mem_append_right _ (mem_singleton.mpr rfl),can,qs,pt,mem_singleton.mp hq⟩
   rintro⟨d,hd,r1,qs',r2,r3⟩
   rcases(mem_append.mp hd)with hd | hd
   ·exact .inl ⟨d,hd,r1,qs',r2,r3⟩
   rw[mem_singleton.mp hd]at r2 r3
   rw[r2.eq pt]at r3
   exact .inr (mem_singleton.mpr r3)
  refine ite2 (λz=>absurd (of_decide_eq_true z) can) (λ_=>?_)
  refine⟨_,vs,ms2,rfl,s05,em5,am.mono λv t _ r=>r.same (Zbf s5),λq=>?_,le_succ_of_le len2⟩
  rw[mem2,htk]
  constructor
  ·rintro⟨d,hd,r⟩
   exact⟨d,mem_append_left _ hd,r⟩
  rintro⟨d,hd,r1,r2⟩
  rcases(mem_append.mp hd)with hd | hd
  ·exact⟨d,hd,r1,r2⟩
  rw[mem_singleton.mp hd]at r1
  exact absurd r1 can
 rintro σ H4 ⟨v5,vs,ms2,rfl,s4,em,am,mem2,len2⟩
 have wl':=hl.len
 rw[wl']at mem2 len2
 rw[take_length]at mem2
 refine⟨_,rfl,q mv (ms ++ ms2) H4 s4 hmv ⟨vs,em,am.mono λv t _ r=>r.same Zdj⟩ (λq=>?_) (by rw[length_append]; lia)⟩
 obtain⟨p,ss⟩:=q
 rw[mem_append,mem,mem2]
 constructor
 ·rintro(⟨d,hd,r1,r2,r3⟩ | ⟨lo,hl,r1,qs,r2,r3⟩)
  ·cases r3
   exact .deed d hd r1 r2
  cases r3
  exact .look lo hl r1 qs r2
 intro h
 cases h with
 | deed d hd r1 r2=>exact .inl ⟨d,hd,r1,r2,rfl⟩
 | look lo hl r1 qs r2=>exact .inr ⟨lo,hl,r1,qs,r2,rfl⟩
theorem ok_worst {f f1:Addr}{fd d1:FuncData}(n:Nat) (F:Fun K "_law_worst" "_law_worst" Zdz f fd) (T:Bl mg) (D_l_value:Df K mg "_law_value" Zde Zc9 f1 d1) (G_l_value:FnOk P w K mg base CX0 (5 + 2 * n) f1 d1 Zc9 (spValue n)):FnOk P w K mg base CX0 (6 + 2 * n) f fd Zia (spWorst n):=by
 have e6:6 + 2 * n=5 + 2 * n + 1:=by lia
 rw[e6]
 refine F.ok scLWorst (λvs H Q E h=>?_) (λcdv A outer s0 H vs Q E hrV h=>?_)
 ·obtain⟨dt,t,b,d,m,e,as,p,ss,kvs,rfl,_⟩:=h
  rfl
 obtain⟨dt,t,b,d,m,e,as,p,ss,kvs,rfl,D0,ok,sk,n7,ht,hb,ne,lt,hd,me,q⟩:=h
 have hsl:sizeLine=16777216:=sizeLine_eq
 have a0:∀u v:V,atI [u,v] ((0:Nat):Int)=some u:=λ_ _=>Zav rfl
 have a1:∀u v:V,atI [u,v] ((1:Nat):Int)=some v:=λ_ _=>Zav rfl
 have bd:b≠d:=Zb4 hb hd (by intro z; cases z)
 have td:t≠d:=Zb4 ht hd (by intro z; cases z)
 have D1:=D0.cut hd
 have hn:(((n + 1:Nat):Int) - 1)=((n:Nat):Int):=by lia
 refine⟨_,(Zad (Zas (i:=4) scLWorst.nd rfl (Or.inl rfl) Zah)
  (Zad (Zba PassesOwn.never rfl (Zaz (Za3 Za6 (pv 1) Zah (λ_ _=>rfl))) (Zao (i:=5) scLWorst.nd rfl (Or.inl rfl))
   (Zad (Zas (i:=6) scLWorst.nd rfl (Or.inl rfl) (Zai G_l_value hrV (by rfl) D_l_value.m D_l_value.F.kp D_l_value.b .nil Zap (Zaa (pv 0) (Zaa (pv 5) (Zaa (Zaw Zjf (pv 2) Zah) (Zaa (pv 3) Zae))))))
  (Zad (Za4 (Zau Zik (pv 6) Zah (Zay _)) (Zaf (Zan (Zl9 Zi5 Zah))) Zar)
  (Zaf (Zas (i:=4) scLWorst.nd rfl (Or.inl rfl) (Za0 (call_max2 rfl) (by rfl) T.max Znv (Zaa (pv 4) (Zaa (pv 6) Zae))))))))
  (Zaf (Zan (Zaw Zb2 (Za3 Za6 (pv 1) Zah (λ_ _=>rfl)) (pv 4)))))),?_⟩
 refine⟨_,rfl,t,_,_,_,rfl,rfl,SqT.of ht,a1 _ _,b,rfl,⟨_,SqL.of hb⟩,?_⟩
 refine Za5 (K:=K) (a:=b) (xs:=nV ss) (λi σ H2=>∃(v5 v6:Option V) (W:Int) (kvs:List (List Key×V)),σ = [some (.ref dt),some (.ref t),some (.int ((n + 1:Nat):Int)),some (.ref d),some (.int W),v5,v6]∧(∀c u,H c=some u→c≠d→H2 c=some u)∧H2 d=some (.dT kvs)∧Me e m kvs∧0≤W∧(i=0→W=0)∧(0 < i→∃y∈ss.take i,bO e n y=some W)∧(∀y∈ss.take i,∃a,bO e n y=some a∧a≤W))
  ⟨none,none,0,kvs,rfl,λc u z _=>z,hd,me,Int.le_refl _,λ_=>rfl,λz=>absurd z (by decide),λy hy=>(by rw[take_zero]at hy; cases hy)⟩ (λi σ H2 _ hh0=>by obtain⟨_,_,_,_,_,k,_⟩:=hh0; exact SqL.of (k _ _ hb bd)) ?_ ?_
 ·rintro i v σ H2 hv ⟨v5,v6,W,kvs2,rfl,k2,d2,me2,W0,i0,iw,al⟩
  rw[getElem?_map]at hv
  obtain⟨y,hy,rfl⟩:=map_eq_some_iff.mp hv
  have hi:=(List.getElem?_eq_some_iff.mp hy).1
  have htk:ss.take (i + 1)=ss.take i ++ [y]:=by rw[take_succ_eq_append_getElem hi,(List.getElem?_eq_some_iff.mp hy).2]
  have ym:=mem_of_getElem? hy
  refine⟨_,rfl,_,rfl,_,rfl,_,_,rfl,rfl,_,rfl,?_⟩
  rw[hn]
  refine⟨dt,d,m,e,as,y,kvs2,rfl,D1.same (Zj3 k2),ok,sk,lt y ym,by lia,d2,me2,λkvs3 H3 k3 d3 me3=>?_⟩
  have k03:∀c u,H c=some u→c≠d→H3 c=some u:=λc u z nz=>k3 c u (k2 c u z nz) nz
  refine⟨_,rfl,_,_,rfl,rfl,_,rfl,?_⟩
  cases hbo:bO e n y with
  | none=>
   refine ite2 (λ_=>?_) (λz=>absurd (by decide) z)
   exact⟨_,rfl,q (-1) kvs3 H3 k03 d3 me3 (.inl ⟨rfl,y,ym,hbo⟩)⟩
  | some c=>
   have c0:=bO_pos ok (lt y ym) hbo
   refine ite2 (λz=>absurd (of_decide_eq_true z) (by show ¬c < 0; lia)) (λ_=>?_)
   try unfold tNext
   dsimp only
   refine⟨_,rfl,_,rfl,_,_,rfl,?_⟩
   refine⟨_,_,if c > W then c else W,kvs3,rfl,k03,d3,me3,by split <;> lia,λz=>absurd z (by lia),λ_=>?_,λz hz=>?_⟩
   ·rw[htk]
    by_cases gt:c > W
    ·rw[if_pos gt]
     exact⟨y,mem_append_right _ (mem_singleton.mpr rfl),hbo⟩
    rw[if_neg gt]
    rcases Nat.eq_zero_or_pos i with z | z
    ·have:=i0 z
     have e0:c=W:=by lia
     rw[← e0]
     exact⟨y,mem_append_right _ (mem_singleton.mpr rfl),hbo⟩
    obtain⟨x,hx,ex⟩:=iw z
    exact⟨x,mem_append_left _ hx,ex⟩
   rw[htk]at hz
   rcases(mem_append.mp hz)with hz | hz
   ·obtain⟨a,ea,la⟩:=al z hz
    exact⟨a,ea,by split <;> lia⟩
   rw[mem_singleton.mp hz]
   exact⟨c,hbo,by split <;> lia⟩
 rintro σ H2 ⟨v5,v6,W,kvs2,rfl,k2,d2,me2,W0,i0,iw,al⟩
 rw[show(nV ss).length=ss.length from length_map ..,take_length]at iw al
 refine⟨_,rfl,t,_,_,_,rfl,rfl,SqT.of (k2 _ _ ht td),a0 _ _,_,rfl,_,_,rfl,rfl,?_⟩
 exact q (p + W) kvs2 H2 k2 d2 me2 (.inr ⟨W,⟨iw (List.length_pos_iff.mpr ne),al⟩,W0,rfl⟩)
theorem Zk2 {f f1 f2:Addr}{fd d1 d2:FuncData}(n:Nat) {spw:Sp}(F:Fun K "_law_value" "_law_value" Zde f fd) (D_l_steps:Df K mg "_law_steps" Zd1 Zic f1 d1) (G_l_steps:FnOk P w K mg base CX0 3 f1 d1 Zic spSteps)
  (D_l_worst:Df K mg "_law_worst" Zdz Zia f2 d2) (G_l_worst:FnOk P w K mg base CX0 (4 + 2 * n) f2 d2 Zia spw) (hw:∀k,n=k + 1→spw=spWorst k):FnOk P w K mg base CX0 (5 + 2 * n) f fd Zc9 (spValue n):=by
 have e5:5 + 2 * n=4 + 2 * n + 1:=by lia
 rw[e5]
 refine F.ok scLValue (λvs H Q E h=>?_) (λcdv A outer s0 H vs Q E hrW h=>?_)
 ·obtain⟨dt,d,m,e,as,s,kvs,rfl,_⟩:=h
  rfl
 obtain⟨dt,d,m,e,as,s,kvs,rfl,D0,ok,sk,hs,n8,hd,me,q⟩:=h
 have hr3:Room 3 _:=hrW.mono (by lia)
 have hu:=Zdr hrW
 have hsl:sizeLine=16777216:=sizeLine_eq
 have b2:∀u v x y:V,atI [u,v,x,y] ((2:Nat):Int)=some x:=λ_ _ _ _=>Zav rfl
 obtain⟨l1,l2,us,ws,hdt,_⟩:=D0.ex
 have dtd:dt≠d:=Zb4 hdt hd (by intro z; cases z)
 have few:=me.few ok.m7
 have bok:=Znc (n:=n) ok hs
 refine⟨_,(Zad (Za4 (Zau Zdw (Zaw Zjg (pv 1) (Za3 Za6 (pv 0) Zah (λ_ _=>rfl))) (Za3 Za6 (pv 0) Zah (λ_ _=>rfl)) (Zay _)) (Zaf (Zan Zah)) Zar)
  (Zad (Za4 (Zau Zdw (pv 2) Zah (Zay _)) (Zaf (Zan (Zl9 Zi5 Zah))) Zar)
  (Zad (Za4 (Zjc (Znn hu (Zct (Zaa (pv 1) (Zaa (pv 2) Zae))) (pv 3))) (Zaf (Zan (Zd7 hu (pv 3) (Zct (Zaa (pv 1) (Zaa (pv 2) Zae))) (λ_ _=>rfl)))) Zar)
  (Zad (Zas (i:=4) scLValue.nd rfl (Or.inl rfl) (Zl9 Zi5 Zah))
  (Zad (Zba PassesOwn.never rfl (Zaz (Zai G_l_steps hr3 (by rfl) D_l_steps.m D_l_steps.F.kp D_l_steps.b .nil Zap (Zaa (pv 0) (Zaa (pv 1) Zae)))) (Zao (i:=5) scLValue.nd rfl (Or.inl rfl))
   (Zad (Zas (i:=6) scLValue.nd rfl (Or.inl rfl) (Zai G_l_worst hrW (by rfl) D_l_worst.m D_l_worst.F.kp D_l_worst.b .nil Zap (Zaa (pv 0) (Zaa (pv 5) (Zaa (pv 2) (Zaa (pv 3) Zae))))))
  (Zaf (Za4 (PW.pt (pw_and (Zau op_ge (pv 6) Zah (Zay _)) (pw_and1 (PW.pt (Zn2 (Zau Zik (pv 4) Zah (Zay _)) (Zl4 (Zau Zik (pv 6) (pv 4) (Zay _)))))))) (Zaf (Zas (i:=4) scLValue.nd rfl (Or.inl rfl) (pv 6))) Zar))))
  (Zad (Zc7 hu (pv 3) (Zct (Zaa (pv 1) (Zaa (pv 2) Zae))) (pv 4) rfl)
  (Zaf (Zan (pv 4))))))))),?_⟩
 refine⟨_,rfl,_,rfl,dt,_,_,_,rfl,rfl,SqT.of hdt,b2 _ _ _ _,_,_,rfl,rfl,_,rfl,dt,_,_,_,rfl,rfl,SqT.of hdt,b2 _ _ _ _,rfl,_,rfl,?_⟩
 rw[Zn4]
 by_cases gl:Sb s e.g
 ·refine ite2 (λ_=>?_) (λz=>absurd (decide_eq_true gl) z)
  have e0:bO e n s=some 0:=bok.eq (Zio gl ok hs)
  have:=q kvs H (λc u z _=>z) hd me
  rw[e0]at this
  exact this
 refine ite2 (λz=>absurd (of_decide_eq_true z) gl) (λ_=>?_)
 try unfold tNext
 dsimp only
 refine⟨_,rfl,rfl,_,rfl,?_⟩
 cases n with
 | zero=>
  refine ite2 (λ_=>?_) (λz=>absurd (by decide) z)
  have e0:bO e 0 s=none:=bok.eq (Zk5 gl)
  have:=q kvs H (λc u z _=>z) hd me
  rw[e0]at this
  exact⟨_,rfl,this⟩
 | succ k=>
  refine ite2 (λz=>absurd (V.int.inj (of_decide_eq_true z)) (by lia)) (λ_=>?_)
  try unfold tNext
  dsimp only
  have hwk:=hw k rfl
  subst hwk
  refine⟨_,rfl,_,rfl,by show 2≤sizeLine; lia,λt1 ht1=>?_⟩
  have s1:Same H (upd H t1 (.tup [.int (s:Int),.int ((k + 1:Nat):Int)])):=Same.new ht1
  have e1:(upd H t1 (.tup [.int (s:Int),.int ((k + 1:Nat):Int)])) t1=some (.tup (([ki s,ki (k + 1)]:List Key).map kV)):=Zac
  generalize (upd H t1 (.tup [.int (s:Int),.int ((k + 1:Nat):Int)]))=H1 at s1 e1 ⊢
  refine⟨_,rfl,d,_,rfl,DGet.t (s1 _ _ hd) e1,_,rfl,?_⟩
  cases hv:valV kvs [ki s,ki (k + 1)]with
  | some v=>
   refine iteT ?_
   have ev:=me.val s (k + 1) v hv
   refine⟨_,rfl,_,rfl,_,rfl,by show 2≤sizeLine; lia,λt2 ht2=>?_⟩
   have s2:Same H1 (upd H1 t2 (.tup [.int (s:Int),.int ((k + 1:Nat):Int)])):=Same.new ht2
   have e2:(upd H1 t2 (.tup [.int (s:Int),.int ((k + 1:Nat):Int)])) t2=some (.tup (([ki s,ki (k + 1)]:List Key).map kV)):=Zac
   generalize (upd H1 t2 (.tup [.int (s:Int),.int ((k + 1:Nat):Int)]))=H2 at s2 e2 ⊢
   have s02:=s1.trans s2
   refine⟨d,v,rfl,by rw[← hv]; exact DGet.t (s02 _ _ hd) e2,?_⟩
   rw[ev]
   exact q kvs H2 (λc u z _=>s02 _ _ z) (s02 _ _ hd) me
  | none=>
   refine iteF ?_
   try unfold tNext
   dsimp only
   refine⟨_,rfl,_,rfl,_,rfl,dt,m,e,as,s,rfl,D0.same s1,ok,sk,hs,λl ms H2 s2 hl mo mem l80=>?_⟩
   have s02:=s1.trans s2
   have d2:=s02 _ _ hd
   have mo':=mo.cut d2
   have D2:=(D0.same s02).cut d2
   obtain⟨vs,hvs,ha⟩:=mo'
   have mvOf:MvOf e s ms:=⟨λz=>absurd z gl,λ_ p ss=>mem (p,ss)⟩
   refine⟨l,rfl,⟨_,SqL.of (Zdj _ _ hvs)⟩,?_⟩
   refine Za5 (K:=K) (a:=l) (xs:=vs) (λi σ H3=>∃(v5 v6:Option V) (u:Option Int) (kvs:List (List Key×V)),σ = [some (.ref dt),some (.int (s:Int)),some (.int ((k + 1:Nat):Int)),some (.ref d),some (.int (oM u)),v5,v6]∧(∀c u,H2 c=some u→c≠d→H3 c=some u)∧H3 d=some (.dT kvs)∧Me e m kvs∧Lst (Ch (bO e k) (ms.take i)) u∧(∀c,u=some c→0≤c))
    ⟨none,none,none,kvs,rfl,λc u z _=>z,d2,me,.no λc hp0=>by obtain⟨q',hq,_⟩:=hp0; exact(by rw[take_zero]at hq; cases hq),λc z=>(by cases z)⟩ (λi σ H3 _ hh0=>by obtain⟨_,_,_,_,_,z,_⟩:=hh0; exact SqL.of (Zj3 z _ _ hvs)) ?_ ?_
   ·rintro i v σ H3 hv3 ⟨v5,v6,u,kvs3,rfl,k3,d3,me3,lst,pos⟩
    obtain⟨mv,hmv,hmem,t,b,rfl,ht,hb⟩:=ha.at hv3
    have him:=(List.getElem?_eq_some_iff.mp hmv).1
    have htk:ms.take (i + 1)=ms.take i ++ [mv]:=by rw[take_succ_eq_append_getElem him,(List.getElem?_eq_some_iff.mp hmv).2]
    have isMv:=(mem mv).mp hmem
    have p1:=(ok.pd isMv).1
    obtain⟨ne,_,lt⟩:=ok.moves hs mvOf mv hmem
    have kr:=Zj3 k3
    refine⟨_,rfl,_,rfl,_,rfl,_,rfl,dt,t,b,d,m,e,as,mv.1,mv.2,kvs3,rfl,D2.same kr,ok,sk,by lia,kr _ _ ht,kr _ _ hb,ne,lt,d3,me3,λv kvs4 H4 k4 d4 me4 wst=>?_⟩
    have k24:∀c u,H2 c=some u→c≠d→H4 c=some u:=λc u z nz=>k4 c u (k3 c u z nz) nz
    refine⟨_,rfl,_,_,rfl,rfl,_,rfl,?_⟩
    rcases wst with⟨rfl,non⟩ | ⟨M,hM,M0,rfl⟩
    ·refine ite2 (λz=>absurd (of_decide_eq_true z) (by decide)) (λ_=>?_)
     exact⟨_,_,u,kvs4,rfl,k24,d4,me4,by rw[htk]; exact ch_skip lst non,pos⟩
    refine ite2 (λ_=>?_) (λz=>absurd (decide_eq_true (show mv.1 + M≥0 by lia)) z)
    have st:=ch_more lst hM
    rw[← htk]at st
    refine⟨_,rfl,_,_,rfl,rfl,_,rfl,?_⟩
    cases u with
    | none=>
     refine ite2 (λ_=>?_) (λz=>absurd (by decide) z)
     exact⟨_,rfl,_,_,some (mv.1 + M),kvs4,rfl,k24,d4,me4,st,λc z=>by cases z; lia⟩
    | some c=>
     have c0:=pos c rfl
     refine ite2 (λz=>absurd (of_decide_eq_true z) (by show ¬c < 0; lia)) (λ_=>?_)
     refine⟨_,rfl,_,rfl,_,_,rfl,rfl,_,rfl,?_⟩
     by_cases lc:mv.1 + M < c
     ·refine ite2 (λ_=>?_) (λz=>absurd (decide_eq_true (show mv.1 + M < oM (some c) from lc)) z)
      dsimp only at st
      rw[if_pos lc]at st
      exact⟨_,rfl,_,_,some (mv.1 + M),kvs4,rfl,k24,d4,me4,st,λc z=>by cases z; lia⟩
     refine ite2 (λz=>absurd (of_decide_eq_true z) lc) (λ_=>?_)
     dsimp only at st
     rw[if_neg lc]at st
     exact⟨_,_,some c,kvs4,rfl,k24,d4,me4,st,pos⟩
   rintro σ H3 ⟨v5,v6,u,kvs3,rfl,k3,d3,me3,lst,pos⟩
   rw[ha.len,take_length]at lst
   have eu:bO e (k + 1) s=u:=bok.eq (lst.iff λc=>ch_wo ok hs gl mvOf λq hq y hy=>Znc ok ((ok.moves hs mvOf q hq).2.2 y hy))
   have few3:=me3.few ok.m7
   refine⟨_,rfl,_,rfl,_,rfl,_,rfl,by show 2≤sizeLine; lia,λt3 ht3=>?_⟩
   have s4:Same H3 (upd H3 t3 (.tup [.int (s:Int),.int ((k + 1:Nat):Int)])):=Same.new ht3
   have e4:(upd H3 t3 (.tup [.int (s:Int),.int ((k + 1:Nat):Int)])) t3=some (.tup (([ki s,ki (k + 1)]:List Key).map kV)):=Zac
   generalize (upd H3 t3 (.tup [.int (s:Int),.int ((k + 1:Nat):Int)]))=H4 at s4 e4 ⊢
   refine⟨d,_,rfl,DPut.t (s4 _ _ d3) e4 (by lia),?_⟩
   have mp:=me3.put hs n8
   rw[eu]at mp
   refine⟨_,rfl,?_⟩
   have:=q _ _ (λc w z nz=>by rw[Zaj nz]; exact s4 _ _ (k3 c w (s02 _ _ z) nz)) (Zac (H:=H4)) mp
   rw[eu]at this
   exact this
theorem ok_lleast {f f1:Addr}{fd d1:FuncData}(F:Fun K "_law_least" "_law_least" Zd3 f fd) (D_l_value:Df K mg "_law_value" Zde Zc9 f1 d1) (G_l_value:∀n,FnOk P w K mg base CX0 (5 + 2 * n) f1 d1 Zc9 (spValue n)):FnOk P w K mg base CX0 22 f fd Zif spLLeast:=by
 refine F.ok scLLeast (λvs H Q E h=>?_) (λcdv A outer s0 H vs Q E hrL h=>?_)
 ·obtain⟨dt,m,e,as,s,n,rfl,_⟩:=h
  rfl
 obtain⟨dt,m,e,as,s,n,rfl,D0,ok,sk,hs,n8,q⟩:=h
 have G_l_value:=G_l_value n
 have hrV:Room (5 + 2 * n) _:=hrL.mono (by lia)
 have b3:∀u v x y:V,atI [u,v,x,y] ((3:Nat):Int)=some y:=λ_ _ _ _=>Zav rfl
 obtain⟨l1,l2,us,ws,hdt,_⟩:=D0.ex
 refine⟨_,(Zad (Za4 (Zau Zm8 (Zaw Zjg (pv 1) (Za3 Za6 (pv 0) Zah (λ_ _=>rfl))) (Za3 Za6 (pv 0) Zah (λ_ _=>rfl)) (Zay _)) (Zaf (Zan (Zl9 Zi5 Zah))) Zar)
  (Zaf (Zan (Zai G_l_value hrV (by rfl) D_l_value.m D_l_value.F.kp D_l_value.b .nil Zap (Zaa (pv 0) (Zaa (pv 1) (Zaa (pv 2) (Zaa pe_dnewT Zae)))))))),?_⟩
 refine⟨_,rfl,_,rfl,dt,_,_,_,rfl,rfl,SqT.of hdt,b3 _ _ _ _,_,_,rfl,rfl,_,rfl,dt,_,_,_,rfl,rfl,SqT.of hdt,b3 _ _ _ _,rfl,_,rfl,?_⟩
 rw[Zn4]
 by_cases kp:Sb s e.k
 ·refine ite2 (λz=>absurd z (by rw[decide_eq_true kp]; decide)) (λ_=>?_)
  try unfold tNext
  dsimp only
  refine⟨_,rfl,_,rfl,_,rfl,λd hd=>?_⟩
  have s1:Same H (upd H d (.dT [])):=Same.new hd
  refine⟨dt,d,m,e,as,s,[],rfl,D0.same s1,ok,sk,hs,n8,Zac,⟨nodup_nil,λk hk=>(nomatch hk),λx n v hv=>(by cases hv)⟩,λkvs H2 k2 d2 me2=>?_⟩
  have:=q H2 λc u z=>k2 c u (s1 _ _ z) (Zag z hd)
  rw[if_pos kp]at this
  exact this
 refine ite2 (λ_=>?_) (λz=>absurd (by rw[decide_eq_false kp]; rfl) z)
 have:=q H (Same.refl _)
 rw[if_neg kp]at this
 exact⟨_,rfl,this⟩
theorem ok_isleast {f f1:Addr}{fd d1:FuncData}(F:Fun K "_law_is_least" "_law_is_least" Zcd f fd) (D_l_whole:Df K mg "_law_whole" Zd0 Zib f1 d1) (G_l_whole:FnOk P w K mg base CX0 1 f1 d1 Zib spWhole):FnOk P w K mg base CX0 2 f fd Ze5 spIsLeast:=by
 refine F.ok scLIsLeast (λvs H Q E h=>?_) (λcdv A outer s H vs Q E hr1 h=>?_)
 ·obtain⟨u,rfl,_⟩:=h
  rfl
 obtain⟨u,rfl,pos,q⟩:=h
 refine⟨_,(Zad (Za4 (Zau Zik (pv 1) Zah (Zay _)) (Zaf (Zan (Zj5 Zmd (pv 0) Zf6 (Zay _)))) Zar)
  (Zaf (Zan (Znm (Zai G_l_whole hr1 (by rfl) D_l_whole.m D_l_whole.F.kp D_l_whole.b .nil Zap (Zaa (pv 0) Zae)) (Znl (Zj5 Zdw (pv 0) (pv 1) (Zay _))))))),?_⟩
 refine⟨_,rfl,_,_,rfl,rfl,_,rfl,?_⟩
 cases u with
 | none=>
  refine ite2 (λ_=>?_) (λz=>absurd (by decide) z)
  exact⟨_,rfl,rfl,q⟩
 | some c=>
  have c0:=pos c rfl
  refine ite2 (λz=>absurd (of_decide_eq_true z) (by show ¬c < 0; lia)) (λ_=>?_)
  try unfold tNext
  dsimp only
  refine⟨_,rfl,c,rfl,_,rfl,?_⟩
  refine iteT ?_
  refine⟨_,rfl,_,rfl,rfl,?_⟩
  show Q (V.bl (decide (V.int c=V.int c))) H
  rw[decide_eq_true rfl]
  exact q
theorem ok_law {f CE C fI fE f1 f2 f3 f4 f5 f6 f7 f8 f9 fA fB:Addr}{fd dI dE d1 d2 d3 d4 d5 d6 d7 d8 d9 dA dB:FuncData}(F:Fun K "law" "law" sLaw f fd) (MC:L2.Mk K C fI) (mC:mg "Chart" = some (.ref C)) (bI:Binds K dI ["self", "many", "deeds", "looks"] []) (GI:FnOk P w K mg base CX0 3 fI dI Zn3 (spInitC C))
  (ME:L2.Mk K CE fE) (mE:mg "Errand" = some (.ref CE)) (bE:Binds K dE ["self", "chart", "goal", "keep"] []) (GE:FnOk P w K mg base CX0 2 fE dE Zeu (spErInit CE)) (D_l_copied:Df K mg "_law_copied" Zcj Zgo f8 d8) (G_l_copied:FnOk P w K mg base CX0 2 f8 d8 Zgo spCopied)
  (D_l_many:Df K mg "_law_many" Zfx Zkw f1 d1) (G_l_many:FnOk P w K mg base CX0 3 f1 d1 Zkw (spManyD K)) (D_l_deeds:Df K mg "_law_deeds" Zdi Zih f2 d2) (G_l_deeds:FnOk P w K mg base CX0 4 f2 d2 Zih (spDeedsD K)) (D_l_looks:Df K mg "_law_looks" Zdh Zie f3 d3) (G_l_looks:FnOk P w K mg base CX0 4 f3 d3 Zie (spLooksD K))
  (D_l_goal:Df K mg "_law_goal" Zf1 Zk0 f4 d4) (G_l_goal:FnOk P w K mg base CX0 4 f4 d4 Zk0 (spGoal K)) (D_l_keep:Df K mg "_law_keep" Zfz Zky f5 d5) (G_l_keep:FnOk P w K mg base CX0 3 f5 d5 Zky (spKeep K)) (D_l_set:Df K mg "_law_set" Zhd Zlp f6 d6) (G_l_set:FnOk P w K mg base CX0 3 f6 d6 Zlp (spSetD K))
  (D_l_bound:Df K mg "_law_bound" Zd5 Zii f7 d7) (G_l_bound:FnOk P w K mg base CX0 3 f7 d7 Zii (spBound K)) (D_least:Df K mg "least" Zfu Zkt f9 d9) (G_least:FnOk P w K mg base CX0 9 f9 d9 Zkt (spLst CE C))
  (D_l_least:Df K mg "_law_least" Zd3 Zif fA dA) (G_l_least:FnOk P w K mg base CX0 22 fA dA Zif spLLeast) (D_l_is_least:Df K mg "_law_is_least" Zcd Ze5 fB dB) (G_l_is_least:FnOk P w K mg base CX0 2 fB dB Ze5 spIsLeast):FnOk P w K mg base CX0 24 f fd ["_law_script"] (spLaw K):=by
 refine F.ok scLaw (λvs H Q E h=>?_) (λcdv A outer s H vs Q E hrA h=>?_)
 ·obtain⟨a,ns,rfl,_⟩:=h
  rfl
 obtain⟨a,ns,rfl,hS,hn,q⟩:=h
 have hr22:Room 22 _:=hrA.mono (by decide)
 have hr9:Room 9 _:=hrA.mono (by decide)
 have hr4:Room 4 _:=hrA.mono (by decide)
 have hr3:Room 3 _:=hrA.mono (by decide)
 have hr2:Room 2 _:=hrA.mono (by decide)
 have hsl:sizeLine=16777216:=sizeLine_eq
 have b0:∀u v x y:V,atI [u,v,x,y] ((0:Nat):Int)=some u:=λ_ _ _ _=>Zav rfl
 have b1:∀u v x y:V,atI [u,v,x,y] ((1:Nat):Int)=some v:=λ_ _ _ _=>Zav rfl
 have b2:∀u v x y:V,atI [u,v,x,y] ((2:Nat):Int)=some x:=λ_ _ _ _=>Zav rfl
 have b3:∀u v x y:V,atI [u,v,x,y] ((3:Nat):Int)=some y:=λ_ _ _ _=>Zav rfl
 refine⟨_,(Zad (Zas (i:=1) scLaw.nd rfl (Or.inl rfl) (Zai G_l_many hr3 (by rfl) D_l_many.m D_l_many.F.kp D_l_many.b .nil Zap (Zaa (pv 0) Zae)))
  (Zad (Zas (i:=2) scLaw.nd rfl (Or.inl rfl) (Zct (Zaa (Zai G_l_deeds hr4 (by rfl) D_l_deeds.m D_l_deeds.F.kp D_l_deeds.b .nil Zap (Zaa (pv 0) (Zaa (pv 1) Zae))) (Zaa (Zai G_l_looks hr4 (by rfl) D_l_looks.m D_l_looks.F.kp D_l_looks.b .nil Zap (Zaa (pv 0) (Zaa (pv 1) Zae))) (Zaa (Zai G_l_goal hr4 (by rfl) D_l_goal.m D_l_goal.F.kp D_l_goal.b .nil Zap (Zaa (pv 0) (Zaa (pv 1) Zae))) (Zaa (Zai G_l_keep hr3 (by rfl) D_l_keep.m D_l_keep.F.kp D_l_keep.b .nil Zap (Zaa (pv 0) (Zaa (pv 1) Zae))) Zae))))))
  (Zad (Zas (i:=3) scLaw.nd rfl (Or.inl rfl) (Zai G_l_set hr3 (by rfl) D_l_set.m D_l_set.F.kp D_l_set.b .nil Zap (Zaa (pv 0) (Zaa Zah (Zaa (pv 1) Zae)))))
  (Zad (Zas (i:=4) scLaw.nd rfl (Or.inl rfl) (Zai G_l_bound hr3 (by rfl) D_l_bound.m D_l_bound.F.kp D_l_bound.b .nil Zap (Zaa (pv 0) Zae)))
  (Zad (Zas (i:=5) scLaw.nd rfl (Or.inl rfl) (Zma ME GE hr3 (by rfl) mE bE .nil Zap (Zaa (Zma MC GI hr4 (by rfl) mC bI .nil Zap (Zaa (pv 1) (Zaa (Zai G_l_copied hr2 (by rfl) D_l_copied.m D_l_copied.F.kp D_l_copied.b .nil Zap (Zaa (Za3 Za6 (pv 2) Zah (λ_ _=>rfl)) Zae)) (Zaa (Zai G_l_copied hr2 (by rfl) D_l_copied.m D_l_copied.F.kp D_l_copied.b .nil Zap (Zaa (Za3 Za6 (pv 2) Zah (λ_ _=>rfl)) Zae)) Zae)))) (Zaa (Za3 Za6 (pv 2) Zah (λ_ _=>rfl)) (Zaa (Za3 Za6 (pv 2) Zah (λ_ _=>rfl)) Zae)))))
  (Zad (Zas (i:=6) scLaw.nd rfl (Or.inl rfl) (Zai G_l_least hr22 (by rfl) D_l_least.m D_l_least.F.kp D_l_least.b .nil Zap (Zaa (pv 2) (Zaa (pv 3) (Zaa (pv 4) Zae)))))
  (Zad (Za4 (Zg1 (Zcs (Zai G_l_is_least hr2 (by rfl) D_l_is_least.m D_l_is_least.F.kp D_l_is_least.b .nil Zap (Zaa (Zai G_least hr9 (by rfl) D_least.m D_least.F.kp D_least.b .nil Zap (Zaa (pv 5) (Zaa (pv 3) (Zaa (pv 4) Zae)))) (Zaa (pv 6) Zae))))) (Zaf (Zan Zm6)) Zar)
  (Zad (Zas (i:=7) scLaw.nd rfl (Or.inl rfl) (Zai G_l_set hr3 (by rfl) D_l_set.m D_l_set.F.kp D_l_set.b .nil Zap (Zaa (pv 0) (Zaa Zah (Zaa (pv 1) Zae)))))
  (Zad (Za4 (Zg1 (Zcs (Zai G_l_is_least hr2 (by rfl) D_l_is_least.m D_l_is_least.F.kp D_l_is_least.b .nil Zap (Zaa (Zai G_least hr9 (by rfl) D_least.m D_least.F.kp D_least.b .nil Zap (Zaa (pv 5) (Zaa (pv 7) (Zaa (pv 4) Zae)))) (Zaa (Zai G_l_least hr22 (by rfl) D_l_least.m D_l_least.F.kp D_l_least.b .nil Zap (Zaa (pv 2) (Zaa (pv 7) (Zaa (pv 4) Zae)))) Zae))))) (Zaf (Zan Zm6)) Zar)
  (Zaf (Zan (Zai G_l_is_least hr2 (by rfl) D_l_is_least.m D_l_is_least.F.kp D_l_is_least.b .nil Zap (Zaa (Zai G_least hr9 (by rfl) D_least.m D_least.F.kp D_least.b .nil Zap (Zaa (pv 5) (Zaa (pv 3) (Zaa (pv 4) Zae)))) (Zaa (pv 6) Zae)))))))))))))),?_⟩
 refine⟨_,rfl,a,ns,rfl,hS,hn,λm m1 m7=>?_⟩
 have m2:m≤200:=by lia
 refine⟨_,rfl,_,rfl,a,ns,m,rfl,hS,hn,m1,m2,λl1 us ds i1 H1 s1 fr1 e1 i3 dd=>?_⟩
 refine⟨_,rfl,_,rfl,a,ns,m,rfl,s1.seq hS,hn,m1,m2,λl2 ws ls i2 H2 s2 fr2 e2 i4 ll=>?_⟩
 have s02:=s1.trans s2
 refine⟨_,rfl,_,rfl,a,ns,m,rfl,s02.seq hS,hn,m1,m7,λg H3 s3 hg=>?_⟩
 have s03:=s02.trans s3
 refine⟨_,rfl,_,rfl,a,ns,m,rfl,s03.seq hS,hn,m1,m7,λkp hkp=>⟨by show 4≤sizeLine; lia,λdt hdt=>?_⟩⟩
 have s4:Same H3 (upd H3 dt (.tup [.ref l1,.ref l2,.int (g:Int),.int (kp:Int)])):=Same.new hdt
 have e4:(upd H3 dt (.tup [.ref l1,.ref l2,.int (g:Int),.int (kp:Int)])) dt=some (.tup [.ref l1,.ref l2,.int (g:Int),.int (kp:Int)]):=Zac
 generalize (upd H3 dt (.tup [.ref l1,.ref l2,.int (g:Int),.int (kp:Int)]))=H4 at s4 e4 ⊢
 have s04:=s03.trans s4
 have s24:=s3.trans s4
 have dd4:=dd.same (s2.trans s24)
 have ll4:=ll.same s24
 have e14:=s24 _ _ (s2 _ _ e1)
 have e24:=s24 _ _ e2
 have ok:=ch_ok dd4 ll4 i3 i4 m1 m2
 have lx4:=lx_of e14 e24 dd4 ll4 i3 i4 m1 m2
 have eok:EdOk m ⟨ds,ls,g,kp⟩ (pqrL.map (wdS ns 3)):=⟨ok,hg,hkp,m7,λd hd=>Lb.rp (lx4.db d hd),λl hl=>Lb.rp (lx4.lb l hl)⟩
 have sk:SkE ⟨ds,ls,g,kp⟩:=λl hl z hz=>(lx4.ab l hl z hz).sm.ok
 have D4:Dat H4 dt ⟨ds,ls,g,kp⟩:=⟨l1,l2,us,ws,e4,e14,e24,dd4.hd,ll4.hl⟩
 refine⟨_,rfl,_,rfl,a,ns,_,m,rfl,s04.seq hS,hn,by decide,by decide,m1,m2,λn0 H5 s5 hn0=>?_⟩
 have s05:=s04.trans s5
 refine⟨_,rfl,a,ns,rfl,s05.seq hS,hn,λmost m8=>?_⟩
 have lx5:=lx4.same s5
 have e45:=s5 _ _ e4
 have c1:=lx5.c1
 have c2:=lx5.c2
 have ul:=lx5.hd.len
 have wl':=lx5.hl.len
 -- the errand
 refine⟨_,rfl,_,rfl,dt,_,_,_,rfl,rfl,SqT.of e45,b0 _ _ _ _,l1,us,rfl,lx5.h1,by lia,.inl ⟨ds,lx5.hd,λd hd=>by rw[(ok.de d hd).len]; exact m2,λlc uc H6 s6 fr6 e6 a6=>?_⟩⟩
 refine⟨_,rfl,dt,_,_,_,rfl,rfl,SqT.of (s6 _ _ e45),b1 _ _ _ _,l2,ws,rfl,s6 _ _ lx5.h2,by lia,.inr ⟨ls,(lx5.same s6).hl,λd hd=>by rw[ok.lo d hd]; exact m2,λlc2 wc H7 s7 fr7 e7 a7=>?_⟩⟩
 intro cx dx hcx hdx dxn
 have s8:Same H7 (upd (upd H7 dx (.own cx)) cx (.ins C dx [])):=(Same.new hdx).trans (Same.new (by rw[Zaj dxn.symm]; exact hcx))
 have e8:(upd (upd H7 dx (.own cx)) cx (.ins C dx [])) cx=some (.ins C dx []):=Zac
 generalize (upd (upd H7 dx (.own cx)) cx (.ins C dx []))=H8 at s8 e8 ⊢
 refine⟨cx,dx,lc,lc2,m,uc,wc,ds,ls,_,rfl,e8,s8 _ _ (s7 _ _ e6),s8 _ _ e7,a6.mono λv t _ q'=>q'.same (s7.trans s8),a7.mono λv t _ q'=>q'.same s8,ok,λH9 k9 ch9=>⟨rfl,?_⟩⟩
 have s79:Same H7 H9:=λc u z=>k9 c u (s8 _ _ z) (λz'=>by rw[z',hcx]at z; cases z)
 have s59:=(s6.trans s7).trans s79
 refine⟨_,rfl,dt,_,_,_,rfl,rfl,SqT.of (s59 _ _ e45),b2 _ _ _ _,_,rfl,dt,_,_,_,rfl,rfl,SqT.of (s59 _ _ e45),b3 _ _ _ _,?_⟩
 intro ex dy hex hdy dyn
 have sA:Same H9 (upd (upd H9 dy (.own ex)) ex (.ins CE dy [])):=(Same.new hdy).trans (Same.new (by rw[Zaj dyn.symm]; exact hex))
 have eA:(upd (upd H9 dy (.own ex)) ex (.ins CE dy [])) ex=some (.ins CE dy []):=Zac
 generalize (upd (upd H9 dy (.own ex)) ex (.ins CE dy []))=HA at sA eA ⊢
 refine⟨ex,dy,cx,g,kp,rfl,eA,λHB kB exB=>⟨rfl,?_⟩⟩
 have s9B:Same H9 HB:=λc u z=>kB c u (sA _ _ z) (λz'=>by rw[z',hex]at z; cases z)
 have er:ErAt CE C HB ex m ⟨ds,ls,g,kp⟩:=⟨dy,cx,exB,ch9.same s9B⟩
 have s5B:=s59.trans s9B
 have DB:=(D4.same s5).same s5B
 have s0B:=s05.trans s5B
 have same:∀{s':Nat}{v:Option Int},s' < 2 ^ m→(Sb s' kp→Lst (Wo ⟨ds,ls,g,kp⟩ most s') v)→(¬Sb s' kp→v=none)→(if Sb s' kp then oM (bO ⟨ds,ls,g,kp⟩ most s')else -1)=oM v∧∀c,v=some c→0≤c:=λ{s' v} hs' h1 h2=>by
  by_cases sb:Sb s' kp
  ·rw[if_pos sb,(Znc eok hs').eq (h1 sb)]
   refine⟨rfl,λc ec=>?_⟩
   have:=h1 sb
   rw[ec]at this
   cases this with
   | yes _ h _=>exact h.pos eok hs'
  rw[if_neg sb,h2 sb]
  exact⟨rfl,λc ec=>by cases ec⟩
 refine⟨_,rfl,_,rfl,_,rfl,dt,m,⟨ds,ls,g,kp⟩,_,n0,most,rfl,DB,eok,sk,hn0,m8,λHC sC=>?_⟩
 refine⟨_,rfl,_,rfl,_,rfl,ex,m,⟨ds,ls,g,kp⟩,_,n0,most,rfl,er.same sC,eok,hn0,by lia,λv1 HD sD w1 w2=>?_⟩
 obtain⟨o1,p1⟩:=same hn0 w1 w2
 refine⟨_,rfl,v1,by rw[← o1]; rfl,p1,_,rfl,?_⟩
 refine ite2 (λz=>absurd z (by decide)) (λ_=>?_)
 try unfold tNext
 dsimp only
 have sBD:=sC.trans sD
 refine⟨_,rfl,_,rfl,a,ns,_,m,rfl,(s0B.trans sBD).seq hS,hn,by decide,by decide,m1,m2,λn8 HE sE hn8=>?_⟩
 have sBE:=sBD.trans sE
 refine⟨_,rfl,_,rfl,_,rfl,ex,m,⟨ds,ls,g,kp⟩,_,n8,most,rfl,er.same sBE,eok,hn8,by lia,λv2 HF sF w3 w4=>?_⟩
 obtain⟨o2,p2⟩:=same hn8 w3 w4
 refine⟨_,rfl,_,rfl,_,rfl,dt,m,⟨ds,ls,g,kp⟩,_,n8,most,rfl,(DB.same sBE).same sF,eok,sk,hn8,m8,λHG sG=>?_⟩
 refine⟨v2,by rw[← o2]; rfl,p2,_,rfl,?_⟩
 refine ite2 (λz=>absurd z (by decide)) (λ_=>?_)
 try unfold tNext
 dsimp only
 refine⟨_,rfl,_,rfl,_,rfl,ex,m,⟨ds,ls,g,kp⟩,_,n0,most,rfl,((er.same sBE).same sF).same sG,eok,hn0,by lia,λv3 HH sH w5 w6=>?_⟩
 obtain⟨o3,p3⟩:=same hn0 w5 w6
 exact⟨_,rfl,v3,by rw[← o3]; rfl,p3,q _⟩
end
end K44
namespace K44
open PySem L2 Tx Rk PyProof.Rows PySem.SeqAt
theorem ln1 {P:List Value→Prop}(h:∀a0:Value,P [a0]):∀us:List Value,us.length=1→P us:=λus hl=>by
 obtain _ | ⟨a0,r0⟩:=us
 ·exact absurd hl (by simp)
 obtain _ | ⟨b,r⟩:=r0
 ·exact h a0
 exact absurd hl (by simp)
theorem ln2 {P:List Value→Prop}(h:∀a0 a1:Value,P [a0,a1]):∀us:List Value,us.length=2→P us:=λus hl=>by
 obtain _ | ⟨a0,r0⟩:=us
 ·exact absurd hl (by simp)
 obtain _ | ⟨a1,r1⟩:=r0
 ·exact absurd hl (by simp)
 obtain _ | ⟨b,r⟩:=r1
 ·exact h a0 a1
 exact absurd hl (by simp)
theorem ln3 {P:List Value→Prop}(h:∀a0 a1 a2:Value,P [a0,a1,a2]):∀us:List Value,us.length=3→P us:=λus hl=>by
 obtain _ | ⟨a0,r0⟩:=us
 ·exact absurd hl (by simp)
 obtain _ | ⟨a1,r1⟩:=r0
 ·exact absurd hl (by simp)
 obtain _ | ⟨a2,r2⟩:=r1
 ·exact absurd hl (by simp)
 obtain _ | ⟨b,r⟩:=r2
 ·exact h a0 a1 a2
 exact absurd hl (by simp)
theorem ln4 {P:List Value→Prop}(h:∀a0 a1 a2 a3:Value,P [a0,a1,a2,a3]):∀us:List Value,us.length=4→P us:=λus hl=>by
 obtain _ | ⟨a0,r0⟩:=us
 ·exact absurd hl (by simp)
 obtain _ | ⟨a1,r1⟩:=r0
 ·exact absurd hl (by simp)
 obtain _ | ⟨a2,r2⟩:=r1
 ·exact absurd hl (by simp)
 obtain _ | ⟨a3,r3⟩:=r2
 ·exact absurd hl (by simp)
 obtain _ | ⟨b,r⟩:=r3
 ·exact h a0 a1 a2 a3
 exact absurd hl (by simp)
open PySem.W (Frag OpenLaw clsIn codeIn excIn findCls findIn fnOf hasDictIn isFn keepIn makesIn mg_none_of mg_of nsIn plainGet plainOver readsIn specialIn subIn)
abbrev nA (K:Frag)(x:Str)(f:Addr):Prop:=nsIn K mainGlobals x=some (some (.ref f))
abbrev lK (K:Frag)(f:Addr)(x q:Str)(s:Stmt)(oc:Value)(od:Option Addr)(kV dc pm:Value)(an:Option Addr)(cd ct:Value)(sl:Array (Option Value)):Prop:=K.lookup f=some ⟨oc,od,.func (fnOf x q (Zal s) (Zak s) (Zab s) .none kV dc pm an cd ct),sl⟩
theorem all_mk {l:OpenLaw}{w:World}{K:Frag}{h:Heap}{mg:Str→Option Value}{fa GE NN C CE CN f1 f2 f3 f4 f5 f6 f7 f8 f9 f10 f11 f12 f13 f14 f15 f16 f17 f18 f19 f20 f21 f22 f23 f24 f25 f26 f27 f28 f29 f30 f31 f32 f33 f34 f35 f36 f37 f38 f39 f40 f41 f42 f43 f44 f45 f46 f47 f48 f49 f50 f51 f52 f53 f54 f55 f56 f57 f58 f59 f60 f61 f62 f63 f64 f65 f66 f67 f68 f69 f70 f71:Addr}(X:K.In h) (G:h.Ns mainGlobals mg) (hfa:mg "law" = some (.ref fa))
  {od1 an1 od2 an2 od3 an3 od4 an4 od5 an5 od6 an6 od7 an7 od8 an8 od9 an9 od10 an10 od11 an11 od12 an12 od13 an13 od14 an14 od15 an15 od16 an16 od17 an17 od18 an18 od19 an19 od20 an20 od21 an21 od22 an22 od23 an23 od24 an24 od25 an25 od26 an26 od27 an27 od28 an28 od29 an29 od30 an30 od31 an31 od32 an32 od33 an33 od34 an34 od35 an35 od36 an36 od37 an37 od38 an38 od39 an39 od40 an40 od41 an41 od42 an42 od43 an43 od44 an44 od45 an45 od46 an46 od47 an47 od48 an48 od49 an49 od50 an50 od51 an51 od52 an52 od53 an53 od54 an54 od55 an55 od56 an56 od57 an57 od58 an58 od59 an59 od60 an60 od61 an61 od62 an62 od63 an63 od64 an64 od65 an65 od66 an66 od67 an67 od68 an68 od69 an69 od70 an70 od71 an71:Option Addr}{sl1 sl2 sl3 sl4 sl5 sl6 sl7 sl8 sl9 sl10 sl11 sl12 sl13 sl14 sl15 sl16 sl17 sl18 sl19 sl20 sl21 sl22 sl23 sl24 sl25 sl26 sl27 sl28 sl29 sl30 sl31 sl32 sl33 sl34 sl35 sl36 sl37 sl38 sl39 sl40 sl41 sl42 sl43 sl44 sl45 sl46 sl47 sl48 sl49 sl50 sl51 sl52 sl53 sl54 sl55 sl56 sl57 sl58 sl59 sl60 sl61 sl62 sl63 sl64 sl65 sl66 sl67 sl68 sl69 sl70 sl71:Array (Option Value)}{oc1 kV1 dc1 pm1 cd1 ct1 oc2 kV2 dc2 pm2 cd2 ct2 oc3 kV3 dc3 pm3 cd3 ct3 oc4 kV4 dc4 pm4 cd4 ct4 oc5 kV5 dc5 pm5 cd5 ct5 oc6 kV6 dc6 pm6 cd6 ct6 oc7 kV7 dc7 pm7 cd7 ct7 oc8 kV8 dc8 pm8 cd8 ct8 oc9 kV9 dc9 pm9 cd9 ct9 oc10 kV10 dc10 pm10 cd10 ct10 oc11 kV11 dc11 pm11 cd11 ct11 oc12 kV12 dc12 pm12 cd12 ct12 oc13 kV13 dc13 pm13 cd13 ct13 oc14 kV14 dc14 pm14 cd14 ct14 oc15 kV15 dc15 pm15 cd15 ct15 oc16 kV16 dc16 pm16 cd16 ct16 oc17 kV17 dc17 pm17 cd17 ct17 oc18 kV18 dc18 pm18 cd18 ct18 oc19 kV19 dc19 pm19 cd19 ct19 oc20 kV20 dc20 pm20 cd20 ct20 oc21 kV21 dc21 pm21 cd21 ct21 oc22 kV22 dc22 pm22 cd22 ct22 oc23 kV23 dc23 pm23 cd23 ct23 oc24 kV24 dc24 pm24 cd24 ct24 oc25 kV25 dc25 pm25 cd25 ct25 oc26 kV26 dc26 pm26 cd26 ct26 oc27 kV27 dc27 pm27 cd27 ct27 oc28 kV28 dc28 pm28 cd28 ct28 oc29 kV29 dc29 pm29 cd29 ct29 oc30 kV30 dc30 pm30 cd30 ct30 oc31 kV31 dc31 pm31 cd31 ct31 oc32 kV32 dc32 pm32 cd32 ct32 oc33 kV33 dc33 pm33 cd33 ct33 oc34 kV34 dc34 pm34 cd34 ct34 oc35 kV35 dc35 pm35 cd35 ct35 oc36 kV36 dc36 pm36 cd36 ct36 oc37 kV37 dc37 pm37 cd37 ct37 oc38 kV38 dc38 pm38 cd38 ct38 oc39 kV39 dc39 pm39 cd39 ct39 oc40 kV40 dc40 pm40 cd40 ct40 oc41 kV41 dc41 pm41 cd41 ct41 oc42 kV42 dc42 pm42 cd42 ct42 oc43 kV43 dc43 pm43 cd43 ct43 oc44 kV44 dc44 pm44 cd44 ct44 oc45 kV45 dc45 pm45 cd45 ct45 oc46 kV46 dc46 pm46 cd46 ct46 oc47 kV47 dc47 pm47 cd47 ct47 oc48 kV48 dc48 pm48 cd48 ct48 oc49 kV49 dc49 pm49 cd49 ct49 oc50 kV50 dc50 pm50 cd50 ct50 oc51 kV51 dc51 pm51 cd51 ct51 oc52 kV52 dc52 pm52 cd52 ct52 oc53 kV53 dc53 pm53 cd53 ct53 oc54 kV54 dc54 pm54 cd54 ct54 oc55 kV55 dc55 pm55 cd55 ct55 oc56 kV56 dc56 pm56 cd56 ct56 oc57 kV57 dc57 pm57 cd57 ct57 oc58 kV58 dc58 pm58 cd58 ct58 oc59 kV59 dc59 pm59 cd59 ct59 oc60 kV60 dc60 pm60 cd60 ct60 oc61 kV61 dc61 pm61 cd61 ct61 oc62 kV62 dc62 pm62 cd62 ct62 oc63 kV63 dc63 pm63 cd63 ct63 oc64 kV64 dc64 pm64 cd64 ct64 oc65 kV65 dc65 pm65 cd65 ct65 oc66 kV66 dc66 pm66 cd66 ct66 oc67 kV67 dc67 pm67 cd67 ct67 oc68 kV68 dc68 pm68 cd68 ct68 oc69 kV69 dc69 pm69 cd69 ct69 oc70 kV70 dc70 pm70 cd70 ct70 oc71 kV71 dc71 pm71 cd71 ct71 uW uS uN uR uMS:Value}{TD:Addr}{ocTD:Value}{odTD:Option Addr}{nnTD:Nat}{slTD:Array (Option Value)}
  (a1:nA K "set_of" f1) (l1:lK K f1 "set_of" "set_of" Zeo oc1 od1 kV1 dc1 pm1 an1 cd1 ct1 sl1) (c1:codeIn K cd1 "set_of" = true) (k1:keepIn K (.ref f1)=true)
  (a2:nA K "worlds_of" f2) (l2:lK K f2 "worlds_of" "worlds_of" Zbn oc2 od2 kV2 dc2 pm2 an2 cd2 ct2 sl2) (c2:codeIn K cd2 "worlds_of" = true) (k2:keepIn K (.ref f2)=true)
  (a3:nA K "least_of" f3) (l3:lK K f3 "least_of" "least_of" Zc1 oc3 od3 kV3 dc3 pm3 an3 cd3 ct3 sl3) (c3:codeIn K cd3 "least_of" = true) (k3:keepIn K (.ref f3)=true)
  (a4:nA K "within" f4) (l4:lK K f4 "within" "within" Zcf oc4 od4 kV4 dc4 pm4 an4 cd4 ct4 sl4) (c4:codeIn K cd4 "within" = true) (k4:keepIn K (.ref f4)=true)
  (a5:nA K "without" f5) (l5:lK K f5 "without" "without" Zcz oc5 od5 kV5 dc5 pm5 an5 cd5 ct5 sl5) (c5:codeIn K cd5 "without" = true) (k5:keepIn K (.ref f5)=true)
  (a6:nA K "can_do" f6) (l6:lK K f6 "can_do" "can_do" Zep oc6 od6 kV6 dc6 pm6 an6 cd6 ct6 sl6) (c6:codeIn K cd6 "can_do" = true) (k6:keepIn K (.ref f6)=true)
  (a7:nA K "after" f7) (l7:lK K f7 "after" "after" Zf2 oc7 od7 kV7 dc7 pm7 an7 cd7 ct7 sl7) (c7:codeIn K cd7 "after" = true) (k7:keepIn K (.ref f7)=true)
  (a8:nA K "parts" f8) (l8:lK K f8 "parts" "parts" Ze0 oc8 od8 kV8 dc8 pm8 an8 cd8 ct8 sl8) (c8:codeIn K cd8 "parts" = true) (k8:keepIn K (.ref f8)=true)
  (a9:nA K "check_can" f9) (l9:lK K f9 "check_can" "check_can" Zbz oc9 od9 kV9 dc9 pm9 an9 cd9 ct9 sl9) (c9:codeIn K cd9 "check_can" = true) (k9:keepIn K (.ref f9)=true)
  (a10:nA K "led_to" f10) (l10:lK K f10 "led_to" "led_to" Zft oc10 od10 kV10 dc10 pm10 an10 cd10 ct10 sl10) (c10:codeIn K cd10 "led_to" = true) (k10:keepIn K (.ref f10)=true)
  (a11:nA K "least" f11) (l11:lK K f11 "least" "least" Zfu oc11 od11 kV11 dc11 pm11 an11 cd11 ct11 sl11) (c11:codeIn K cd11 "least" = true) (k11:keepIn K (.ref f11)=true)
  (a12:nA K "spread" f12) (l12:lK K f12 "spread" "spread" Zdx oc12 od12 kV12 dc12 pm12 an12 cd12 ct12 sl12) (c12:codeIn K cd12 "spread" = true) (k12:keepIn K (.ref f12)=true)
  (a13:nA K "add_sets" f13) (l13:lK K f13 "add_sets" "add_sets" Zc2 oc13 od13 kV13 dc13 pm13 an13 cd13 ct13 sl13) (c13:codeIn K cd13 "add_sets" = true) (k13:keepIn K (.ref f13)=true)
  (a14:nA K "moves_of" f14) (l14:lK K f14 "moves_of" "moves_of" Zc0 oc14 od14 kV14 dc14 pm14 an14 cd14 ct14 sl14) (c14:codeIn K cd14 "moves_of" = true) (k14:keepIn K (.ref f14)=true)
  (a15:nA K "deed_moves" f15) (l15:lK K f15 "deed_moves" "deed_moves" Zbw oc15 od15 kV15 dc15 pm15 an15 cd15 ct15 sl15) (c15:codeIn K cd15 "deed_moves" = true) (k15:keepIn K (.ref f15)=true)
  (a16:nA K "look_moves" f16) (l16:lK K f16 "look_moves" "look_moves" Zbl oc16 od16 kV16 dc16 pm16 an16 cd16 ct16 sl16) (c16:codeIn K cd16 "look_moves" = true) (k16:keepIn K (.ref f16)=true)
  (a17:nA K "next_prices" f17) (l17:lK K f17 "next_prices" "next_prices" Zbg oc17 od17 kV17 dc17 pm17 an17 cd17 ct17 sl17) (c17:codeIn K cd17 "next_prices" = true) (k17:keepIn K (.ref f17)=true)
  (a18:nA K "cheapest" f18) (l18:lK K f18 "cheapest" "cheapest" Zb0 oc18 od18 kV18 dc18 pm18 an18 cd18 ct18 sl18) (c18:codeIn K cd18 "cheapest" = true) (k18:keepIn K (.ref f18)=true)
  (a19:nA K "dearest" f19) (l19:lK K f19 "dearest" "dearest" Zck oc19 od19 kV19 dc19 pm19 an19 cd19 ct19 sl19) (c19:codeIn K cd19 "dearest" = true) (k19:keepIn K (.ref f19)=true)
  (a20:nA K "check_many" f20) (l20:lK K f20 "check_many" "check_many" Zby oc20 od20 kV20 dc20 pm20 an20 cd20 ct20 sl20) (c20:codeIn K cd20 "check_many" = true) (k20:keepIn K (.ref f20)=true)
  (a21:nA K "check_steps" f21) (l21:lK K f21 "check_steps" "check_steps" Zbd oc21 od21 kV21 dc21 pm21 an21 cd21 ct21 sl21) (c21:codeIn K cd21 "check_steps" = true) (k21:keepIn K (.ref f21)=true)
  (a22:nA K "check_name" f22) (l22:lK K f22 "check_name" "check_name" Zbx oc22 od22 kV22 dc22 pm22 an22 cd22 ct22 sl22) (c22:codeIn K cd22 "check_name" = true) (k22:keepIn K (.ref f22)=true)
  (a23:nA K "check_price" f23) (l23:lK K f23 "check_price" "check_price" Zbh oc23 od23 kV23 dc23 pm23 an23 cd23 ct23 sl23) (c23:codeIn K cd23 "check_price" = true) (k23:keepIn K (.ref f23)=true)
  (a24:nA K "check_table" f24) (l24:lK K f24 "check_table" "check_table" Zbc oc24 od24 kV24 dc24 pm24 an24 cd24 ct24 sl24) (c24:codeIn K cd24 "check_table" = true) (k24:keepIn K (.ref f24)=true)
  (a25:nA K "check_entry" f25) (l25:lK K f25 "check_entry" "check_entry" Zbe oc25 od25 kV25 dc25 pm25 an25 cd25 ct25 sl25) (c25:codeIn K cd25 "check_entry" = true) (k25:keepIn K (.ref f25)=true)
  (a26:nA K "read_deeds" f26) (l26:lK K f26 "read_deeds" "read_deeds" Zbk oc26 od26 kV26 dc26 pm26 an26 cd26 ct26 sl26) (c26:codeIn K cd26 "read_deeds" = true) (k26:keepIn K (.ref f26)=true)
  (a27:nA K "read_looks" f27) (l27:lK K f27 "read_looks" "read_looks" Zbu oc27 od27 kV27 dc27 pm27 an27 cd27 ct27 sl27) (c27:codeIn K cd27 "read_looks" = true) (k27:keepIn K (.ref f27)=true)
  (a28:nA K "parted" f28) (l28:lK K f28 "parted" "parted" Zdy oc28 od28 kV28 dc28 pm28 an28 cd28 ct28 sl28) (c28:codeIn K cd28 "parted" = true) (k28:keepIn K (.ref f28)=true)
  (a29:nA K "doable_sets" f29) (l29:lK K f29 "doable_sets" "doable_sets" Za8 oc29 od29 kV29 dc29 pm29 an29 cd29 ct29 sl29) (c29:codeIn K cd29 "doable_sets" = true) (k29:keepIn K (.ref f29)=true)
  (a30:nA K "_law_cell" f30) (l30:lK K f30 "_law_cell" "_law_cell" Ze1 oc30 od30 kV30 dc30 pm30 an30 cd30 ct30 sl30) (c30:codeIn K cd30 "_law_cell" = true) (k30:keepIn K (.ref f30)=true)
  (a31:nA K "_law_draw" f31) (l31:lK K f31 "_law_draw" "_law_draw" Zb5 oc31 od31 kV31 dc31 pm31 an31 cd31 ct31 sl31) (c31:codeIn K cd31 "_law_draw" = true) (k31:keepIn K (.ref f31)=true)
  (a32:nA K "_law_sign" f32) (l32:lK K f32 "_law_sign" "_law_sign" Zfw oc32 od32 kV32 dc32 pm32 an32 cd32 ct32 sl32) (c32:codeIn K cd32 "_law_sign" = true) (k32:keepIn K (.ref f32)=true)
  (a33:nA K "_law_words" f33) (l33:lK K f33 "_law_words" "_law_words" Zcr oc33 od33 kV33 dc33 pm33 an33 cd33 ct33 sl33) (c33:codeIn K cd33 "_law_words" = true) (k33:keepIn K (.ref f33)=true)
  (a34:nA K "_law_price" f34) (l34:lK K f34 "_law_price" "_law_price" Zdg oc34 od34 kV34 dc34 pm34 an34 cd34 ct34 sl34) (c34:codeIn K cd34 "_law_price" = true) (k34:keepIn K (.ref f34)=true)
  (a35:nA K "_law_entry" f35) (l35:lK K f35 "_law_entry" "_law_entry" Zd4 oc35 od35 kV35 dc35 pm35 an35 cd35 ct35 sl35) (c35:codeIn K cd35 "_law_entry" = true) (k35:keepIn K (.ref f35)=true)
  (a36:nA K "_law_deeds" f36) (l36:lK K f36 "_law_deeds" "_law_deeds" Zdi oc36 od36 kV36 dc36 pm36 an36 cd36 ct36 sl36) (c36:codeIn K cd36 "_law_deeds" = true) (k36:keepIn K (.ref f36)=true)
  (a37:nA K "_law_told" f37) (l37:lK K f37 "_law_told" "_law_told" Zfv oc37 od37 kV37 dc37 pm37 an37 cd37 ct37 sl37) (c37:codeIn K cd37 "_law_told" = true) (k37:keepIn K (.ref f37)=true)
  (a38:nA K "_law_looks" f38) (l38:lK K f38 "_law_looks" "_law_looks" Zdh oc38 od38 kV38 dc38 pm38 an38 cd38 ct38 sl38) (c38:codeIn K cd38 "_law_looks" = true) (k38:keepIn K (.ref f38)=true)
  (a39:nA K "_law_set" f39) (l39:lK K f39 "_law_set" "_law_set" Zhd oc39 od39 kV39 dc39 pm39 an39 cd39 ct39 sl39) (c39:codeIn K cd39 "_law_set" = true) (k39:keepIn K (.ref f39)=true)
  (a40:nA K "_law_list" f40) (l40:lK K f40 "_law_list" "_law_list" Zd2 oc40 od40 kV40 dc40 pm40 an40 cd40 ct40 sl40) (c40:codeIn K cd40 "_law_list" = true) (k40:keepIn K (.ref f40)=true)
  (a41:nA K "_law_copied" f41) (l41:lK K f41 "_law_copied" "_law_copied" Zcj oc41 od41 kV41 dc41 pm41 an41 cd41 ct41 sl41) (c41:codeIn K cd41 "_law_copied" = true) (k41:keepIn K (.ref f41)=true)
  (a42:nA K "_law_held" f42) (l42:lK K f42 "_law_held" "_law_held" Zf0 oc42 od42 kV42 dc42 pm42 an42 cd42 ct42 sl42) (c42:codeIn K cd42 "_law_held" = true) (k42:keepIn K (.ref f42)=true)
  (a43:nA K "_law_many" f43) (l43:lK K f43 "_law_many" "_law_many" Zfx oc43 od43 kV43 dc43 pm43 an43 cd43 ct43 sl43) (c43:codeIn K cd43 "_law_many" = true) (k43:keepIn K (.ref f43)=true)
  (a44:nA K "_law_whole" f44) (l44:lK K f44 "_law_whole" "_law_whole" Zd0 oc44 od44 kV44 dc44 pm44 an44 cd44 ct44 sl44) (c44:codeIn K cd44 "_law_whole" = true) (k44:keepIn K (.ref f44)=true)
  (a45:nA K "_law_goal" f45) (l45:lK K f45 "_law_goal" "_law_goal" Zf1 oc45 od45 kV45 dc45 pm45 an45 cd45 ct45 sl45) (c45:codeIn K cd45 "_law_goal" = true) (k45:keepIn K (.ref f45)=true)
  (a46:nA K "_law_keep" f46) (l46:lK K f46 "_law_keep" "_law_keep" Zfz oc46 od46 kV46 dc46 pm46 an46 cd46 ct46 sl46) (c46:codeIn K cd46 "_law_keep" = true) (k46:keepIn K (.ref f46)=true)
  (a47:nA K "_law_bound" f47) (l47:lK K f47 "_law_bound" "_law_bound" Zd5 oc47 od47 kV47 dc47 pm47 an47 cd47 ct47 sl47) (c47:codeIn K cd47 "_law_bound" = true) (k47:keepIn K (.ref f47)=true)
  (a48:nA K "_law_can" f48) (l48:lK K f48 "_law_can" "_law_can" Zi8 oc48 od48 kV48 dc48 pm48 an48 cd48 ct48 sl48) (c48:codeIn K cd48 "_law_can" = true) (k48:keepIn K (.ref f48)=true)
  (a49:nA K "_law_made" f49) (l49:lK K f49 "_law_made" "_law_made" Zfy oc49 od49 kV49 dc49 pm49 an49 cd49 ct49 sl49) (c49:codeIn K cd49 "_law_made" = true) (k49:keepIn K (.ref f49)=true)
  (a50:nA K "_law_split" f50) (l50:lK K f50 "_law_split" "_law_split" Zdf oc50 od50 kV50 dc50 pm50 an50 cd50 ct50 sl50) (c50:codeIn K cd50 "_law_split" = true) (k50:keepIn K (.ref f50)=true)
  (a51:nA K "_law_steps" f51) (l51:lK K f51 "_law_steps" "_law_steps" Zd1 oc51 od51 kV51 dc51 pm51 an51 cd51 ct51 sl51) (c51:codeIn K cd51 "_law_steps" = true) (k51:keepIn K (.ref f51)=true)
  (a52:nA K "_law_worst" f52) (l52:lK K f52 "_law_worst" "_law_worst" Zdz oc52 od52 kV52 dc52 pm52 an52 cd52 ct52 sl52) (c52:codeIn K cd52 "_law_worst" = true) (k52:keepIn K (.ref f52)=true)
  (a53:nA K "_law_value" f53) (l53:lK K f53 "_law_value" "_law_value" Zde oc53 od53 kV53 dc53 pm53 an53 cd53 ct53 sl53) (c53:codeIn K cd53 "_law_value" = true) (k53:keepIn K (.ref f53)=true)
  (a54:nA K "_law_least" f54) (l54:lK K f54 "_law_least" "_law_least" Zd3 oc54 od54 kV54 dc54 pm54 an54 cd54 ct54 sl54) (c54:codeIn K cd54 "_law_least" = true) (k54:keepIn K (.ref f54)=true)
  (a55:nA K "_law_is_least" f55) (l55:lK K f55 "_law_is_least" "_law_is_least" Zcd oc55 od55 kV55 dc55 pm55 an55 cd55 ct55 sl55) (c55:codeIn K cd55 "_law_is_least" = true) (k55:keepIn K (.ref f55)=true)
  (a56:nA K "law" f56) (l56:lK K f56 "law" "law" sLaw oc56 od56 kV56 dc56 pm56 an56 cd56 ct56 sl56) (c56:codeIn K cd56 "law" = true) (k56:keepIn K (.ref f56)=true)
  (aC:nsIn K mainGlobals "Chart" = some (some (.ref C))) (pgC:plainGet K C Str.empty=true) (hdC:hasDictIn K C=true) (poC:plainOver K C=true) (saC:findIn K (.ref C) "__setattr__" = some (some (.builtin "object.__setattr__"))) (mkC:makesIn K C=true) (kcC:keepIn K (.ref C)=true)
  (nC_1:findIn K (.ref C) "many" = some none)
  (nC_2:findIn K (.ref C) "prices" = some none)
  (nC_3:findIn K (.ref C) "told_outs" = some none)
  (nC_4:findIn K (.ref C) "told_answers" = some none)
  (nC_5:findIn K (.ref C) "told_parts" = some none)
  (nC_6:findIn K (.ref C) "told_doable" = some none)
  (aCE:nsIn K mainGlobals "Errand" = some (some (.ref CE))) (pgCE:plainGet K CE Str.empty=true) (hdCE:hasDictIn K CE=true) (poCE:plainOver K CE=true) (saCE:findIn K (.ref CE) "__setattr__" = some (some (.builtin "object.__setattr__"))) (mkCE:makesIn K CE=true) (kcCE:keepIn K (.ref CE)=true)
  (nCE_1:findIn K (.ref CE) "told_chart" = some none)
  (nCE_2:findIn K (.ref CE) "told_goal" = some none)
  (nCE_3:findIn K (.ref CE) "told_keep" = some none)
  (aCN:nsIn K mainGlobals "Cannot" = some (some (.ref CN)))
  (xCN_1:Zlc K CN=true)
  (xCN_2:keepIn K (.ref CN)=true)
  (xCN_3:findIn K (.ref CN) "__getattribute__" = some (some (.builtin "BaseException.__getattribute__")))
  (xCN_4:findIn K (.ref CN) "__getattr__" = some none)
  (xCN_5:subIn K (.ref CN) (.type "BaseException")=some true)
  (xCN_6:hasDictIn K CN=true)
  (xCN_7:findIn K (.ref CN) "name" = some none)
  (xCN_8:findIn K (.ref CN) "world" = some none)
  (xCN_9:readsIn K GE (.type "type")=true)
  (xCN_10:findCls K (.ref GE) (.type "type") "__init__" = some (.val (.builtin "ValueError.__init__")))
  (xCN_11:specialIn K (.ref GE) "__getattribute__" = some (some (.builtin "type.__getattribute__")))
  (xCN_12:findIn K (.ref CN) "__setattr__" = some (some (.builtin "object.__setattr__")))
  (xCN_13:(clsIn K CN).any (λcd=>Zkd cd.mro)=true)
  (xCN_14:subIn K (.ref CN) (.type "object")=some true)
  (xCN_15:subIn K (.ref CN) (.ref CN)=some true)
  (a57:findIn K (.ref C) "__init__" = some (some (.ref f57))) (i57:isFn K (.ref f57)=true) (l57:lK K f57 "__init__" "Chart.__init__" Zi9 oc57 od57 kV57 dc57 pm57 an57 cd57 ct57 sl57) (c57:codeIn K cd57 "Chart.__init__" = true) (k57:keepIn K (.ref f57)=true)
  (a58:findIn K (.ref C) "out_sets" = some (some (.ref f58))) (i58:isFn K (.ref f58)=true) (l58:lK K f58 "out_sets" "Chart.out_sets" Zee oc58 od58 kV58 dc58 pm58 an58 cd58 ct58 sl58) (c58:codeIn K cd58 "Chart.out_sets" = true) (k58:keepIn K (.ref f58)=true)
  (a59:findIn K (.ref C) "answer_sets" = some (some (.ref f59))) (i59:isFn K (.ref f59)=true) (l59:lK K f59 "answer_sets" "Chart.answer_sets" Zcb oc59 od59 kV59 dc59 pm59 an59 cd59 ct59 sl59) (c59:codeIn K cd59 "Chart.answer_sets" = true) (k59:keepIn K (.ref f59)=true)
  (a60:findIn K (.ref C) "doable" = some (some (.ref f60))) (i60:isFn K (.ref f60)=true) (l60:lK K f60 "doable" "Chart.doable" Zff oc60 od60 kV60 dc60 pm60 an60 cd60 ct60 sl60) (c60:codeIn K cd60 "Chart.doable" = true) (k60:keepIn K (.ref f60)=true)
  (a61:findIn K (.ref C) "check_deed" = some (some (.ref f61))) (i61:isFn K (.ref f61)=true) (l61:lK K f61 "check_deed" "Chart.check_deed" Zcp oc61 od61 kV61 dc61 pm61 an61 cd61 ct61 sl61) (c61:codeIn K cd61 "Chart.check_deed" = true) (k61:keepIn K (.ref f61)=true)
  (a62:findIn K (.ref C) "check_look" = some (some (.ref f62))) (i62:isFn K (.ref f62)=true) (l62:lK K f62 "check_look" "Chart.check_look" Zco oc62 od62 kV62 dc62 pm62 an62 cd62 ct62 sl62) (c62:codeIn K cd62 "Chart.check_look" = true) (k62:keepIn K (.ref f62)=true)
  (a63:findIn K (.ref C) "check_step" = some (some (.ref f63))) (i63:isFn K (.ref f63)=true) (l63:lK K f63 "check_step" "Chart.check_step" Zcn oc63 od63 kV63 dc63 pm63 an63 cd63 ct63 sl63) (c63:codeIn K cd63 "Chart.check_step" = true) (k63:keepIn K (.ref f63)=true)
  (a64:findIn K (.ref C) "deed_names" = some (some (.ref f64))) (i64:isFn K (.ref f64)=true) (l64:lK K f64 "deed_names" "Chart.deed_names" Zcm oc64 od64 kV64 dc64 pm64 an64 cd64 ct64 sl64) (c64:codeIn K cd64 "Chart.deed_names" = true) (k64:keepIn K (.ref f64)=true)
  (a65:findIn K (.ref C) "look_names" = some (some (.ref f65))) (i65:isFn K (.ref f65)=true) (l65:lK K f65 "look_names" "Chart.look_names" Zcl oc65 od65 kV65 dc65 pm65 an65 cd65 ct65 sl65) (c65:codeIn K cd65 "Chart.look_names" = true) (k65:keepIn K (.ref f65)=true)
  (a66:findIn K (.ref C) "price_of" = some (some (.ref f66))) (i66:isFn K (.ref f66)=true) (l66:lK K f66 "price_of" "Chart.price_of" Zed oc66 od66 kV66 dc66 pm66 an66 cd66 ct66 sl66) (c66:codeIn K cd66 "Chart.price_of" = true) (k66:keepIn K (.ref f66)=true)
  (a67:findIn K (.ref CE) "__init__" = some (some (.ref f67))) (i67:isFn K (.ref f67)=true) (l67:K.lookup f67=some ⟨oc67,od67,.func (fnOf "__init__" "Errand.__init__" (Zal Zb8) (Zak Zb8) (Zab Zb8) (.ref TD) kV67 dc67 pm67 an67 cd67 ct67),sl67⟩) (c67:codeIn K cd67 "Errand.__init__" = true) (k67:keepIn K (.ref f67)=true)
  (a68:findIn K (.ref CE) "chart" = some (some (.ref f68))) (i68:isFn K (.ref f68)=true) (l68:lK K f68 "chart" "Errand.chart" Zbv oc68 od68 kV68 dc68 pm68 an68 cd68 ct68 sl68) (c68:codeIn K cd68 "Errand.chart" = true) (k68:keepIn K (.ref f68)=true)
  (a69:findIn K (.ref CE) "goal" = some (some (.ref f69))) (i69:isFn K (.ref f69)=true) (l69:lK K f69 "goal" "Errand.goal" Zb9 oc69 od69 kV69 dc69 pm69 an69 cd69 ct69 sl69) (c69:codeIn K cd69 "Errand.goal" = true) (k69:keepIn K (.ref f69)=true)
  (a70:findIn K (.ref CE) "keep" = some (some (.ref f70))) (i70:isFn K (.ref f70)=true) (l70:lK K f70 "keep" "Errand.keep" Zb7 oc70 od70 kV70 dc70 pm70 an70 cd70 ct70 sl70) (c70:codeIn K cd70 "Errand.keep" = true) (k70:keepIn K (.ref f70)=true)
  (a71:findIn K (.ref CN) "__init__" = some (some (.ref f71))) (i71:isFn K (.ref f71)=true) (l71:lK K f71 "__init__" "Cannot.__init__" Zca oc71 od71 kV71 dc71 pm71 an71 cd71 ct71 sl71) (c71:codeIn K cd71 "Cannot.__init__" = true) (k71:keepIn K (.ref f71)=true)
  (aG:nsIn K mainGlobals "GropeError" = some (some (.ref GE))) (aE:nsIn K mainGlobals "NoName" = some (some (.ref NN))) (oG:excIn K GE bmV "ValueError.__new__" = true) (oE:excIn K NN bmV "ValueError.__new__" = true) (sE:mroIn K NN GE=true)
  (gW:nsIn K mainGlobals "MOST_WORLDS" = some (some uW)) (vW:absV uW=some (.int 200))
  (gS:nsIn K mainGlobals "MOST_STEPS" = some (some uS)) (vS:absV uS=some (.int 40))
  (gN:nsIn K mainGlobals "MOST_SIGNS" = some (some uN)) (vN:absV uN=some (.int 30))
  (gR:nsIn K mainGlobals "MOST_PRICE" = some (some uR)) (vR:absV uR=some (.int 1000000000))
  (gMS:nsIn K mainGlobals "MOST_SETS" = some (some uMS)) (vMS:absV uMS=some (.int 200))
  (lTD:K.lookup TD=some ⟨ocTD,odTD,.seq #[.none] nnTD,slTD⟩)
  (z1:nsIn K mainGlobals "len" = some none) (z2:nsIn K mainGlobals "range" = some none) (z3:nsIn K mainGlobals "tuple" = some none) (z4:nsIn K mainGlobals "zip" = some none) (z5:nsIn K mainGlobals "isinstance" = some none) (z6:nsIn K mainGlobals "str" = some none) (z7:nsIn K mainGlobals "list" = some none) (z8:nsIn K mainGlobals "set" = some none) (z9:nsIn K mainGlobals "all" = some none) (z10:nsIn K mainGlobals "sorted" = some none) (z11:nsIn K mainGlobals "int" = some none) (z12:nsIn K mainGlobals "bool" = some none) (z13:nsIn K mainGlobals "sum" = some none) (z14:nsIn K mainGlobals "max" = some none) (z15:nsIn K mainGlobals "enumerate" = some none) (z16:nsIn K mainGlobals "dict" = some none) (z17:nsIn K mainGlobals "ValueError" = some none) (z18:nsIn K mainGlobals "min" = some none) :
  ∃fd:FuncData,(∀(s:Shared) (v:Value),BindsTo s fd ⟨[v],[]⟩ [("_law_script",v)])∧∀base:Heap,K.In base→base.Ns mainGlobals mg→FnOk l.prog w K mg base CX0 24 fa fd ["_law_script"] (spLaw K):=by
 have e:=hfa.symm.trans (mg_of X G a56)
 cases e
 have T:Bl mg:=⟨mg_none_of X G z1,mg_none_of X G z2,mg_none_of X G z3,mg_none_of X G z4,mg_none_of X G z5,mg_none_of X G z6,mg_none_of X G z7,mg_none_of X G z8,mg_none_of X G z9,mg_none_of X G z10,mg_none_of X G z11,mg_none_of X G z12,mg_none_of X G z13,mg_none_of X G z14,mg_none_of X G z15,mg_none_of X G z16,mg_none_of X G z17,mg_none_of X G z18⟩
 obtain⟨tW,eW⟩:=(Zg0 vW:RelV (.int 200) uW)
 rw[eW]at gW
 obtain⟨tS,eS⟩:=(Zg0 vS:RelV (.int 40) uS)
 rw[eS]at gS
 obtain⟨tN,eN⟩:=(Zg0 vN:RelV (.int 30) uN)
 rw[eN]at gN
 obtain⟨tR,eR⟩:=(Zg0 vR:RelV (.int 1000000000) uR)
 rw[eR]at gR
 obtain⟨tMS,eMS⟩:=(Zg0 vMS:RelV (.int 200) uMS)
 rw[eMS]at gMS
 have F1:=Zaq l1 c1 k1
 have F2:=Zaq l2 c2 k2
 have F3:=Zaq l3 c3 k3
 have F4:=Zaq l4 c4 k4
 have F5:=Zaq l5 c5 k5
 have F6:=Zaq l6 c6 k6
 have F7:=Zaq l7 c7 k7
 have F8:=Zaq l8 c8 k8
 have F9:=Zaq l9 c9 k9
 have F10:=Zaq l10 c10 k10
 have F11:=Zaq l11 c11 k11
 have F12:=Zaq l12 c12 k12
 have F13:=Zaq l13 c13 k13
 have F14:=Zaq l14 c14 k14
 have F15:=Zaq l15 c15 k15
 have F16:=Zaq l16 c16 k16
 have F17:=Zaq l17 c17 k17
 have F18:=Zaq l18 c18 k18
 have F19:=Zaq l19 c19 k19
 have F20:=Zaq l20 c20 k20
 have F21:=Zaq l21 c21 k21
 have F22:=Zaq l22 c22 k22
 have F23:=Zaq l23 c23 k23
 have F24:=Zaq l24 c24 k24
 have F25:=Zaq l25 c25 k25
 have F26:=Zaq l26 c26 k26
 have F27:=Zaq l27 c27 k27
 have F28:=Zaq l28 c28 k28
 have F29:=Zaq l29 c29 k29
 have F30:=Zaq l30 c30 k30
 have F31:=Zaq l31 c31 k31
 have F32:=Zaq l32 c32 k32
 have F33:=Zaq l33 c33 k33
 have F34:=Zaq l34 c34 k34
 have F35:=Zaq l35 c35 k35
 have F36:=Zaq l36 c36 k36
 have F37:=Zaq l37 c37 k37
 have F38:=Zaq l38 c38 k38
 have F39:=Zaq l39 c39 k39
 have F40:=Zaq l40 c40 k40
 have F41:=Zaq l41 c41 k41
 have F42:=Zaq l42 c42 k42
 have F43:=Zaq l43 c43 k43
 have F44:=Zaq l44 c44 k44
 have F45:=Zaq l45 c45 k45
 have F46:=Zaq l46 c46 k46
 have F47:=Zaq l47 c47 k47
 have F48:=Zaq l48 c48 k48
 have F49:=Zaq l49 c49 k49
 have F50:=Zaq l50 c50 k50
 have F51:=Zaq l51 c51 k51
 have F52:=Zaq l52 c52 k52
 have F53:=Zaq l53 c53 k53
 have F54:=Zaq l54 c54 k54
 have F55:=Zaq l55 c55 k55
 have F56:=Zaq l56 c56 k56
 have F57:=Zaq l57 c57 k57
 have b57:=F57.binds (ps:=["self", "many", "deeds", "looks"]) λ_ _ _ _ _ _=>ln4 λ_ _ _ _=>rfl
 have F58:=Zaq l58 c58 k58
 have b58:=F58.binds (ps:=["self", "name"]) λ_ _ _ _ _ _=>ln2 λ_ _=>rfl
 have F59:=Zaq l59 c59 k59
 have b59:=F59.binds (ps:=["self", "name"]) λ_ _ _ _ _ _=>ln2 λ_ _=>rfl
 have F60:=Zaq l60 c60 k60
 have b60:=F60.binds (ps:=["self", "name"]) λ_ _ _ _ _ _=>ln2 λ_ _=>rfl
 have F61:=Zaq l61 c61 k61
 have b61:=F61.binds (ps:=["self", "name"]) λ_ _ _ _ _ _=>ln2 λ_ _=>rfl
 have F62:=Zaq l62 c62 k62
 have b62:=F62.binds (ps:=["self", "name"]) λ_ _ _ _ _ _=>ln2 λ_ _=>rfl
 have F63:=Zaq l63 c63 k63
 have b63:=F63.binds (ps:=["self", "name"]) λ_ _ _ _ _ _=>ln2 λ_ _=>rfl
 have F64:=Zaq l64 c64 k64
 have b64:=F64.binds (ps:=["self"]) λ_ _ _ _ _ _=>ln1 λ_=>rfl
 have F65:=Zaq l65 c65 k65
 have b65:=F65.binds (ps:=["self"]) λ_ _ _ _ _ _=>ln1 λ_=>rfl
 have F66:=Zaq l66 c66 k66
 have b66:=F66.binds (ps:=["self", "name"]) λ_ _ _ _ _ _=>ln2 λ_ _=>rfl
 have F67:=funD_mk l67 c67
 have b67:=F67.binds (ps:=["self", "chart", "goal", "keep"]) lTD λ_ _ _ _ _ _=>ln4 λ_ _ _ _=>⟨_,rfl,rfl⟩
 have F68:=Zaq l68 c68 k68
 have b68:=F68.binds (ps:=["self"]) λ_ _ _ _ _ _=>ln1 λ_=>rfl
 have F69:=Zaq l69 c69 k69
 have b69:=F69.binds (ps:=["self"]) λ_ _ _ _ _ _=>ln1 λ_=>rfl
 have F70:=Zaq l70 c70 k70
 have b70:=F70.binds (ps:=["self"]) λ_ _ _ _ _ _=>ln1 λ_=>rfl
 have F71:=Zaq l71 c71 k71
 have b71:=F71.binds (ps:=["self", "name", "world"]) λ_ _ _ _ _ _=>ln3 λ_ _ _=>rfl
 have XCN:XC K CN f71 GE:=⟨xCN_1,beq_iff_eq.mp i71,xCN_2,xCN_3,xCN_4,xCN_5,xCN_6,xCN_7,xCN_8,xCN_9,xCN_10,xCN_11,xCN_12,xCN_13,xCN_14,xCN_15,a71⟩
 have CC:Cls K C:=⟨pgC,hdC,poC,saC⟩
 have CCE:Cls K CE:=⟨pgCE,hdCE,poCE,saCE⟩
 have D1:Df K mg "set_of" Zeo ["worlds"] f1 _:=⟨F1,mg_of X G a1,F1.binds λ_ _ _ _ _ _=>ln1 λ_=>rfl⟩
 have D2:Df K mg "worlds_of" Zbn ["some"] f2 _:=⟨F2,mg_of X G a2,F2.binds λ_ _ _ _ _ _=>ln1 λ_=>rfl⟩
 have D3:Df K mg "least_of" Zc1 ["some"] f3 _:=⟨F3,mg_of X G a3,F3.binds λ_ _ _ _ _ _=>ln1 λ_=>rfl⟩
 have D4:Df K mg "within" Zcf ["one", "other"] f4 _:=⟨F4,mg_of X G a4,F4.binds λ_ _ _ _ _ _=>ln2 λ_ _=>rfl⟩
 have D5:Df K mg "without" Zcz ["one", "other"] f5 _:=⟨F5,mg_of X G a5,F5.binds λ_ _ _ _ _ _=>ln2 λ_ _=>rfl⟩
 have D6:Df K mg "can_do" Zep ["chart", "name", "some"] f6 _:=⟨F6,mg_of X G a6,F6.binds λ_ _ _ _ _ _=>ln3 λ_ _ _=>rfl⟩
 have D7:Df K mg "after" Zf2 ["chart", "name", "some"] f7 _:=⟨F7,mg_of X G a7,F7.binds λ_ _ _ _ _ _=>ln3 λ_ _ _=>rfl⟩
 have D8:Df K mg "parts" Ze0 ["chart", "name", "some"] f8 _:=⟨F8,mg_of X G a8,F8.binds λ_ _ _ _ _ _=>ln3 λ_ _ _=>rfl⟩
 have D9:Df K mg "check_can" Zbz ["chart", "name", "some"] f9 _:=⟨F9,mg_of X G a9,F9.binds λ_ _ _ _ _ _=>ln3 λ_ _ _=>rfl⟩
 have D10:Df K mg "led_to" Zft ["outs", "some"] f10 _:=⟨F10,mg_of X G a10,F10.binds λ_ _ _ _ _ _=>ln2 λ_ _=>rfl⟩
 have D11:Df K mg "least" Zfu ["errand", "some", "most"] f11 _:=⟨F11,mg_of X G a11,F11.binds λ_ _ _ _ _ _=>ln3 λ_ _ _=>rfl⟩
 have D12:Df K mg "spread" Zdx ["errand", "some", "most"] f12 _:=⟨F12,mg_of X G a12,F12.binds λ_ _ _ _ _ _=>ln3 λ_ _ _=>rfl⟩
 have D13:Df K mg "add_sets" Zc2 ["moves", "sets"] f13 _:=⟨F13,mg_of X G a13,F13.binds λ_ _ _ _ _ _=>ln2 λ_ _=>rfl⟩
 have D14:Df K mg "moves_of" Zc0 ["errand", "some"] f14 _:=⟨F14,mg_of X G a14,F14.binds λ_ _ _ _ _ _=>ln2 λ_ _=>rfl⟩
 have D15:Df K mg "deed_moves" Zbw ["errand", "some"] f15 _:=⟨F15,mg_of X G a15,F15.binds λ_ _ _ _ _ _=>ln2 λ_ _=>rfl⟩
 have D16:Df K mg "look_moves" Zbl ["chart", "some"] f16 _:=⟨F16,mg_of X G a16,F16.binds λ_ _ _ _ _ _=>ln2 λ_ _=>rfl⟩
 have D17:Df K mg "next_prices" Zbg ["errand", "moves", "prices"] f17 _:=⟨F17,mg_of X G a17,F17.binds λ_ _ _ _ _ _=>ln3 λ_ _ _=>rfl⟩
 have D18:Df K mg "cheapest" Zb0 ["moves", "prices"] f18 _:=⟨F18,mg_of X G a18,F18.binds λ_ _ _ _ _ _=>ln2 λ_ _=>rfl⟩
 have D19:Df K mg "dearest" Zck ["sets", "prices"] f19 _:=⟨F19,mg_of X G a19,F19.binds λ_ _ _ _ _ _=>ln2 λ_ _=>rfl⟩
 have D20:Df K mg "check_many" Zby ["many"] f20 _:=⟨F20,mg_of X G a20,F20.binds λ_ _ _ _ _ _=>ln1 λ_=>rfl⟩
 have D21:Df K mg "check_steps" Zbd ["deeds", "looks"] f21 _:=⟨F21,mg_of X G a21,F21.binds λ_ _ _ _ _ _=>ln2 λ_ _=>rfl⟩
 have D22:Df K mg "check_name" Zbx ["name"] f22 _:=⟨F22,mg_of X G a22,F22.binds λ_ _ _ _ _ _=>ln1 λ_=>rfl⟩
 have D23:Df K mg "check_price" Zbh ["price"] f23 _:=⟨F23,mg_of X G a23,F23.binds λ_ _ _ _ _ _=>ln1 λ_=>rfl⟩
 have D24:Df K mg "check_table" Zbc ["many", "name", "table"] f24 _:=⟨F24,mg_of X G a24,F24.binds λ_ _ _ _ _ _=>ln3 λ_ _ _=>rfl⟩
 have D25:Df K mg "check_entry" Zbe ["many", "name", "entry"] f25 _:=⟨F25,mg_of X G a25,F25.binds λ_ _ _ _ _ _=>ln3 λ_ _ _=>rfl⟩
 have D26:Df K mg "read_deeds" Zbk ["many", "deeds"] f26 _:=⟨F26,mg_of X G a26,F26.binds λ_ _ _ _ _ _=>ln2 λ_ _=>rfl⟩
 have D27:Df K mg "read_looks" Zbu ["many", "looks"] f27 _:=⟨F27,mg_of X G a27,F27.binds λ_ _ _ _ _ _=>ln2 λ_ _=>rfl⟩
 have D28:Df K mg "parted" Zdy ["answers"] f28 _:=⟨F28,mg_of X G a28,F28.binds λ_ _ _ _ _ _=>ln1 λ_=>rfl⟩
 have D29:Df K mg "doable_sets" Za8 ["outs", "answers"] f29 _:=⟨F29,mg_of X G a29,F29.binds λ_ _ _ _ _ _=>ln2 λ_ _=>rfl⟩
 have D30:Df K mg "_law_cell" Ze1 ["_law_script", "_law_k"] f30 _:=⟨F30,mg_of X G a30,F30.binds λ_ _ _ _ _ _=>ln2 λ_ _=>rfl⟩
 have D31:Df K mg "_law_draw" Zb5 ["_law_script", "_law_k", "_law_prime", "_law_many_here"] f31 _:=⟨F31,mg_of X G a31,F31.binds λ_ _ _ _ _ _=>ln4 λ_ _ _ _=>rfl⟩
 have D32:Df K mg "_law_sign" Zfw ["_law_number"] f32 _:=⟨F32,mg_of X G a32,F32.binds λ_ _ _ _ _ _=>ln1 λ_=>rfl⟩
 have D33:Df K mg "_law_words" Zcr ["_law_script", "_law_k", "_law_letters"] f33 _:=⟨F33,mg_of X G a33,F33.binds λ_ _ _ _ _ _=>ln3 λ_ _ _=>rfl⟩
 have D34:Df K mg "_law_price" Zdg ["_law_script", "_law_k"] f34 _:=⟨F34,mg_of X G a34,F34.binds λ_ _ _ _ _ _=>ln2 λ_ _=>rfl⟩
 have D35:Df K mg "_law_entry" Zd4 ["_law_script", "_law_k", "_law_many_here"] f35 _:=⟨F35,mg_of X G a35,F35.binds λ_ _ _ _ _ _=>ln3 λ_ _ _=>rfl⟩
 have D36:Df K mg "_law_deeds" Zdi ["_law_script", "_law_many_here"] f36 _:=⟨F36,mg_of X G a36,F36.binds λ_ _ _ _ _ _=>ln2 λ_ _=>rfl⟩
 have D37:Df K mg "_law_told" Zfv ["_law_script", "_law_k", "_law_answers"] f37 _:=⟨F37,mg_of X G a37,F37.binds λ_ _ _ _ _ _=>ln3 λ_ _ _=>rfl⟩
 have D38:Df K mg "_law_looks" Zdh ["_law_script", "_law_many_here"] f38 _:=⟨F38,mg_of X G a38,F38.binds λ_ _ _ _ _ _=>ln2 λ_ _=>rfl⟩
 have D39:Df K mg "_law_set" Zhd ["_law_script", "_law_k", "_law_many_here"] f39 _:=⟨F39,mg_of X G a39,F39.binds λ_ _ _ _ _ _=>ln3 λ_ _ _=>rfl⟩
 have D40:Df K mg "_law_list" Zd2 ["_law_some"] f40 _:=⟨F40,mg_of X G a40,F40.binds λ_ _ _ _ _ _=>ln1 λ_=>rfl⟩
 have D41:Df K mg "_law_copied" Zcj ["_law_steps_here"] f41 _:=⟨F41,mg_of X G a41,F41.binds λ_ _ _ _ _ _=>ln1 λ_=>rfl⟩
 have D42:Df K mg "_law_held" Zf0 ["_law_one"] f42 _:=⟨F42,mg_of X G a42,F42.binds λ_ _ _ _ _ _=>ln1 λ_=>rfl⟩
 have D43:Df K mg "_law_many" Zfx ["_law_script"] f43 _:=⟨F43,mg_of X G a43,F43.binds λ_ _ _ _ _ _=>ln1 λ_=>rfl⟩
 have D44:Df K mg "_law_whole" Zd0 ["_law_thing"] f44 _:=⟨F44,mg_of X G a44,F44.binds λ_ _ _ _ _ _=>ln1 λ_=>rfl⟩
 have D45:Df K mg "_law_goal" Zf1 ["_law_script", "_law_many_here"] f45 _:=⟨F45,mg_of X G a45,F45.binds λ_ _ _ _ _ _=>ln2 λ_ _=>rfl⟩
 have D46:Df K mg "_law_keep" Zfz ["_law_script", "_law_many_here"] f46 _:=⟨F46,mg_of X G a46,F46.binds λ_ _ _ _ _ _=>ln2 λ_ _=>rfl⟩
 have D47:Df K mg "_law_bound" Zd5 ["_law_script"] f47 _:=⟨F47,mg_of X G a47,F47.binds λ_ _ _ _ _ _=>ln1 λ_=>rfl⟩
 have D48:Df K mg "_law_can" Zi8 ["_law_table", "_law_some"] f48 _:=⟨F48,mg_of X G a48,F48.binds λ_ _ _ _ _ _=>ln2 λ_ _=>rfl⟩
 have D49:Df K mg "_law_made" Zfy ["_law_table", "_law_some"] f49 _:=⟨F49,mg_of X G a49,F49.binds λ_ _ _ _ _ _=>ln2 λ_ _=>rfl⟩
 have D50:Df K mg "_law_split" Zdf ["_law_table", "_law_some"] f50 _:=⟨F50,mg_of X G a50,F50.binds λ_ _ _ _ _ _=>ln2 λ_ _=>rfl⟩
 have D51:Df K mg "_law_steps" Zd1 ["_law_data", "_law_some"] f51 _:=⟨F51,mg_of X G a51,F51.binds λ_ _ _ _ _ _=>ln2 λ_ _=>rfl⟩
 have D52:Df K mg "_law_worst" Zdz ["_law_data", "_law_step", "_law_left", "_law_found"] f52 _:=⟨F52,mg_of X G a52,F52.binds λ_ _ _ _ _ _=>ln4 λ_ _ _ _=>rfl⟩
 have D53:Df K mg "_law_value" Zde ["_law_data", "_law_some", "_law_left", "_law_found"] f53 _:=⟨F53,mg_of X G a53,F53.binds λ_ _ _ _ _ _=>ln4 λ_ _ _ _=>rfl⟩
 have D54:Df K mg "_law_least" Zd3 ["_law_data", "_law_some", "_law_most"] f54 _:=⟨F54,mg_of X G a54,F54.binds λ_ _ _ _ _ _=>ln3 λ_ _ _=>rfl⟩
 have D55:Df K mg "_law_is_least" Zcd ["_law_told_here", "_law_due"] f55 _:=⟨F55,mg_of X G a55,F55.binds λ_ _ _ _ _ _=>ln2 λ_ _=>rfl⟩
 refine⟨fnOf "law" "law" (Zal sLaw) (Zak sLaw) (Zab sLaw) .none kV56 dc56 pm56 an56 cd56 ct56,λs v=>.of_eq rfl,λbase _ _=>?_⟩
 have R':Er K mg GE NN:=⟨mg_of X G aG,mg_of X G aE,oG,oE,sE⟩
 have M:Mc mg:=⟨⟨_,mg_of X G gW⟩,⟨_,mg_of X G gS⟩,⟨_,mg_of X G gN⟩,⟨_,mg_of X G gR⟩⟩
 have L:Cl K C:=⟨CC,nC_1,nC_2,nC_3,nC_4,nC_5,nC_6⟩
 have Gso:=ok_setof (P:=l.prog) (w:=w) (mg:=mg) (base:=base) F1
 have Gwo:=ok_worldsof (P:=l.prog) (w:=w) (base:=base) F2 T
 have Gcm:=ok_checkmany (P:=l.prog) (w:=w) (base:=base) F20 M
 have Gcn:=ok_checkname (P:=l.prog) (w:=w) (base:=base) F22 T M
 have Gcp:=ok_checkprice (P:=l.prog) (w:=w) (base:=base) F23 M
 have Gct:=ok_checktable (P:=l.prog) (w:=w) (base:=base) F24 T
 have Gce:=ok_checkentry (P:=l.prog) (w:=w) (base:=base) F25 T
 have Gcs:=ok_checksteps  F21 T M D22 Gcn D23 Gcp
 have Grl:=ok_readlooks  F27 T D24 Gct
 have Grd:=ok_readdeeds  F26 T D24 Gct D25 Gce D1 Gso
 have Gpa:=ok_parted  F28 T D1 Gso
 have Gdo:=ok_doable  F29 T D1 Gso
 have Gin:=ok_init  F57 L T D20 Gcm D21 Gcs D26 Grd D27 Grl D28 Gpa D29 Gdo
 have Gce':=ok_cell (P:=l.prog) (w:=w) (base:=base) F30 T
 have GdD:=ok_drawD  F31 D30 Gce'
 have Gdr:=ok_draw GdD
 have Gsg:=ok_sign (P:=l.prog) (w:=w) (mg:=mg) (base:=base) F32
 have Gws:=ok_words  F33 T D31 GdD D32 Gsg
 have Gpr:=ok_price  F34 D31 Gdr D30 Gce'
 have Gen:=ok_entryD  F35 T D31 Gdr
 have Gtl:=ok_tellD  F37 D31 Gdr
 have Gmy:=ok_manyD  F43 D31 Gdr
 have Gst:=ok_setD  F39 T D31 Gdr
 have Gds:=ok_deedsD  F36 T D33 Gws D31 Gdr D35 Gen D34 Gpr
 have Glk:=ok_looksD  F38 T D33 Gws D31 Gdr D37 Gtl D34 Gpr
 have Ghe:=ok_held (P:=l.prog) (w:=w) (base:=base) F42 T
 have Gcy:=ok_copied  F41 D42 Ghe
 have mX:=mg_of X G aCN
 have Gcd:=ok_checkdeed (P:=l.prog) (w:=w) (base:=base) F61 L R'
 have Gos:=ok_outsets  F58 L R' b61 ⟨a61,i61,k61⟩ Gcd
 have Gck:=ok_checkstep (P:=l.prog) (w:=w) (base:=base) F63 L R'
 have Gdm:=ok_doableM  F60 L R' b63 ⟨a63,i63,k63⟩ Gck
 have Glt:=ok_ledto  F10 D2 Gwo
 have Gwt:=ok_without (P:=l.prog) (w:=w) (mg:=mg) (base:=base) F5
 have Gls:=ok_leastof  F3 T D2 Gwo
 have Gwi:=ok_within (P:=l.prog) (w:=w) (mg:=mg) (base:=base) F4
 have Gxi:=ok_xinit (P:=l.prog) (w:=w) (base:=base) F71 XCN R'
 have Gcn':=ok_cando  F6 L D4 Gwi b60 ⟨a60,i60,k60⟩ Gdm
 have Gcc:=ok_checkcan  F9 L XCN mX b71 Gxi D6 Gcn' D5 Gwt D3 Gls b60 ⟨a60,i60,k60⟩ Gdm
 have Gaf:=ok_after  F7 L b58 ⟨a58,i58,k58⟩ Gos D9 Gcc D10 Glt
 have Gcl:=ok_checklook (P:=l.prog) (w:=w) (base:=base) F62 L R'
 have Gas':=ok_answersets  F59 L R' b62 ⟨a62,i62,k62⟩ Gcl
 have Gpt:=ok_parts  F8 L b59 ⟨a59,i59,k59⟩ Gas' D9 Gcc
 have Gdn:=ok_deednames (P:=l.prog) (w:=w) (base:=base) F64 L T
 have Gln:=ok_looknames (P:=l.prog) (w:=w) (base:=base) F65 L T
 have Gpo:=ok_priceof  F66 L R' b63 ⟨a63,i63,k63⟩ Gck
 have LE:ClE K CE:=⟨CCE,nCE_1,nCE_2,nCE_3⟩
 have Gei:=ok_erinit (P:=l.prog) (w:=w) (mg:=mg) (base:=base) F67 LE
 have Gec:=ok_erchart (P:=l.prog) (w:=w) (mg:=mg) (base:=base) (C:=C) F68 LE
 have Geg:=ok_ergoal (P:=l.prog) (w:=w) (mg:=mg) (base:=base) (C:=C) F69 LE
 have Gek:=ok_erkeep (P:=l.prog) (w:=w) (mg:=mg) (base:=base) (C:=C) F70 LE
 have Gdv:=ok_deedmoves  F15 L LE b68 ⟨a68,i68,k68⟩ Gec b64 ⟨a64,i64,k64⟩ Gdn D6 Gcn' D7 Gaf D4 Gwi b70 ⟨a70,i70,k70⟩ Gek b66 ⟨a66,i66,k66⟩ Gpo
 have Glv:=ok_lookmoves  F16 L b65 ⟨a65,i65,k65⟩ Gln D6 Gcn' D8 Gpt b66 ⟨a66,i66,k66⟩ Gpo
 have Gmo:=ok_movesof  F14 LE D4 Gwi b69 ⟨a69,i69,k69⟩ Geg D15 Gdv D16 Glv b68 ⟨a68,i68,k68⟩ Gec
 have Gad:=ok_addsets (P:=l.prog) (w:=w) (base:=base) F13 T ⟨_,mg_of X G gMS⟩
 have Gde:=ok_dearest (P:=l.prog) (w:=w) (base:=base) F19 T
 have Gch:=ok_cheapest  F18 T D19 Gde
 have Gnp:=ok_nextprices  F17 LE D4 Gwi b69 ⟨a69,i69,k69⟩ Geg D18 Gch
 have Gsp:=ok_spread  F12 LE T D4 Gwi b70 ⟨a70,i70,k70⟩ Gek D13 Gad D14 Gmo
 have Gle:=ok_least  F11 T D12 Gsp D17 Gnp
 have Gwh:=ok_whole (P:=l.prog) (w:=w) (base:=base) F44 T
 have Ggo:=ok_goal  F45 D31 Gdr D39 Gst
 have Gke:=ok_keep  F46 D31 Gdr
 have Gbo:=ok_bound  F47 D31 Gdr
 have Gli:=ok_listD (P:=l.prog) (w:=w) (base:=base) F40 T
 have Gca:=ok_lcan  F48 D40 Gli
 have Gma:=ok_lmade  F49 D40 Gli
 have Gsl:=ok_split  F50 T D40 Gli
 have Gsp2:=ok_steps  F51 D48 Gca D49 Gma D50 Gsl
 have Gva:=Zlv (Zk2 (P:=l.prog) (w:=w) (base:=base) 0 F53 D51 Gsp2 D52 (fn_false (P:=l.prog) (w:=w) (base:=base) (mg:=mg) (CX:=CX0)) (λk z=>by cases z)) λn ih=>Zk2 (P:=l.prog) (w:=w) (base:=base) (n + 1) F53 D51 Gsp2 D52 ((ok_worst (P:=l.prog) (w:=w) (base:=base) n F52 T D53 ih).mono (by lia)) (λk z=>by cases z; rfl)
 have Gll:=ok_lleast  F54 D53 Gva
 have Gil:=ok_isleast  F55 D44 Gwh
 exact ok_law F56 ⟨mkC,a57,i57,kcC⟩ (mg_of X G aC) b57 Gin ⟨mkCE,a67,i67,kcCE⟩ (mg_of X G aCE) b67 Gei D41 Gcy D43 Gmy D36 Gds D38 Glk D45 Ggo D46 Gke D39 Gst D47 Gbo D11 Gle D54 Gll D55 Gil
theorem walk {l:PySem.W.OpenLaw}{q:Program}{loose:List Str}{XP:(Str→Option Value)→Heap→Prop}{YP:World→Heap→Prop}{d:DefRec}{K:Params→W.Frag}(hn:l.most=some 63) (hdf:d.params.defaults=[])
  (hY:∀(w:World) (h:Heap),YP w h→(K w.params).In h)
  (F:∀(w:World) (mg:Str→Option Value) (fa:Addr) (h:Heap),(K w.params).In h→h.Ns mainGlobals mg→mg d.name=some (.ref fa) →
   ∃fd:FuncData,(∀(s:Shared) (u:Value),BindsTo s fd ⟨[u],[]⟩ [("_law_script",u)])∧∀base:Heap,(K w.params).In base→base.Ns mainGlobals mg→FnOk l.prog w (K w.params) mg base CX0 24 fa fd ["_law_script"] (spLaw (K w.params))) :
  PySem.W.WalkO q loose XP YP l.row.toRowW d [] (λf vs=>PySem.call f vs):=
 L2.walk_of (n:=63) (k:=24) (x := "_law_script") (CX:=λ_=>CX0) (sp:=λw=>spLaw (K w.params)) hn (by decide) hdf ⟨rfl,by decide,by decide⟩ hY F (λ_ _ a ns hl _ hS=>⟨a,ns,rfl,hS,hl,λ_=>rfl⟩) λ_ _ _ _ _ z=>z
end K44
/-- names that are taken: the twins that would have them are made for the walk alone,and it goes without them as well -/
def PySem.W.Fast.tw4048106981510101255:Nat:=0
def PySem.W.Fast.tw9727621795266167124:Nat:=0
def PySem.W.Fast.tw6136418634564896838:Nat:=0
def PySem.W.Fast.tw5396329485210047094:Nat:=0
def PySem.W.Fast.tw3366888885954640273:Nat:=0
def PySem.W.Fast.tw1599252757543727749:Nat:=0
def PySem.W.Fast.tw2350129280824447467:Nat:=0
def PySem.W.Fast.tw5999982664657348253:Nat:=0
def PySem.W.Fast.tw17020565766610271691:Nat:=0
def PySem.W.Fast.tw9494961318675812805:Nat:=0
def PySem.W.Fast.tw12180685281212722921:Nat:=0
def PySem.W.Fast.tw2980537626157874397:Nat:=0
def PySem.W.Fast.tw17762827851868183772:Nat:=0
def PySem.W.Fast.tw14076144918183825417:Nat:=0
def PySem.W.Fast.tw2723573226105217790:Nat:=0
def PySem.W.Fast.tw5981916590461251251:Nat:=0
def PySem.W.Fast.tw12315073563309573279:Nat:=0
def PySem.W.Fast.tw4684716518914961266:Nat:=0
def PySem.W.Fast.tw12022731239448638736:Nat:=0
def PySem.W.Fast.tw15132162292710360644:Nat:=0
def PySem.W.Fast.tw7105518203634944857:Nat:=0
def PySem.W.Fast.tw321636155741037375:Nat:=0
def PySem.W.Fast.tw6853778644226713168:Nat:=0
def PySem.W.Fast.tw12223328477337514638:Nat:=0
def PySem.W.Fast.tw4320525885003686080:Nat:=0
def PySem.W.Fast.tw18304487838511563530:Nat:=0
def PySem.W.Fast.tw780468231180483175:Nat:=0
def PySem.W.Fast.tw16551784439723464312:Nat:=0
def PySem.W.Fast.tw5849324056461554681:Nat:=0
def PySem.W.Fast.tw8488688351429565278:Nat:=0
open PySem PySem.W PyProof.Rows
set_option maxRecDepth 100000 in
set_option maxHeartbeats 0 in
theorem PySem.Challenge.cw_grope_k44_least_by_table_holds : PySem.Challenge.rw_grope_k44_least_by_table.Holds := by
 w_on; o_law; k_head; (case hw=>w_witness2)
 k_fill
 refine K44.walk (l:=PySem.Challenge.rw_grope_k44_least_by_table) rfl rfl (λw h Y=>PySem.W.kIn_of Y) ?F
 case F=>
  intro w mg fa h KX G hmg
  refine' K44.all_mk KX G hmg ?a1 ?l1 ?c1 ?k1 ?a2 ?l2 ?c2 ?k2 ?a3 ?l3 ?c3 ?k3 ?a4 ?l4 ?c4 ?k4 ?a5 ?l5 ?c5 ?k5 ?a6 ?l6 ?c6 ?k6 ?a7 ?l7 ?c7 ?k7 ?a8 ?l8 ?c8 ?k8 ?a9 ?l9 ?c9 ?k9 ?a10 ?l10 ?c10 ?k10 ?a11 ?l11 ?c11 ?k11 ?a12 ?l12 ?c12 ?k12 ?a13 ?l13 ?c13 ?k13 ?a14 ?l14 ?c14 ?k14 ?a15 ?l15 ?c15 ?k15 ?a16 ?l16 ?c16 ?k16 ?a17 ?l17 ?c17 ?k17 ?a18 ?l18 ?c18 ?k18 ?a19 ?l19 ?c19 ?k19 ?a20 ?l20 ?c20 ?k20 ?a21 ?l21 ?c21 ?k21 ?a22 ?l22 ?c22 ?k22 ?a23 ?l23 ?c23 ?k23 ?a24 ?l24 ?c24 ?k24 ?a25 ?l25 ?c25 ?k25 ?a26 ?l26 ?c26 ?k26 ?a27 ?l27 ?c27 ?k27 ?a28 ?l28 ?c28 ?k28 ?a29 ?l29 ?c29 ?k29 ?a30 ?l30 ?c30 ?k30 ?a31 ?l31 ?c31 ?k31 ?a32 ?l32 ?c32 ?k32 ?a33 ?l33 ?c33 ?k33 ?a34 ?l34 ?c34 ?k34 ?a35 ?l35 ?c35 ?k35 ?a36 ?l36 ?c36 ?k36 ?a37 ?l37 ?c37 ?k37 ?a38 ?l38 ?c38 ?k38 ?a39 ?l39 ?c39 ?k39 ?a40 ?l40 ?c40 ?k40 ?a41 ?l41 ?c41 ?k41 ?a42 ?l42 ?c42 ?k42 ?a43 ?l43 ?c43 ?k43 ?a44 ?l44 ?c44 ?k44 ?a45 ?l45 ?c45 ?k45 ?a46 ?l46 ?c46 ?k46 ?a47 ?l47 ?c47 ?k47 ?a48 ?l48 ?c48 ?k48 ?a49 ?l49 ?c49 ?k49 ?a50 ?l50 ?c50 ?k50 ?a51 ?l51 ?c51 ?k51 ?a52 ?l52 ?c52 ?k52 ?a53 ?l53 ?c53 ?k53 ?a54 ?l54 ?c54 ?k54 ?a55 ?l55 ?c55 ?k55 ?a56 ?l56 ?c56 ?k56 ?aC ?pgC ?hdC ?poC ?saC ?mkC ?kcC ?nC_1 ?nC_2 ?nC_3 ?nC_4 ?nC_5 ?nC_6 ?aCE ?pgCE ?hdCE ?poCE ?saCE ?mkCE ?kcCE ?nCE_1 ?nCE_2 ?nCE_3 ?aCN ?xCN_1 ?xCN_2 ?xCN_3 ?xCN_4 ?xCN_5 ?xCN_6 ?xCN_7 ?xCN_8 ?xCN_9 ?xCN_10 ?xCN_11 ?xCN_12 ?xCN_13 ?xCN_14 ?xCN_15 ?a57 ?i57 ?l57 ?c57 ?k57 ?a58 ?i58 ?l58 ?c58 ?k58 ?a59 ?i59 ?l59 ?c59 ?k59 ?a60 ?i60 ?l60 ?c60 ?k60 ?a61 ?i61 ?l61 ?c61 ?k61 ?a62 ?i62 ?l62 ?c62 ?k62 ?a63 ?i63 ?l63 ?c63 ?k63 ?a64 ?i64 ?l64 ?c64 ?k64 ?a65 ?i65 ?l65 ?c65 ?k65 ?a66 ?i66 ?l66 ?c66 ?k66 ?a67 ?i67 ?l67 ?c67 ?k67 ?a68 ?i68 ?l68 ?c68 ?k68 ?a69 ?i69 ?l69 ?c69 ?k69 ?a70 ?i70 ?l70 ?c70 ?k70 ?a71 ?i71 ?l71 ?c71 ?k71 ?aG ?aE ?oG ?oE ?sE ?gW ?vW ?gS ?vS ?gN ?vN ?gR ?vR ?gMS ?vMS ?lTD ?z1 ?z2 ?z3 ?z4 ?z5 ?z6 ?z7 ?z8 ?z9 ?z10 ?z11 ?z12 ?z13 ?z14 ?z15 ?z16 ?z17 ?z18
  all_goals (try unfold K44.nA)
  all_goals (try unfold K44.lK)
  case a1|l1|c1|k1|a2|l2|c2|k2|a3|l3|c3|k3|a4|l4|c4|k4|a5|l5|c5|k5|a6|l6|c6|k6|a7|l7|c7|k7|a8|l8|c8|k8|a9|l9|c9|k9|a10|l10|c10|k10|a11|l11|c11|k11|a12|l12|c12|k12|a13|l13|c13|k13|a14|l14|c14|k14|a15|l15|c15|k15|a16|l16|c16|k16|a17|l17|c17|k17|a18|l18|c18|k18|a19|l19|c19|k19|a20|l20|c20|k20|a21|l21|c21|k21|a22|l22|c22|k22|a23|l23|c23|k23|a24|l24|c24|k24|a25|l25|c25|k25|a26|l26|c26|k26|a27|l27|c27|k27|a28|l28|c28|k28|a29|l29|c29|k29|a30|l30|c30|k30|a31|l31|c31|k31|a32|l32|c32|k32|a33|l33|c33|k33|a34|l34|c34|k34|a35|l35|c35|k35|a36|l36|c36|k36|a37|l37|c37|k37|a38|l38|c38|k38|a39|l39|c39|k39|a40|l40|c40|k40|a41|l41|c41|k41|a42|l42|c42|k42|a43|l43|c43|k43|a44|l44|c44|k44|a45|l45|c45|k45|a46|l46|c46|k46|a47|l47|c47|k47|a48|l48|c48|k48|a49|l49|c49|k49|a50|l50|c50|k50|a51|l51|c51|k51|a52|l52|c52|k52|a53|l53|c53|k53|a54|l54|c54|k54|a55|l55|c55|k55|a56|l56|c56|k56|aC|pgC|hdC|poC|saC|mkC|kcC|nC_1|nC_2|nC_3|nC_4|nC_5|nC_6|aCE|pgCE|hdCE|poCE|saCE|mkCE|kcCE|nCE_1|nCE_2|nCE_3|aCN|a57|i57|l57|c57|k57|a58|i58|l58|c58|k58|a59|i59|l59|c59|k59|a60|i60|l60|c60|k60|a61|i61|l61|c61|k61|a62|i62|l62|c62|k62|a63|i63|l63|c63|k63|a64|i64|l64|c64|k64|a65|i65|l65|c65|k65|a66|i66|l66|c66|k66|a67|i67|l67|c67|k67|a68|i68|l68|c68|k68|a69|i69|l69|c69|k69|a70|i70|l70|c70|k70|a71|i71|l71|c71|k71|aG|aE=>k_is
  (case oG=>k_exc)
  (case oE=>k_exc)
  (case sE=>first | rfl | (with_unfolding_all rfl) | exact Eq.refl true)
  case gW=>k_is
  (case vW=>first | rfl | decide +kernel | k_is)
  case gS=>k_is
  (case vS=>first | rfl | decide +kernel | k_is)
  case gN=>k_is
  (case vN=>first | rfl | decide +kernel | k_is)
  case gR=>k_is
  (case vR=>first | rfl | decide +kernel | k_is)
  case gMS=>k_is
  (case vMS=>first | rfl | decide +kernel | k_is)
  case lTD|z1|z2|z3|z4|z5|z6|z7|z8|z9|z10|z11|z12|z13|z14|z15|z16|z17|z18=>k_is
  case xCN_1|xCN_2|xCN_3|xCN_4|xCN_5|xCN_6|xCN_7|xCN_8|xCN_9|xCN_10|xCN_11|xCN_12|xCN_13|xCN_14|xCN_15=>first | k_is | k_exc | rfl | (with_unfolding_all rfl) | decide +kernel
#print axioms PySem.Challenge.cw_grope_k44_least_by_table_holds
