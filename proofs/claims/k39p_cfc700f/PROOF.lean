import PyProof.Rows.All
import Wide.All
import OpenK.AllK
import Wide.FinOn
import Lean
import PyProof.EqAt
import PyProof.EqKinds
import PyProof.TupleCall
import PySem.Challenge.RW_grope_k39_walked
set_option Elab.async false
set_option linter.all false
set_option maxRecDepth 100000
set_option maxHeartbeats 4000000
open Nat (lt_of_lt_of_le lt_irrefl ne_of_lt le_trans le_of_lt ne_of_gt zero_le le_of_eq lt_succ_self le_succ lt_trans le_of_not_lt lt_of_le_of_lt lt_succ_of_lt lt_or_ge mod_lt testBit_or testBit_two_pow zero_testBit eq_of_testBit_eq testBit_and testBit_lt_two_pow two_pow_pos pow_le_pow_right lt_pow_two_of_testBit pow_lt_pow_right add_le_add_right le_succ_of_le)
open List (mem_filter mem_range filterMap_cons mem_cons_self mem_cons_of_mem mem_cons mem_append mem_append_left getElem_inj mem_filterMap mem_append_right size_toArray any_eq_false length_cons map_cons length_map append_nil nodup_cons of_mem_zip replicate length_take getElem?_append_right getElem?_replicate getElem?_append_left getElem?_map getElem?_take_of_lt take_sublist mem_of_getElem? length_append length_replicate length_singleton find?_cons any_cons length_nil map_nil nodup_nil mem_map any_eq_true mem_singleton lookup_cons not_mem_nil all_eq_true getElem_mem getElem?_toArray pairwise_iff_getElem pairwise_lt_range length_eq_zero_iff getElem?_eq_getElem append_assoc ext_getElem length_range map_map take_succ_eq_append_getElem take_length getElem?_eq_none foldl_cons getD_eq_getElem?_getD not_lt getElem?_of_mem pairwise_map map_append perm_ext_iff_of_nodup take_zero map_take nodup_append range_succ filter_append filter_congr filter_eq_nil_iff map_congr_left mem_of_mem_take length_filter_le take_of_length_le length_drop take_succ pairwise_cons)
open Option (isSome_iff_exists map_some isSome_map map_eq_some_iff isSome)
open Bool (false_eq_true and_eq_true not_eq_true')
open Int (toNat_natCast one_mul emod_nonneg emod_lt_of_pos toNat_of_nonneg ofNat)
noncomputable section
namespace L2
open PySem PySem.Spec PyProof.Rows
abbrev Key:=Sum Int Str
def Ze4:Key->Value->Bool
 | .inl k,v=>Value.isInt k v
 | .inr x,v=>Value.isStrOf x v
def keyH (w:World):Key->Int
 | .inl k=>hashInt k
 | .inr x=>hashStr w x
theorem Za1:∀{k:Key}{v:Value},Ze4 k v=true->(∃i t,k=Sum.inl i/\v=Value.int i t)\/(∃x t,k=Sum.inr x/\v=Value.str x t)
 | .inl i,v,h=>by
  obtain⟨t,e⟩:=Value.isInt_shape (k:=i) (v:=v) h
  exact .inl ⟨i,t,rfl,e⟩
 | .inr x,v,h=>by
  obtain⟨t,e⟩:=Value.isStrOf_shape (x:=x) (v:=v) h
  exact .inr ⟨x,t,rfl,e⟩
theorem keyIs_int (i:Int)(t:Tok):Ze4 (.inl i) (.int i t)=true:=by simp[Ze4,Value.isInt]
theorem keyIs_str (x:Str)(t:Tok):Ze4 (.inr x) (.str x t)=true:=by simp[Ze4,Value.isStrOf]
theorem key_ll (a b:Int):decide ((Sum.inl a:Key)=Sum.inl b)=(a == b):=by
 by_cases e:a=b
 ·subst e;simp
 have h:¬(Sum.inl a:Key)=Sum.inl b:=λq=>e (Sum.inl.inj q)
 rw[decide_eq_false h]
 exact(beq_eq_false_iff_ne.mpr e).symm
theorem key_rr (a b:Str):decide ((Sum.inr a:Key)=Sum.inr b)=decide (a=b):=by
 by_cases e:a=b
 ·subst e;simp
 have h:¬(Sum.inr a:Key)=Sum.inr b:=λq=>e (Sum.inr.inj q)
 rw[decide_eq_false h,decide_eq_false e]
theorem key_lr (a:Int)(b:Str):decide ((Sum.inl a:Key)=Sum.inr b)=false:=decide_eq_false (λq=>nomatch q)
theorem key_rl (a:Str)(b:Int):decide ((Sum.inr a:Key)=Sum.inl b)=false:=decide_eq_false (λq=>nomatch q)
def Za0 (prog:Program)(w:World):PySem.KeyKind prog w Key where
 is:=Ze4
 hash:=keyH w
 inj:=λv a b ha hb=>by
  rcases Za1 ha with⟨i,t,rfl,rfl⟩ | ⟨x,t,rfl,rfl⟩
  ·rcases Za1 hb with⟨j,u,rfl,e⟩ | ⟨y,u,rfl,e⟩
   ·injection e with e1 _;rw[e1]
   exact nomatch e
  rcases Za1 hb with⟨j,u,rfl,e⟩ | ⟨y,u,rfl,e⟩
  ·exact nomatch e
  injection e with e1 _;rw[e1]
 byValue:=λk v h=>by
  rcases Za1 h with⟨i,t,rfl,rfl⟩ | ⟨x,t,rfl,rfl⟩ <;> rfl
 pyHash:=λhv h=>by
  rcases Za1 hv with⟨i,t,rfl,rfl⟩ | ⟨x,t,rfl,rfl⟩
  ·exact wpAny_pyHash_int h
  exact wpAny_pyHash_str h
 eqBool:=λhu hv h=>by
  rcases Za1 hu with⟨i,t,rfl,rfl⟩ | ⟨x,t,rfl,rfl⟩
  ·rcases Za1 hv with⟨j,u,rfl,rfl⟩ | ⟨y,u,rfl,rfl⟩
   ·rw[key_ll]at h;exact wpAny_eqBool_int h
   rw[key_lr]at h;exact SeqAt.EqAt.int_str i t y u _ _ _ _ h
  rcases Za1 hv with⟨j,u,rfl,rfl⟩ | ⟨y,u,rfl,rfl⟩
  ·rw[key_rl]at h;exact SeqAt.EqAt.str_int x t j u _ _ _ _ h
  rw[key_rr]at h;exact wpAny_eqBool_str h
 «strs»:=λk x t v h=>by
  rcases Za1 h with⟨i,u,rfl,e⟩ | ⟨y,u,rfl,e⟩
  ·exact nomatch e
  injection e with e1 _
  subst e1
  cases v <;> rfl
theorem mixKind_int (prog:Program)(w:World)(i:Int)(t:Tok):(Za0 prog w).is (.inl i) (.int i t)=true:=keyIs_int i t
theorem mixKind_str (prog:Program)(w:World)(x:Str)(t:Tok):(Za0 prog w).is (.inr x) (.str x t)=true:=keyIs_str x t
inductive V where
 | non | bl (b:Bool) | int (i:Int) | str (x:Str) | byt (b:Array UInt8) | flt (b:UInt64) | ref (a:Addr) | ty (n:String)
 deriving DecidableEq
def RelV:V->Value->Prop
 | .non,u=>u=Value.none
 | .bl b,u=>u=Value.bool b
 | .int i,u=>∃t,u=Value.int i t
 | .str x,u=>∃t,u=Value.str x t
 | .byt b,u=>∃t,u=Value.bytes b t
 | .flt b,u=>∃t,u=Value.float b t
 | .ref a,u=>u=Value.ref a
 | .ty n,u=>u=Value.type n
abbrev Vals:List V->List Value->Prop:=Paired RelV
theorem Vals.length {xs:List V}{us:List Value}(r:Vals xs us):xs.length=us.length:=Paired.length r
theorem Vals.get:∀{xs:List V}{us:List Value}{i:Nat}{x:V},Vals xs us->xs[i]? = some x->∃u,us[i]? = some u/\RelV x u
 | _,_,_,_,.nil,e=>by simp at e
 | _,_,0,_,.cons r _,e=>by simp at e;subst e;exact⟨_,rfl,r⟩
 | _,_,i+1,x,.cons _ t,e=>by
  obtain⟨u,h1,h2⟩:=Vals.get (i:=i) (x:=x) t (by simpa using e)
  exact⟨u,by simpa using h1,h2⟩
theorem Vals.append:∀{xs ys:List V}{us ws:List Value},Vals xs us->Vals ys ws->Vals (xs++ys) (us++ws)
 | _,_,_,_,.nil,s=>s
 | _,_,_,_,.cons r t,s=>.cons r (Vals.append t s)
def RelO:Option V->Option Value->Prop
 | some v,some u=>RelV v u
 | none,none=>True
 | _,_=>False
def KV {κ:Type}:List (κ×V)->List (κ×Value)->Prop:=Paired λ(p:κ×V) (q:κ×Value)=>p.1=q.1/\RelV p.2 q.2
def kV:Key->V
 | .inl i=>.int i
 | .inr x=>.str x
inductive HO where
 /-- a list -/
 | lst (xs:List V)
 /-- a tuple (never changes) -/
 | tup (xs:List V)
 /-- a dict whose keys are ints and texts;one whose keys are tuples of ints and texts (the empty one is both) -/
 | dK (kvs:List (Key×V)) | dT (kvs:List (List Key×V))
 /-- a set of ints: its members,its size -/
 | set (S:Int->Bool) (n:Nat)
 /-- an instance of the class at C,its dict at dx,its attributes -/
 | ins (C dx:Addr) (fs:List (Str×V))
 /-- the dict of the instance at x -/
 | own (x:Addr)
 /-- the dict of an exception -/
 | xd (fs:List (Str×V))
 /-- a bound method,f of x -/
 | met (f x:Addr)
 /-- a range object lo,lo+1,.. below hi -/
 | rng (lo hi:Int)
 /-- a thing that is known to the object (the script;a dict while a loop walks it): read,never written while it is so -/
 | frz (o:Obj) (u:HO)
 /-- a code object's table -/
 | tbl (ps:Array Value)
 /-- any other thing,by what is true of its one object (a def of one's own: SetO a S n:=HO.ext λh=>..) -/
 | ext (φ:Heap->Prop)
abbrev Hp:=Addr->Option HO
def upd (H:Hp)(a:Addr)(o:HO):Hp:=λb=>if b=a then some o else H b
theorem Zad {H:Hp}{a:Addr}{o:HO}:upd H a o a=some o:=by unfold upd;rw[if_pos rfl]
theorem Zaj {H:Hp}{a b:Addr}{o:HO}(h:b≠a):upd H a o b=H b:=by unfold upd;rw[if_neg h]
theorem Zbg {H:Hp}{a b:Addr}{o u:HO}(h:H a=some o)(h':H b=some u)(d:o≠u):a≠b:=by
 intro e;subst e;rw[h]at h';exact d (Option.some.inj h')
theorem Zah {H:Hp}{a b:Addr}{o:HO}(h:H a=some o)(h':H b=none):a≠b:=by
 intro e;subst e;rw[h]at h';cases h'
section
variable (P:Program) (w:World)
def ObjOk (H:Hp)(h:Heap)(a:Addr):HO->Prop
 | .lst xs=>xs.length<=sizeLine/\∃(its:List Value) (n:Nat),Vals xs its/\h.get? a=some { cls:=.type "list",data:=.seq its.toArray n }
 | .tup xs=>xs.length<=sizeLine/\∃its:List Value,Vals xs its/\IsTup h a its.toArray
 | .dK kvs=>kvs.length<=sizeLine/\(a == sysModules)=false/\∃vs,KV kvs vs/\h.DictOf (Za0 P w) a vs
 | .dT kvs=>kvs.length<=sizeLine/\(a == sysModules)=false/\∃xs:List (List Key×Addr×Value),
   Paired (λ(p:List Key×V) (q:List Key×Addr×Value)=>p.1=q.1/\H q.2.1=some (.tup (p.1.map kV))/\RelV p.2 q.2.2) kvs xs /\
   ∃o es ep,h.get? a=some o/\o.ExactDict/\o.data=.dict es ep/\es.toList=xs.map (entryOfKey (tupleKind (Za0 P w)))/\(xs.map (·.1)).Nodup
 | .set S n=>h.SetOf (intKind P w) a S n
 | .ins C dx fs=>H dx=some (.own a)/\fs.length<=1000/\dx≠a/\h.get? a=some (PySem.W.instObj C dx) /\
   ∃mA,h.Ns1 dx mA/\(∀f,RelO (fs.lookup f) (mA f))/\PySem.Within mA (fs.map (·.1))
 | .own _=>∃o,h.get? a=some o
 | .xd fs=>∃mA,h.Ns1 a mA/\∀f,RelO (fs.lookup f) (mA f)
 | .rng lo hi=>∃t u v,h.get? a=some { cls:=.type "range",data:=.fields #[.int lo t,.int hi u,.int 1 v] }
 | .frz o u=>h.get? a=some o/\ObjOk H h a u
 | .tbl ps=>h.get? a=some { cls:=.none,data:=.fields ps }
 | .met f x=>h.get? a=some (PySem.W.methodObj (.ref f) (.ref x))
 | .ext φ=>φ h/\(∃o,h.get? a=some o)/\∀h1 h2:Heap,φ h1->(∀o,h1.get? a=some o->h2.get? a=some o)->φ h2
def HOk (H:Hp)(h:Heap):Prop:=∀a o,H a=some o->ObjOk P w H h a o
end
section
variable {P:Program}{w:World}{H H':Hp}{h h':Heap}{a:Addr}{o:HO}
theorem ObjOk.lt (x:ObjOk P w H h a o):a<h.objs.size:=by
 cases o with
 | lst xs=>obtain⟨_,_,_,_,e⟩:=x;exact Heap.lt_size e
 | tup xs=>obtain⟨_,_,_,p⟩:=x;exact p.lt
 | dK kvs=>obtain⟨_,_,_,_,o,_,_,e,_⟩:=x;exact Heap.lt_size e
 | dT kvs=>obtain⟨_,_,_,_,o,_,_,e,_⟩:=x;exact Heap.lt_size e
 | set S n=>obtain⟨o,_,_,_,e,_⟩:=x;exact Heap.lt_size e
 | ins C dx fs=>obtain⟨_,_,_,e,_⟩:=x;exact Heap.lt_size e
 | own y=>obtain⟨_,e⟩:=x;exact Heap.lt_size e
 | xd fs=>obtain⟨_,⟨_,_,_,e,_⟩,_⟩:=x;exact Heap.lt_size e
 | rng lo hi=>obtain⟨_,_,_,e⟩:=x;exact Heap.lt_size e
 | frz ob u=>obtain⟨e,_⟩:=x;exact Heap.lt_size e
 | tbl ps=>exact Heap.lt_size (show h.get? a=some _ from x)
 | met f y=>exact Heap.lt_size (show h.get? a=some _ from x)
 | ext φ=>obtain⟨_,⟨_,e⟩,_⟩:=x;exact Heap.lt_size e
theorem Paired.mapP {α β:Type}{F G:α->β->Prop}:∀{l₁:List α}{l₂:List β},Paired F l₁ l₂->(∀a b,F a b->G a b)->Paired G l₁ l₂
 | _,_,.nil,_=>.nil
 | _,_,.cons r t,f=>.cons (f _ _ r) (Paired.mapP t f)
theorem ObjOk.stay (x:ObjOk P w H h a o)(k:∀b u,(b=a\/H b=some (.own a))->h.get? b=some u->h'.get? b=some u)
  (ho:∀b,H b=some (.own a)->H' b=some (.own a))(ht:∀b xs,H b=some (.tup xs)->H' b=some (.tup xs)):ObjOk P w H' h' a o:=by
 induction o with
 | lst xs=>obtain⟨z,its,n,r,e⟩:=x;exact⟨z,its,n,r,k _ _ (.inl rfl) e⟩
 | tup xs=>obtain⟨z,its,r,ob,e,c⟩:=x;exact⟨z,its,r,ob,k _ _ (.inl rfl) e,c⟩
 | dK kvs=>obtain⟨z,y,vs,r,ob,es,ep,e,c⟩:=x;exact⟨z,y,vs,r,ob,es,ep,k _ _ (.inl rfl) e,c⟩
 | dT kvs=>
  obtain⟨z,y,xs,r,ob,es,ep,e,c⟩:=x
  exact⟨z,y,xs,Paired.mapP r λp q z=>⟨z.1,ht _ _ z.2.1,z.2.2⟩,ob,es,ep,k _ _ (.inl rfl) e,c⟩
 | set S n=>obtain⟨ob,es,ep,t,e,c⟩:=x;exact⟨ob,es,ep,t,k _ _ (.inl rfl) e,c⟩
 | ins C dx fs=>
  obtain⟨d,z,ne,e,mA,⟨od,es,ep,e2,c⟩,r⟩:=x
  exact⟨ho _ d,z,ne,k _ _ (.inl rfl) e,mA,⟨od,es,ep,k _ _ (.inr d) e2,c⟩,r⟩
 | own y=>obtain⟨ob,e⟩:=x;exact⟨ob,k _ _ (.inl rfl) e⟩
 | xd fs=>obtain⟨mA,⟨od,es,ep,e,c⟩,r⟩:=x;exact⟨mA,⟨od,es,ep,k _ _ (.inl rfl) e,c⟩,r⟩
 | rng lo hi=>obtain⟨t,u,v,e⟩:=x;exact⟨t,u,v,k _ _ (.inl rfl) e⟩
 | frz ob u ih=>obtain⟨e,q⟩:=x;exact⟨k _ _ (.inl rfl) e,ih q⟩
 | tbl ps=>
  have e:h.get? a=some { cls:=.none,data:=.fields ps }:=x
  show h'.get? a=some { cls:=.none,data:=.fields ps }
  exact k a _ (.inl rfl) e
 | met f y=>
  have e:h.get? a=some (PySem.W.methodObj (.ref f) (.ref y)):=x
  show h'.get? a=some (PySem.W.methodObj (.ref f) (.ref y))
  exact k a _ (.inl rfl) e
 | ext φ=>obtain⟨p,⟨o,e⟩,st⟩:=x;exact⟨st _ _ p λo q=>k _ _ (.inl rfl) q,⟨o,k _ _ (.inl rfl) e⟩,st⟩
theorem HOk.lt (x:HOk P w H h)(e:H a=some o):a<h.objs.size:=(x a o e).lt
theorem HOk.fresh (x:HOk P w H h)(e:h.objs.size<=a):H a=none:=by
 cases q:H a with
 | none=>rfl
 | some u=>exact absurd (lt_of_lt_of_le (x.lt q) e) (lt_irrefl _)
theorem HOk.kept (x:HOk P w H h)(k:∀b u,h.get? b=some u->h'.get? b=some u):HOk P w H h':=λa o e=>
 (x a o e).stay (λb u _ q=>k b u q) (λ_ q=>q) λ_ _ q=>q
theorem HOk.laid (x:HOk P w H h)(k:∀b u,h.get? b=some u->h'.get? b=some u)(hp:h.objs.size<=a)(new:ObjOk P w (upd H a o) h' a o):HOk P w (upd H a o) h':=λb u e=>by
 have hn:=x.fresh hp
 by_cases hb:b=a
 ·subst hb;rw[Zad]at e;cases e;exact new
 rw[Zaj hb]at e
 exact(x b u e).stay (λc v _ q=>k c v q) (λc q=>by rw[Zaj (Zah q hn)];exact q) λc xs q=>by rw[Zaj (Zah q hn)];exact q
end
def Rd (H:Hp)(a:Addr)(u:HO):Prop:=H a=some u\/∃o,H a=some (.frz o u)
theorem Rd.ok {P:Program}{w:World}{H:Hp}{h:Heap}{a:Addr}{u:HO}(r:Rd H a u)(x:HOk P w H h):ObjOk P w H h a u:=by
 rcases r with r | ⟨o,r⟩
 ·exact x a u r
 obtain⟨_,q⟩:=x a _ r
 exact q
def Mut:Option HO->Prop
 | some (.lst _)=>True
 | some (.dK _)=>True
 | some (.dT _)=>True
 | some (.set _ _)=>True
 | some (.ins _ _ _)=>True
 | some (.ext _)=>True
 | _=>False
section
variable {P:Program}{w:World}{H:Hp}{h h':Heap}{x e:Addr}{o':HO}
theorem HOk.write (ok:HOk P w H h)(mu:Mut (H x))(he:e=x\/H e=some (.own x))(k:∀b u,b≠e->h.get? b=some u->h'.get? b=some u)(heo:∃u,h'.get? e=some u)
  (new:ObjOk P w (upd H x o') h' x o'):HOk P w (upd H x o') h':=λb u q=>by
 have nown:∀c y,H c=some (.own y)->c≠x:=λc y r z=>by subst z;rw[r]at mu;exact mu
 have ntup:∀c xs,H c=some (.tup xs)->c≠x:=λc xs r z=>by subst z;rw[r]at mu;exact mu
 by_cases hb:b=x
 ·subst hb;rw[Zad]at q;cases q;exact new
 rw[Zaj hb]at q
 by_cases hbe:b=e
 ·have q':H b=some (.own x):=by
   rcases he with z | z
   ·exact absurd (hbe.trans z) hb
   rw[hbe];exact z
  rw[q]at q';cases q'
  obtain⟨v,hv⟩:=heo
  exact⟨v,by rw[hbe];exact hv⟩
 refine(ok b u q).stay (λc v hc r=>k c v ?_ r) (λc r=>by rw[Zaj (nown c b r)];exact r) λc xs r=>by rw[Zaj (ntup c xs r)];exact r
 rcases hc with rfl | hc
 ·exact hbe
 rintro rfl
 rcases he with z | z
 ·exact nown c b hc z
 rw[hc]at z;cases z;exact hb rfl
end
structure Un (fs ex:List Addr)(H H':Hp)(h h':Heap):Prop where
 keep:∀b o,h.get? b=some o->H b=none->b∉fs->b∉ex->h'.get? b=some o
 slot:∀b o,h.get? b=some o->H b=none->b∈fs->b∉ex->∃sl,h'.get? b=some { o with slots:=sl }
 free:∀b o,h.get? b=some o->H b=none->b∉ex->H' b=none
 there:∀b o,h.get? b=some o->b∉ex->∃o',h'.get? b=some o'
 tups:∀b xs,H b=some (.tup xs)->H' b=some (.tup xs)
 frzs:∀b o u,H b=some (.frz o u)->H' b=some (.frz o u)
 tbls:∀b ps,H b=some (.tbl ps)->∃more,H' b=some (.tbl (ps++more))
section
variable {fs fs' ex ex':List Addr}{H H1 H2:Hp}{h h1 h2 h':Heap}{a x e:Addr}{o:HO}
theorem Un.any (u:Un fs ex H H1 h h1){b:Addr}{ob:Obj}(q:h.get? b=some ob)(n:H b=none)(hx:b∉ex):∃sl,h1.get? b=some { ob with slots:=sl }:=by
 by_cases hb:b∈fs
 ·exact u.slot b ob q n hb hx
 exact⟨ob.slots,u.keep b ob q n hb hx⟩
theorem Un.kept (k:∀b u,h.get? b=some u->h'.get? b=some u):Un fs ex H H h h':=
 ⟨λb ob q _ _ _=>k b ob q,λb ob q _ _ _=>⟨ob.slots,k b ob q⟩,λ_ _ _ n _=>n,λb ob q _=>⟨ob,k b ob q⟩,λ_ _ q=>q,λ_ _ _ q=>q,λ_ ps q=>⟨#[],by rw[q];simp⟩⟩
theorem Un.refl:Un fs ex H H h h:=Un.kept λ_ _ q=>q
theorem Un.laid (k:∀b u,h.get? b=some u->h'.get? b=some u)(hp:h.objs.size<=a)(hn:H a=none):Un fs ex H (upd H a o) h h' where
 keep:=λb u q _ _ _=>k b u q
 slot:=λb u q _ _ _=>⟨u.slots,k b u q⟩
 free:=λb u q n _=>by rw[Zaj (ne_of_lt (lt_of_lt_of_le (Heap.lt_size q) hp))];exact n
 there:=λb u q _=>⟨u,k b u q⟩
 tups:=λb xs q=>by rw[Zaj (Zah q hn)];exact q
 frzs:=λb u xs q=>by rw[Zaj (Zah q hn)];exact q
 tbls:=λb ps q=>⟨#[],by rw[Zaj (Zah q hn),q];simp⟩
theorem Un.write (mu:Mut (H x))(he:e=x\/H e=some (.own x))(k:∀b u,b≠e->h.get? b=some u->h'.get? b=some u)(heo:∃u,h'.get? e=some u):Un fs ex H (upd H x o) h h':=by
 have hx:∀b,H b=none->b≠x:=λb n z=>by subst z;rw[n]at mu;exact mu
 have hb:∀b,H b=none->b≠e:=λb n z=>by
  subst z
  rcases he with r | r
  ·exact hx b n r
  rw[n]at r;cases r
 have hm:∀b u,H b=some u->¬Mut (some u)->b≠x:=λb u q nm z=>by subst z;rw[q]at mu;exact nm mu
 refine⟨λb u q n _ _=>k b u (hb b n) q,λb u q n _ _=>⟨u.slots,k b u (hb b n) q⟩,λb u q n _=>by rw[Zaj (hx b n)];exact n,λb u q _=>?_,
  λb xs q=>by rw[Zaj (hm b _ q λz=>z)];exact q,λb u xs q=>by rw[Zaj (hm b _ q λz=>z)];exact q,λb ps q=>⟨#[],by rw[Zaj (hm b _ q λz=>z),q];simp⟩⟩
 by_cases hbe:b=e
 ·subst hbe;exact heo
 exact⟨u,k b u hbe q⟩
end
def trk (h:Heap)(H:Hp):List Addr:=(List.range h.objs.size).filter λa=>(H a).isSome
def hidT (h:Heap)(H:Hp):Heap:=PySem.W.hideAll h (trk h H)
theorem hidT_size (h:Heap)(H:Hp):(hidT h H).objs.size=h.objs.size:=PySem.W.hideAll_size _ _
theorem hidT_get {h:Heap}{H:Hp}{b:Addr}{o:Obj}(e:h.get? b=some o)(n:H b=none):(hidT h H).get? b=some o:=
 PySem.W.hideAll_get _ e λhm=>by
  have q:(H b).isSome=true:=(mem_filter.mp hm).2
  rw[n]at q;simp at q
theorem of_hidT {h:Heap}{H:Hp}{b:Addr}{o:Obj}(e:(hidT h H).get? b=some o):h.get? b=some o/\H b=none:=by
 have e':h.get? b=some o:=PySem.W.of_hideAll (trk h H) e
 refine⟨e',?_⟩
 cases q:H b with
 | none=>rfl
 | some x=>
  have hm:b∈trk h H:=mem_filter.mpr ⟨mem_range.mpr (Heap.lt_size e'),by simp[q]⟩
  have z:(hidT h H).get? b=none:=PySem.W.hideAll_none (trk h H) hm
  rw[z]at e;cases e
structure Mod (K:W.Frag)(mg:Str->Option Value)(base:Heap):Prop where
 kin:K.In base
 glob:base.Ns mainGlobals mg
 blt:∃mb,base.Ns builtinsNs mb/\∀x:Str,x ≠ "__name__" -> mb x=bootBuiltins x
 nolimit:base.NoLimit
structure Cx where
 prog:Program
 w:World
 K:W.Frag
 mg:Str->Option Value
 base:Heap
 A:Around
 N:List Str
 s₀:Shared
 H₀:Hp
 env:Env
 outer:List Env
 stack:List Env
 ex:List Addr
 fn:Str->Bool
 calm:Bool
 pn:List (Addr×Obj)
 xe:Value->Shared->Prop
def frs (l:List Env):List Addr:=l.filterMap (·.frame)
abbrev Cx.fs (X:Cx):List Addr:=frs X.outer
def Vis (sc:Scope)(x:Str):Prop:=sc.names.lookup x=some .local\/sc.names.lookup x=some .cell\/sc.names.lookup x=some .free
def Loc (sc:Scope)(x:Str):Prop:=sc.names.lookup x=some .local\/sc.names.lookup x=some .cell
def Look (env:Env)(h:Heap)(m:Str->Option Value)(x:Str)(u:Value):Prop:=
 (env.kindOf x=some .local/\m x=some u)\/((env.kindOf x=some .cell\/env.kindOf x=some .free)/\∃c,env.cells.lookup x=some c/\h.IsCell c (some u))
structure Cx.Ok (X:Cx):Prop where
 mod:Mod X.K X.mg X.base
 kind:X.env.scope.kind=.function
 glob:X.env.globals=mainGlobals
 blt:X.env.builtins=builtinsNs
 above:X.s₀.heap.objs.size<=X.env.locals
 inj:∀x y c,X.env.cells.lookup x=some c->X.env.cells.lookup y=some c->x=y
 has:∀x,(X.env.kindOf x=some .cell\/X.env.kindOf x=some .free)->∃c,X.env.cells.lookup x=some c
 cab:∀x c,X.fn x=true->X.env.cells.lookup x=some c->X.s₀.heap.objs.size<=c
 hd:X.calm=true->X.A.handled=none
 frames:X.A.frames=some X.stack
 stk:X.stack=X.outer\/(X.stack=X.env::X.outer/\X.env.frame=some X.env.locals)
 exf:∀b∈X.ex,b≠X.env.locals/\∀x c,X.env.cells.lookup x=some c->c≠b
 bs:∀b o,X.base.get? b=some o->X.s₀.heap.get? b=some o/\X.H₀ b=none
 bsz:X.base.objs.size<=X.s₀.heap.objs.size
 noex:∀b o,X.base.get? b=some o->b∉X.ex
 exfs:∀b∈X.ex,b∉X.fs
 funs:X.s₀.heap.FunFrames X.base X.outer
 frf:∀b∈X.fs,X.H₀ b=none
structure Inv (X:Cx)(pins:List (Addr×Obj))(σ:List (Option V))(H:Hp)(s:Shared):Prop where
 ok:X.Ok
 os:s.os=X.s₀.os
 bare:AllBare s.gens
 base:Un X.fs X.ex X.H₀ H X.s₀.heap s.heap
 loc:∃m,s.heap.Ns X.env.locals m/\∀(i:Nat) (x:Str) (v:V),X.N[i]? = some x->σ[i]? = some (some v)->Vis X.env.scope x->∃u,RelV v u/\Look X.env s.heap m x u
 cell:∀x c,X.env.cells.lookup x=some c->∃v,s.heap.IsCell c v
 free:H X.env.locals=none
 freeC:∀x c,X.env.cells.lookup x=some c->H c=none
 pin:∀p∈X.pn++pins,s.heap.get? p.1=some p.2/\H p.1=none/\p.1≠X.env.locals/\p.1∉X.fs/\∀v,p.2.data≠.cell v
 hok:HOk X.prog X.w H s.heap
 len:σ.length=X.N.length
section
variable {X:Cx}{pins:List (Addr×Obj)}{σ:List (Option V)}{H H':Hp}{s:Shared}{h':Heap}
theorem Cx.Ok.nofr (ok:X.Ok){b:Addr}{o:Obj}(e:X.base.get? b=some o):b∉X.fs:=λhb=>by
 have:=(ok.funs.mem hb).1
 rw[e]at this;cases this
theorem Inv.bs (I:Inv X pins σ H s):∀b o,X.base.get? b=some o->s.heap.get? b=some o/\H b=none:=λb o e=>
 ⟨I.base.keep b o (I.ok.bs b o e).1 (I.ok.bs b o e).2 (I.ok.nofr e) (I.ok.noex b o e),I.base.free b o (I.ok.bs b o e).1 (I.ok.bs b o e).2 (I.ok.noex b o e)⟩
theorem Inv.bk (I:Inv X pins σ H s):∀b o,X.base.get? b=some o->s.heap.get? b=some o:=λb o e=>(I.bs b o e).1
theorem Inv.mod (I:Inv X pins σ H s):Mod X.K X.mg X.base:=I.ok.mod
theorem Inv.kIn (I:Inv X pins σ H s):X.K.In s.heap:=I.ok.mod.kin.keeps I.bk
theorem Inv.lt (I:Inv X pins σ H s):X.env.locals<s.heap.objs.size:=let ⟨_,hn,_⟩:=I.loc;hn.lt
theorem Inv.sz (I:Inv X pins σ H s):X.s₀.heap.objs.size<=s.heap.objs.size:=le_trans I.ok.above (le_of_lt I.lt)
theorem Inv.nofs (I:Inv X pins σ H s){a:Addr}(h:s.heap.objs.size<=a):a∉X.fs:=λhb=>by
 obtain⟨_,o,ho,_⟩:=I.ok.funs.mem hb
 exact absurd (lt_of_lt_of_le (Heap.lt_size ho) (le_trans I.sz h)) (lt_irrefl _)
theorem Inv.cne (I:Inv X pins σ H s):∀x c,X.env.cells.lookup x=some c->c≠X.env.locals:=λx c e z=>by
 obtain⟨v,o,ho,hd⟩:=I.cell x c e
 obtain⟨m,⟨o',es,ep,ho',hd',_⟩,_⟩:=I.loc
 rw[z,ho']at ho;cases ho;rw[hd']at hd;cases hd
theorem Inv.funs (I:Inv X pins σ H s):s.heap.FunFrames X.base X.outer:=by
 have all:∀(l:List Env),(∀b∈frs l,b∈X.fs)->X.s₀.heap.FunFrames X.base l->s.heap.FunFrames X.base l:=by
  intro l
  induction l with
  | nil=>intro _ _;trivial
  | cons env r ih=>
   intro hs hl
   obtain⟨hk,⟨L,o,hf,hn,ho,hd⟩,hr⟩:=hl
   have hL:L∈X.fs:=hs L (by unfold frs;rw[filterMap_cons,hf];exact mem_cons_self)
   obtain⟨sl,e⟩:=I.base.slot L o ho (I.ok.frf L hL) hL λz=>I.ok.exfs L z hL
   exact⟨hk,⟨L,_,hf,hn,e,hd⟩,ih (λb hb=>hs b (by unfold frs;rw[filterMap_cons,hf];exact mem_cons_of_mem _ hb)) hr⟩
 exact all X.outer (λ_ hb=>hb) I.ok.funs
theorem Inv.stack (I:Inv X pins σ H s):s.heap.FunFrames X.base X.stack:=by
 rcases I.ok.stk with e | ⟨e,hf⟩
 ·rw[e];exact I.funs
 rw[e]
 obtain⟨m,hn,_⟩:=I.loc
 refine .cons (by rw[I.ok.kind];decide) hf hn ?_ I.funs
 exact Heap.get?_none_of_le (le_trans I.ok.bsz I.ok.above)
theorem Inv.stkSub (I:Inv X pins σ H s):∀b∈frs X.stack,b∈X.env.locals::X.fs:=λb hb=>by
 rcases I.ok.stk with e | ⟨e,hf⟩
 ·rw[e]at hb;exact mem_cons_of_mem _ hb
 rw[e]at hb
 unfold frs at hb
 rw[filterMap_cons,hf]at hb
 exact hb
theorem Inv.stkFree (I:Inv X pins σ H s):∀b∈frs X.stack,H b=none:=λb hb=>by
 rcases mem_cons.mp (I.stkSub b hb)with e | hb
 ·rw[e];exact I.free
 obtain⟨_,o,ho,_⟩:=I.ok.funs.mem hb
 exact I.base.free b o ho (I.ok.frf b hb) λz=>I.ok.exfs b z hb
theorem Inv.step {g':Array GenState}{t':Nat}{d':Drawn}{ch:List Addr}(I:Inv X pins σ H s)
  (hch:∀b∈ch,(b∈X.ex\/X.s₀.heap.objs.size<=b)/\b≠X.env.locals/\(∀x c,X.env.cells.lookup x=some c->c≠b)/\∀p∈X.pn++pins,p.1≠b)
  (keep:∀b o,b≠X.env.locals->b∉X.fs->b∉ch->s.heap.get? b=some o->H b=none->h'.get? b=some o)
  (slot:∀b o,b≠X.env.locals->b∈X.fs->b∉ch->s.heap.get? b=some o->H b=none->∃sl,h'.get? b=some { o with slots:=sl })(free:∀b o,b∉ch->s.heap.get? b=some o->H b=none->H' b=none)
  (there:∀b o,b∉ch->s.heap.get? b=some o->∃o',h'.get? b=some o')
  (tups:∀b xs,H b=some (.tup xs)->H' b=some (.tup xs))(frzs:∀b o u,H b=some (.frz o u)->H' b=some (.frz o u))(tbls:∀b ps,H b=some (.tbl ps)->∃more,H' b=some (.tbl (ps++more)))
  (ns:∀m,s.heap.Ns X.env.locals m->h'.Ns X.env.locals m)(hok:HOk X.prog X.w H' h')(hg:AllBare g') :
  Inv X pins σ H' { s with heap:=h',gens:=g',drawn:=d',toks:=t' }:=by
 have neL:∀b o,X.s₀.heap.get? b=some o->b≠X.env.locals:=λb o e=>ne_of_lt (lt_of_lt_of_le (Heap.lt_size e) I.ok.above)
 have neC:∀b o,X.s₀.heap.get? b=some o->b∉X.ex->b∉ch:=λb o e hx hb=>by
  rcases(hch b hb).1 with z | z
  ·exact hx z
  exact absurd (lt_of_lt_of_le (Heap.lt_size e) z) (lt_irrefl _)
 have cellK:∀x c,X.env.cells.lookup x=some c->∀v,s.heap.IsCell c v->h'.IsCell c v:=λx c e v ⟨o,ho,hd⟩=>by
  have nch:c∉ch:=λz=>(hch c z).2.2.1 x c e rfl
  by_cases hc:c∈X.fs
  ·obtain⟨sl,q⟩:=slot c o (I.cne x c e) hc nch ho (I.freeC x c e)
   exact⟨_,q,hd⟩
  exact⟨o,keep c o (I.cne x c e) hc nch ho (I.freeC x c e),hd⟩
 refine⟨I.ok,I.os,hg,⟨λb o e n hb hx=>?_,λb o e n hb hx=>?_,λb o e n hx=>?_,λb o e hx=>?_,λb xs e=>tups b xs (I.base.tups b xs e),λb o xs e=>frzs b o xs (I.base.frzs b o xs e),λb ps e=>?_⟩,?_,λx c e=>?_,?_,λx c e=>?_,λp hp=>?_,hok,I.len⟩
 ·exact keep b o (neL b o e) hb (neC b o e hx) (I.base.keep b o e n hb hx) (I.base.free b o e n hx)
 ·obtain⟨sl,e1⟩:=I.base.slot b o e n hb hx
  obtain⟨sl',e2⟩:=slot b _ (neL b o e) hb (neC b o e hx) e1 (I.base.free b o e n hx)
  exact⟨sl',e2⟩
 ·obtain⟨o',e1⟩:=I.base.there b o e hx
  exact free b o' (neC b o e hx) e1 (I.base.free b o e n hx)
 ·obtain⟨o',e1⟩:=I.base.there b o e hx
  exact there b o' (neC b o e hx) e1
 ·obtain⟨m1,e1⟩:=I.base.tbls b ps e
  obtain⟨m2,e2⟩:=tbls b _ e1
  exact⟨m1++m2,by rw[e2,Array.append_assoc]⟩
 ·obtain⟨m,hn,hl⟩:=I.loc
  refine⟨m,ns m hn,λi x v e1 e2 e3=>?_⟩
  obtain⟨u,r,l⟩:=hl i x v e1 e2 e3
  refine⟨u,r,?_⟩
  rcases l with l | ⟨k,c,e,z⟩
  ·exact .inl l
  exact .inr ⟨k,c,e,cellK x c e _ z⟩
 ·obtain⟨v,z⟩:=I.cell x c e
  exact⟨v,cellK x c e v z⟩
 ·obtain⟨m,⟨o,_,_,ho,_⟩,_⟩:=I.loc
  exact free _ o (λz=>(hch _ z).2.1 rfl) ho I.free
 ·obtain⟨v,o,ho,hd⟩:=I.cell x c e
  exact free c o (λz=>(hch c z).2.2.1 x c e rfl) ho (I.freeC x c e)
 obtain⟨e,n,ne,nf,d⟩:=I.pin p hp
 have nch:p.1∉ch:=λz=>(hch p.1 z).2.2.2 p hp rfl
 exact⟨keep p.1 p.2 ne nf nch e n,free p.1 p.2 nch e n,ne,nf,d⟩
theorem Inv.un {t':Nat}(I:Inv X pins σ H s)(u:Un X.fs [] H H' s.heap h')(hok:HOk X.prog X.w H' h'):Inv X pins σ H' { s with heap:=h',toks:=t' }:=by
 obtain⟨m,⟨o,es,ep,ho,r⟩,_⟩:=id I.loc
 obtain⟨sl,hL⟩:=u.any ho I.free (by simp)
 exact I.step (g':=s.gens) (d':=s.drawn) (ch:=[]) (λ_ z=>nomatch z) (λb o _ hb _ e n=>u.keep b o e n hb (by simp)) (λb o _ hb _ e n=>u.slot b o e n hb (by simp)) (λb o _ e n=>u.free b o e n (by simp)) (λb o _ e=>u.there b o e (by simp)) u.tups u.frzs u.tbls (λm' hm=>by
  obtain⟨o',es',ep',ho',r'⟩:=hm
  rw[ho]at ho';cases ho'
  exact⟨_,es',ep',hL,r'⟩) hok I.bare
theorem Inv.call {g':Array GenState}{t':Nat}{d':Drawn}{ch:List Addr}(I:Inv X pins σ H s)(u:Un (frs X.stack) ch H H' s.heap h')(hok:HOk X.prog X.w H' h')(hg:AllBare g')
  (hch:∀b∈ch,(b∈X.ex\/X.s₀.heap.objs.size<=b)/\b≠X.env.locals/\(∀x c,X.env.cells.lookup x=some c->c≠b)/\∀p∈X.pn++pins,p.1≠b) :
  Inv X pins σ H' { s with heap:=h',gens:=g',drawn:=d',toks:=t' }:=by
 obtain⟨m,⟨o,es,ep,ho,r⟩,_⟩:=id I.loc
 obtain⟨sl,hL⟩:=u.any ho I.free λz=>(hch _ z).2.1 rfl
 exact I.step (ch:=ch) hch (λb o hL hb hc e n=>u.keep b o e n (λz=>(mem_cons.mp (I.stkSub b z)).elim hL hb) hc) (λb o _ _ hc e n=>u.any e n hc) (λb o hc e n=>u.free b o e n hc) (λb o hc e=>u.there b o e hc) u.tups u.frzs u.tbls (λm' hm=>by
  obtain⟨o',es',ep',ho',r'⟩:=hm
  rw[ho]at ho';cases ho'
  exact⟨_,es',ep',hL,r'⟩) hok hg
theorem Inv.turned {t':Nat}{it:Addr}(I:Inv X pins σ H s)(k:∀b o,b≠it->s.heap.get? b=some o->h'.get? b=some o)(hn:H it=none)(hL:it≠X.env.locals)
  (h1:it∈X.ex\/X.s₀.heap.objs.size<=it)(h2:∀x c,X.env.cells.lookup x=some c->c≠it)(h3:∀p∈X.pn++pins,p.1≠it):Inv X pins σ H { s with heap:=h',toks:=t' }:=by
 have nit:∀b u,H b=some u->b≠it:=λb u e z=>by rw[z,hn]at e;cases e
 refine I.step (g':=s.gens) (d':=s.drawn) (ch:=[it]) (λb hb=>?_) (λb o _ _ hc e _=>k b o (λz=>hc (by simp[z])) e) (λb o _ _ hc e _=>⟨o.slots,k b o (λz=>hc (by simp[z])) e⟩) (λ_ _ _ _ n=>n)
  (λb o hc e=>⟨o,k b o (λz=>hc (by simp[z])) e⟩) (λ_ _ e=>e) (λ_ _ _ e=>e) (λb ps e=>⟨#[],by rw[e];simp⟩) (λm hm=>?_) (λb u e=>?_) I.bare
 ·have e:b=it:=by simpa using hb
  subst e
  exact⟨h1,hL,h2,h3⟩
 ·obtain⟨o,es,ep,ho,r⟩:=hm
  exact⟨o,es,ep,k _ o (Ne.symm hL) ho,r⟩
 refine(I.hok b u e).stay (λc v hc q=>k c v ?_ q) (λ_ q=>q) λ_ _ q=>q
 rcases hc with z | z
 ·rw[z];exact nit b u e
 exact nit c _ z
theorem Inv.tok (I:Inv X pins σ H s)(t:Nat):Inv X pins σ H { s with toks:=t }:=I.un (h':=s.heap) (t':=t) Un.refl I.hok
theorem Inv.kept {t':Nat}(I:Inv X pins σ H s)(k:∀b u,s.heap.get? b=some u->h'.get? b=some u):Inv X pins σ H { s with heap:=h',toks:=t' }:=I.un (Un.kept k) (I.hok.kept k)
theorem Inv.laid {a:Addr}{o:HO}{t':Nat}(I:Inv X pins σ H s)(k:∀b u,s.heap.get? b=some u->h'.get? b=some u)(hp:s.heap.objs.size<=a)(new:ObjOk X.prog X.w (upd H a o) h' a o) :
  Inv X pins σ (upd H a o) { s with heap:=h',toks:=t' }:=I.un (Un.laid k hp (I.hok.fresh hp)) (I.hok.laid k hp new)
theorem Inv.write {x e:Addr}{o:HO}{t':Nat}(I:Inv X pins σ H s)(mu:Mut (H x))(he:e=x\/H e=some (.own x))(k:∀b u,b≠e->s.heap.get? b=some u->h'.get? b=some u)(heo:∃u,h'.get? e=some u)
  (new:ObjOk X.prog X.w (upd H x o) h' x o):Inv X pins σ (upd H x o) { s with heap:=h',toks:=t' }:=I.un (Un.write mu he k heo) (I.hok.write mu he k heo new)
theorem Inv.weak {σ':List (Option V)}(I:Inv X pins σ H s)(hl:σ'.length=σ.length)(w:∀(i:Nat) v,σ'[i]? = some (some v)->σ[i]? = some (some v)):Inv X pins σ' H s:=
 ⟨I.ok,I.os,I.bare,I.base,let ⟨m,hn,hl'⟩:=I.loc;⟨m,hn,λi x v e1 e2 e3=>hl' i x v e1 (w i v e2) e3⟩,I.cell,I.free,I.freeC,I.pin,I.hok,hl.trans I.len⟩
theorem Inv.pins_of {pins':List (Addr×Obj)}(I:Inv X pins σ H s)(h:∀p∈pins',s.heap.get? p.1=some p.2/\H p.1=none/\p.1≠X.env.locals/\p.1∉X.fs/\∀v,p.2.data≠.cell v):Inv X pins' σ H s:=
 ⟨I.ok,I.os,I.bare,I.base,I.loc,I.cell,I.free,I.freeC,λp hp=>(mem_append.mp hp).elim (λz=>I.pin p (mem_append_left _ z)) (h p),I.hok,I.len⟩
theorem Zk8 {N:List Str}(hN:N.Nodup){i j:Nat}{x:Str}(a:N[i]? = some x)(b:N[j]? = some x):i=j:=by
 obtain⟨h1,e1⟩:=List.getElem?_eq_some_iff.mp a
 obtain⟨h2,e2⟩:=List.getElem?_eq_some_iff.mp b
 exact(getElem_inj hN).mp (e1.trans e2.symm)
theorem Ziq {M:Model}{A:Around}{E:Value->Shared->Prop}{i:Nat}{x:Str}{v:V}{u:Value}{Q:Unit->Shared->Prop}(I:Inv X pins σ H s)(hN:X.N.Nodup)(hi:X.N[i]? = some x)(hx:Loc X.env.scope x)(r:RelV v u)
  (h:∀s',Inv X pins (σ.set i (some v)) H s'->(∃a,Heap.SameBut a s.heap s'.heap/\(a=X.env.locals\/X.env.cells.lookup x=some a))->Q () s')(hf:X.fn x=true\/X.env.scope.names.lookup x=some .local:=by first | exact .inl rfl | exact .inr rfl | assumption):wpAny M A (storeName X.env x u) Q E s:=by
 obtain⟨m,hn,hl⟩:=id I.loc
 have hcls:(X.env.scope.kind == .class || (X.env.scope.kind == .module && X.env.locals != X.env.globals))=false:=by rw[I.ok.kind];rfl
 have hiσ:i<σ.length:=by rw[I.len];exact(List.getElem?_eq_some_iff.mp hi).1
 have cne:=I.cne
 have tracked:∀{a:Addr}{h':Heap},(∃o,s.heap.get? a=some o/\H a=none)->Heap.SameBut a s.heap h'->HOk X.prog X.w H h':=λ{a h'} ha hs b ob e=>by
  obtain⟨_,_,hfree⟩:=ha
  refine(I.hok b ob e).stay (λc w' hc q=>(hs.2 c ?_).trans q) (λ_ q=>q) λ_ _ q=>q
  rintro rfl
  rcases hc with rfl | hc
  ·rw[hfree]at e;cases e
  rw[hfree]at hc;cases hc
 rcases hx with hk | hk
 ·refine wpAny_storeName_local hk hn (λh' hn' hs=>?_) hcls
  obtain⟨oL,_,_,hoL,_⟩:=id hn
  refine h _ ⟨I.ok,I.os,I.bare,⟨λb o e n hb hx=>?_,λb o e n hb hx=>?_,I.base.free,λb o e hx=>?_,I.base.tups,I.base.frzs,I.base.tbls⟩,⟨_,hn',λj y v' e1 e2 e3=>?_⟩,λy c e=>?_,I.free,I.freeC,λp hp=>?_,tracked ⟨oL,hoL,I.free⟩ hs,by simpa using I.len⟩ ⟨_,hs,.inl rfl⟩
  ·exact(hs.2 b (ne_of_lt (lt_of_lt_of_le (Heap.lt_size e) I.ok.above))).trans (I.base.keep b o e n hb hx)
  ·obtain⟨sl,e1⟩:=I.base.slot b o e n hb hx
   exact⟨sl,(hs.2 b (ne_of_lt (lt_of_lt_of_le (Heap.lt_size e) I.ok.above))).trans e1⟩
  ·obtain⟨o',e1⟩:=I.base.there b o e hx
   exact⟨o',(hs.2 b (ne_of_lt (lt_of_lt_of_le (Heap.lt_size e) I.ok.above))).trans e1⟩
  ·by_cases hj:j=i
   ·subst hj
    rw[hi]at e1;cases e1
    rw[List.getElem?_set_self hiσ]at e2
    cases e2
    exact⟨u,r,.inl ⟨hk,by simp⟩⟩
   rw[List.getElem?_set_ne (Ne.symm hj)]at e2
   obtain⟨u',r',q⟩:=hl j y v' e1 e2 e3
   refine⟨u',r',?_⟩
   rcases q with⟨k,e⟩ | ⟨k,c,e,z⟩
   ·refine .inl ⟨k,?_⟩
    have:y≠x:=λe=>hj (Zk8 hN e1 (e ▸ hi))
    simp[this,e]
   exact .inr ⟨k,c,e,z.sameBut hs (cne y c e)⟩
  ·obtain⟨w',z⟩:=I.cell y c e
   exact⟨w',z.sameBut hs (cne y c e)⟩
  obtain⟨e,n,ne,nf,d⟩:=I.pin p hp
  exact⟨(hs.2 p.1 ne).trans e,n,ne,nf,d⟩
 have hfn:X.fn x=true:=by
  rcases hf with z | z
  ·exact z
  rw[z]at hk;cases hk
 obtain⟨c,hc⟩:=I.ok.has x (.inl hk)
 obtain⟨w',z⟩:=I.cell x c hc
 refine wpAny_storeName_cell I.ok.kind hk hc z (λh' hc' hs=>?_)
 obtain⟨oc,hoc,hocd⟩:=id z
 refine h { s with heap:=h' } ⟨I.ok,I.os,I.bare,⟨λb o e n hb hx=>?_,λb o e n hb hx=>?_,I.base.free,λb o e hx=>?_,I.base.tups,I.base.frzs,I.base.tbls⟩,⟨m,hn.sameBut hs (Ne.symm (cne x c hc)),λj y v' e1 e2 e3=>?_⟩,λy c' e=>?_,I.free,I.freeC,λp hp=>?_,tracked ⟨oc,hoc,I.freeC x c hc⟩ hs,by simpa using I.len⟩ ⟨c,hs,.inr hc⟩
 ·exact(hs.2 b (ne_of_lt (lt_of_lt_of_le (Heap.lt_size e) (I.ok.cab x c hfn hc)))).trans (I.base.keep b o e n hb hx)
 ·obtain⟨sl,e1⟩:=I.base.slot b o e n hb hx
  exact⟨sl,(hs.2 b (ne_of_lt (lt_of_lt_of_le (Heap.lt_size e) (I.ok.cab x c hfn hc)))).trans e1⟩
 ·obtain⟨o',e1⟩:=I.base.there b o e hx
  exact⟨o',(hs.2 b (ne_of_lt (lt_of_lt_of_le (Heap.lt_size e) (I.ok.cab x c hfn hc)))).trans e1⟩
 ·by_cases hj:j=i
  ·subst hj
   rw[hi]at e1;cases e1
   rw[List.getElem?_set_self hiσ]at e2
   cases e2
   exact⟨u,r,.inr ⟨.inl hk,c,hc,hc'⟩⟩
  rw[List.getElem?_set_ne (Ne.symm hj)]at e2
  obtain⟨u',r',q⟩:=hl j y v' e1 e2 e3
  refine⟨u',r',?_⟩
  rcases q with q | ⟨k,c',e,z'⟩
  ·exact .inl q
  refine .inr ⟨k,c',e,z'.sameBut hs ?_⟩
  rintro rfl
  exact hj (Zk8 hN e1 (I.ok.inj _ _ _ e hc ▸ hi))
 ·by_cases hcc:c'=c
  ·subst hcc;exact⟨_,hc'⟩
  obtain⟨w2,z2⟩:=I.cell y c' e
  exact⟨w2,z2.sameBut hs hcc⟩
 obtain⟨e,n,ne,nf,d⟩:=I.pin p hp
 refine⟨(hs.2 p.1 ?_).trans e,n,ne,nf,d⟩
 intro q
 rw[q,hoc]at e
 have q':oc=p.2:=Option.some.inj e
 exact d w' (by rw[<- q'];exact hocd)
theorem Zkg {M:Model}{A:Around}{E:Value->Shared->Prop}{i:Nat}{x:Str}{v:V}{u:Value}{Q:Unit->Shared->Prop}(I:Inv X pins σ H s)(hN:X.N.Nodup)(hi:X.N[i]? = some x)(hx:Loc X.env.scope x)(r:RelV v u)
  (h:∀s',Inv X pins (σ.set i (some v)) H s'->Q () s')(hf:X.fn x=true\/X.env.scope.names.lookup x=some .local:=by first | exact .inl rfl | exact .inr rfl | assumption):wpAny M A (storeName X.env x u) Q E s:=
 Ziq I hN hi hx r (λs' I' _=>h s' I') hf
theorem Inv.call' {s':Shared}{ch:List Addr}(I:Inv X pins σ H s)(ho:s'.os=s.os)(u:Un (frs X.stack) ch H H' s.heap s'.heap)(hok:HOk X.prog X.w H' s'.heap)(hg:AllBare s'.gens)
  (hch:∀b∈ch,(b∈X.ex\/X.s₀.heap.objs.size<=b)/\b≠X.env.locals/\(∀x c,X.env.cells.lookup x=some c->c≠b)/\∀p∈X.pn++pins,p.1≠b):Inv X pins σ H' s':=by
 obtain⟨h',g',d',t',o'⟩:=s'
 have e:o'=s.os:=ho
 subst e
 exact I.call (g':=g') (t':=t') (d':=d') u hok hg hch
end
abbrev XK:=Value->Option Addr->Hp->Prop
abbrev St:=List (Option V)
abbrev VK:=V->Hp->Prop
abbrev TE:=St->Hp->VK->Prop
abbrev TT:=St->Hp->(Bool->Hp->Prop)->Prop
abbrev TA:=St->Hp->(List V->Hp->Prop)->Prop
structure Ends where
 nx:St->Hp->Prop
 rt:VK
 bk:St->Hp->Prop:=λ_ _=>False
 ct:St->Hp->Prop:=λ_ _=>False
abbrev TS:=Ends->St->Hp->Prop
def EP (X:Cx)(pins:List (Addr×Obj))(σ:St)(Q:VK)(u:Value)(s':Shared):Prop:=∃v H',Inv X pins σ H' s'/\RelV v u/\Q v H'
def TP (X:Cx)(pins:List (Addr×Obj))(σ:St)(Q:Bool->Hp->Prop)(b:Bool)(s':Shared):Prop:=∃H',Inv X pins σ H' s'/\Q b H'
def AP (X:Cx)(pins:List (Addr×Obj))(σ:St)(Q:List V->Hp->Prop)(us:List Value)(s':Shared):Prop:=∃vs H',Inv X pins σ H' s'/\Vals vs us/\Q vs H'
def SP (X:Cx)(pins:List (Addr×Obj))(D:Ends)(f:Flow)(s':Shared):Prop:=
 match f with
 | .next=>∃σ' H',Inv X pins σ' H' s'/\D.nx σ' H'
 | .brk=>∃σ' H',Inv X pins σ' H' s'/\D.bk σ' H'
 | .cont=>∃σ' H',Inv X pins σ' H' s'/\D.ct σ' H'
 | .ret u=>∃v σ' H',Inv X pins σ' H' s'/\RelV v u/\D.rt v H'
def PE (X:Cx)(e:Expr)(t:TE):Prop:=
 ∀(pins:List (Addr×Obj)) (s:Shared) (σ:St) (H:Hp) (Q:VK),Inv X pins σ H s->t σ H Q->wpAny (model X.prog X.w) X.A (eval e X.env) (EP X pins σ Q) X.xe s
def PT (X:Cx)(e:Expr)(t:TT):Prop:=
 ∀(pins:List (Addr×Obj)) (s:Shared) (σ:St) (H:Hp) (Q:Bool->Hp->Prop),Inv X pins σ H s->t σ H Q->wpAny (model X.prog X.w) X.A (isTrue e X.env (eval e X.env)) (TP X pins σ Q) X.xe s
def PW (X:Cx)(e:Expr)(t:TT):Prop:=
 ∀(whole:Sem Value) (pins:List (Addr×Obj)) (s:Shared) (σ:St) (H:Hp) (Q:Bool->Hp->Prop),Inv X pins σ H s->t σ H Q->wpAny (model X.prog X.w) X.A (isTrue e X.env whole) (TP X pins σ Q) X.xe s
theorem PW.pt {X:Cx}{e:Expr}{t:TT}(h:PW X e t):PT X e t:=h _
def PA (X:Cx)(es:List Expr)(t:TA):Prop:=
 ∀(pos:Pos) (pins:List (Addr×Obj)) (s:Shared) (σ:St) (H:Hp) (Q:List V->Hp->Prop),Inv X pins σ H s->t σ H Q->wpAny (model X.prog X.w) X.A (spliced (backTo pos (starEach es X.env))) (AP X pins σ Q) X.xe s
def PS (X:Cx)(st:Stmt)(t:TS):Prop:=
 ∀(pins:List (Addr×Obj)) (s:Shared) (σ:St) (H:Hp) (D:Ends),Inv X pins σ H s->t D σ H->wpAny (model X.prog X.w) X.A (exec st X.env) (SP X pins D) X.xe s
def PSs (X:Cx)(st:List Stmt)(t:TS):Prop:=
 ∀(pins:List (Addr×Obj)) (s:Shared) (σ:St) (H:Hp) (D:Ends),Inv X pins σ H s->t D σ H->wpAny (model X.prog X.w) X.A (execs st X.env) (SP X pins D) X.xe s
theorem thn {α:Type}{t:Sem α}{Q Q':α->Shared->Prop}{M:Model}{A:Around}{E:Value->Shared->Prop}{s:Shared}(h:wpAny M A t Q E s)(hQ:∀a s,Q a s->Q' a s):wpAny M A t Q' E s:=wpAny_mono h hQ λ_ _ x=>x
section
variable {X:Cx}
inductive tVar (i:Nat)(σ:St)(H:Hp)(Q:VK):Prop
 | mk (v:_) (c0:σ[i]? = some (some v)) (c1:Q v H):tVar i σ H Q
def tC (v:V):TE:=λ_ H Q=>Q v H
theorem pe_var {i:Nat}{x:Str}{pos:Pos}(hN:X.N[i]? = some x)(hv:Vis X.env.scope x)(hd:(x == ("__debug__" : Str))=false:=by decide)(hcd:(x == ("__classdict__" : Str))=false:=by decide):PE X (.Name x pos) (tVar i):=by
 intro pins s σ H Q I h
 obtain⟨v,e,h⟩:=h
 obtain⟨m,hn,hl⟩:=I.loc
 obtain⟨u,r,l⟩:=hl i x v hN e hv
 have fin:EP X pins σ Q u s:=⟨v,H,I,r,h⟩
 rcases l with⟨hk,hm⟩ | ⟨hk,c,hc,hcell⟩
 ·exact wpAny_Name (wpAny_loadName_local I.ok.kind hk hn hm fin) hd
 rcases hk with hk | hk
 ·exact wpAny_Name (wpAny_loadName_cell I.ok.kind hk hc hcell fin) hd
 exact wpAny_Name (wpAny_loadName_free I.ok.kind hk hc hcell fin hcd) hd
theorem Zae {i j pos}:PE X (.Constant (.int i) j pos) (tC (.int i)):=λ_ _ _ H _ I h=>wpAny_Constant_int ⟨.int i,H,I.tok _,⟨_,rfl⟩,h⟩
theorem Zfj {b j pos}:PE X (.Constant (.bool b) j pos) (tC (.bl b)):=λ_ _ _ H _ I h=>Constant_bool ⟨.bl b,H,I,rfl,h⟩
theorem Zbz {j pos}:PE X (.Constant .none j pos) (tC .non):=λ_ _ _ H _ I h=>Constant_none ⟨.non,H,I,rfl,h⟩
theorem Za6 {x j pos}:PE X (.Constant (.str x) j pos) (tC (.str x)):=λ_ _ _ H _ I h=>Calls.Constant_str ⟨.str x,H,I.tok _,⟨_,rfl⟩,h⟩
def Gl (X:Cx)(x:Str):Prop:=X.env.kindOf x=some .globalImplicit
theorem Zgp {E:Value->Shared->Prop}{pins:List (Addr×Obj)}{s:Shared}{σ:St}{H:Hp}{x:Str}{u:Value}{pos:Pos}{Q:Value->Shared->Prop}(I:Inv X pins σ H s)(hg:Gl X x)(hm:X.mg x=some u)(h:Q u s)
  (hd:(x == ("__debug__" : Str))=false:=by decide):wpAny (model X.prog X.w) X.A (eval (.Name x pos) X.env) Q E s:=
 Calls.Name_function_global I.ok.kind hg (Calls.loadGlobal_global (by rw[I.ok.glob];exact I.mod.glob.keeps I.bk) hm h) hd
theorem Zdt {E:Value->Shared->Prop}{pins:List (Addr×Obj)}{s:Shared}{σ:St}{H:Hp}{x:Str}{u:Value}{pos:Pos}{Q:Value->Shared->Prop}(I:Inv X pins σ H s)(hg:Gl X x)(hm:X.mg x=none)(hv:bootBuiltins x=some u)(h:Q u s)
  (hn:x ≠ "__name__" := by decide)(hd:(x == ("__debug__" : Str))=false:=by decide):wpAny (model X.prog X.w) X.A (eval (.Name x pos) X.env) Q E s:=by
 obtain⟨mb,h1,h2⟩:=I.mod.blt
 exact Calls.Name_function_global I.ok.kind hg (Calls.loadGlobal_builtin (by rw[I.ok.glob];exact I.mod.glob.keeps I.bk) hm (by rw[I.ok.blt];exact h1.keeps I.bk) ((h2 x hn).trans hv) h) hd
theorem Zcc {x:Str}{v:V}{u:Value}{pos:Pos}(hg:Gl X x)(hm:X.mg x=some u)(r:RelV v u)(hd:(x == ("__debug__" : Str))=false:=by decide):PE X (.Name x pos) (tC v):=
 λ_ _ _ H _ I h=>Zgp I hg hm ⟨v,H,I,r,h⟩ hd
theorem Zge {x:Str}{v:V}{u:Value}{pos:Pos}(hg:Gl X x)(hm:X.mg x=none)(hv:bootBuiltins x=some u)(r:RelV v u)(hn:x ≠ "__name__" := by decide)(hd:(x == ("__debug__" : Str))=false:=by decide):PE X (.Name x pos) (tC v):=
 λ_ _ _ H _ I h=>Zdt I hg hm hv ⟨v,H,I,r,h⟩ hn hd
variable {a b:Expr}{ta tb:TE}{pos:Pos}
def PC (X:Cx)(op:CmpOp)(a b:Expr)(t:TE):Prop:=
 ∀(pins:List (Addr×Obj)) (s:Shared) (σ:St) (H:Hp) (Q:VK),Inv X pins σ H s->t σ H Q ->
  wpAny (model X.prog X.w) X.A (eval a X.env) (λv s₁=>wpAny (model X.prog X.w) X.A (eval b X.env) (λu s₂=>wpAny (model X.prog X.w) X.A (compareOp op v u) (EP X pins σ Q) X.xe s₂) X.xe s₁) X.xe s
inductive isB0 (Q:Bool->Hp->Prop)(x:V)(H1:Hp):Prop
 | mk (c:_) (c0:x=.bl c) (c1:Q c H1):isB0 Q x H1
def tB (t:TE):TT:=λσ H Q=>t σ H λx H1=>isB0 Q x H1
theorem Zku {op:CmpOp}{t:TE}(h:PC X op a b t)(h1:behindInMarks op b=false:=by first | exact nobehind _ (by decide) (by decide) | rfl):PT X (.Compare a [op] [b] pos) (tB t):=by
 intro pins s σ H Q I hw
 refine wpAny_isTrue_Compare1 (thn (h pins s σ H _ I hw) λv s1 h1=>thn h1 λu s2 h2=>thn h2 λc s3 hp0=>?_) h1
 obtain⟨x,H1,I1,r1,q1⟩:=hp0
 obtain⟨d,rfl,q⟩:=q1
 cases r1
 exact wpAny_truthy_bool ⟨H1,I1,q⟩
theorem Zby {e:Expr}{t:TE}(h:PE X e t)(he:∀whole,isTrue e X.env whole=(do let v <- whole;standAt e.pos;holding [v] (truthy v)):=by intro _;rfl):PT X e (tB t):=by
 intro pins s σ H Q I hw
 refine isTrue_plain (thn (h pins s σ H _ I hw) λv s1 hp0=>?_) (he _)
 obtain⟨x,H1,I1,r1,q1⟩:=hp0
 obtain⟨d,rfl,q⟩:=q1
 cases r1
 exact wpAny_truthy_bool ⟨H1,I1,q⟩
variable {tA tB':TT}{rest:List Expr}
def tOr (t u:TT):TT:=λσ H Q=>t σ H λc H1=>if c=true then Q true H1 else u σ H1 Q
def tNot (t:TT):TT:=λσ H Q=>t σ H λc H1=>Q (!c) H1
theorem Zej (ha:PT X a tA):PW X (.BoolOp .Or [a] pos) tA:=by
 intro wh pins s σ H Q I h
 refine isTrue_or (thn (ha pins s σ H Q I h) λc s1 e=>?_)
 cases c with
 | false=>exact isTrue_or_nil e
 | true=>exact e
theorem Zgz (ha:PT X a tA)(hb:PW X (.BoolOp .Or (b::rest) pos) tB'):PW X (.BoolOp .Or (a::b::rest) pos) (tOr tA tB'):=by
 intro wh pins s σ H Q I h
 refine isTrue_or (thn (ha pins s σ H _ I h) λc s1 hp0=>?_)
 obtain⟨H1,I1,q1⟩:=hp0
 cases c with
 | true=>exact⟨H1,I1,q1⟩
 | false=>exact hb wh pins s1 σ H1 Q I1 q1
theorem Zc4 (ha:PT X a tA):PT X (.UnaryOp .Not a pos) (tNot tA):=by
 intro pins s σ H Q I h
 exact isTrue_not (ha pins s σ H (λc H1=>Q (!c) H1) I h)
def tAndV (ta tb:TE):TE:=λσ H Q=>ta σ H λx H1=>∃c,x=.bl c/\if c=true then tb σ H1 Q else Q (.bl false) H1
def tNotV (ta:TE):TE:=λσ H Q=>ta σ H λx H1=>∃c,x=.bl c/\Q (.bl (!c)) H1
theorem pe_one {op}{t:TE}(h:PE X a t):PE X (.BoolOp op [a] pos) t:=λpins s σ H Q I hw=>BoolOp_one (h pins s σ H Q I hw)
theorem pe_and (ha:PE X a ta)(hb:PE X (.BoolOp .And (b::rest) pos) tb):PE X (.BoolOp .And (a::b::rest) pos) (tAndV ta tb):=by
 intro pins s σ H Q I h
 refine BoolOp_and (thn (ha pins s σ H _ I h) λv s1 hp0=>?_)
 obtain⟨x,H1,I1,r1,q1⟩:=hp0
 obtain⟨c,rfl,q1⟩:=q1
 cases r1
 refine wpAny_truthy_bool ?_
 cases c with
 | true=>exact hb pins s1 σ H1 Q I1 q1
 | false=>exact⟨.bl false,H1,I1,rfl,q1⟩
theorem pe_not (ha:PE X a ta):PE X (.UnaryOp .Not a pos) (tNotV ta):=by
 intro pins s σ H Q I h
 refine UnaryOp_ (thn (ha pins s σ H _ I h) λv s1 hp0=>?_)
 obtain⟨x,H1,I1,r1,q1⟩:=hp0
 obtain⟨c,rfl,q1⟩:=q1
 cases r1
 exact not_of (wpAny_truthy_bool ⟨.bl (!c),H1,I1,rfl,q1⟩)
def tIf (t:TT)(ta tb:TE):TE:=λσ H Q=>t σ H λc H1=>if c=true then ta σ H1 Q else tb σ H1 Q
theorem Zfr {c:Expr}(hc:PT X c tA)(ha:PE X a ta)(hb:PE X b tb):PE X (.IfExp c a b pos) (tIf tA ta tb):=by
 intro pins s σ H Q I h
 refine wpAny_IfExp (thn (hc pins s σ H _ I h) λd s1 hp0=>?_)
 obtain⟨H1,I1,q1⟩:=hp0
 cases d with
 | true=>exact ha pins s1 σ H1 Q I1 q1
 | false=>exact hb pins s1 σ H1 Q I1 q1
end
def SqL (K:W.Frag)(H:Hp)(a:Addr)(xs:List V):Prop:=
 Rd H a (.lst xs) \/
  ∃(o:Obj) (its:Array Value) (n:Nat),K.lookup a=some o/\o.cls=.type "list" /\ o.dict=none/\o.data=.seq its n/\its.size<=sizeLine/\Vals xs its.toList
def SqT (K:W.Frag)(H:Hp)(a:Addr)(xs:List V):Prop:=
 Rd H a (.tup xs) \/
  ∃(o:Obj) (its:Array Value) (n:Nat),K.lookup a=some o/\o.cls=.type "tuple" /\ o.data=.seq its n/\its.size<=sizeLine/\Vals xs its.toList
def absV:Value->Option V
 | .none=>some .non
 | .bool b=>some (.bl b)
 | .int i _=>some (.int i)
 | .str x _=>some (.str x)
 | .bytes b _=>some (.byt b)
 | .float b _=>some (.flt b)
 | .ref a=>some (.ref a)
 | .type n=>some (.ty n)
 | _=>none
theorem RelV.abs {x:V}{u:Value}(r:RelV x u):absV u=some x:=by
 cases x with
 | non=>cases r;rfl
 | bl _=>cases r;rfl
 | int _=>obtain⟨t,rfl⟩:=r;rfl
 | str _=>obtain⟨t,rfl⟩:=r;rfl
 | byt _=>obtain⟨t,rfl⟩:=r;rfl
 | flt _=>obtain⟨t,rfl⟩:=r;rfl
 | ref _=>cases r;rfl
 | ty _=>cases r;rfl
theorem RelV.inj {x y:V}{u:Value}(r:RelV x u)(q:RelV y u):x=y:=Option.some.inj (r.abs.symm.trans q.abs)
theorem Vals.inj:∀{xs ys:List V}{us:List Value},Vals xs us->Vals ys us->xs=ys
 | _,_,_,.nil,.nil=>rfl
 | _,_,_,.cons r t,.cons r' t'=>by rw[r.inj r',Vals.inj t t']
section
variable {X:Cx}{pins:List (Addr×Obj)}{σ:St}{H:Hp}{s:Shared}{a:Addr}{xs ys:List V}
theorem SqL.of {K:W.Frag}(h:H a=some (.lst xs)):SqL K H a xs:=.inl (.inl h)
theorem SqT.of {K:W.Frag}(h:H a=some (.tup xs)):SqT K H a xs:=.inl (.inl h)
theorem Inv.list (I:Inv X pins σ H s)(h:SqL X.K H a xs):∃its:List Value,Vals xs its/\PlainL s.heap a its.toArray/\xs.length<=sizeLine:=by
 rcases h with h | ⟨o,its,n,hk,hc,hd,hs,hz,r⟩
 ·obtain⟨z,its,n,r,e⟩:=h.ok I.hok
  exact⟨its,r,⟨_,n,e,rfl,rfl,rfl⟩,z⟩
 refine⟨its.toList,r,⟨o,n,I.kIn a o hk,hc,hd,by simpa using hs⟩,?_⟩
 have e:=r.length
 simp only[Array.length_toList]at e
 lia
theorem Inv.tuple (I:Inv X pins σ H s)(h:SqT X.K H a xs):∃its:List Value,Vals xs its/\IsTup s.heap a its.toArray/\xs.length<=sizeLine:=by
 rcases h with h | ⟨o,its,n,hk,hc,hs,hz,r⟩
 ·obtain⟨z,its,r,p⟩:=h.ok I.hok
  exact⟨its,r,p,z⟩
 refine⟨its.toList,r,⟨o,I.kIn a o hk,hc,n,by simpa using hs⟩,?_⟩
 have e:=r.length
 simp only[Array.length_toList]at e
 lia
theorem Inv.list_inj (I:Inv X pins σ H s)(h:SqL X.K H a xs)(h':SqL X.K H a ys):xs=ys:=by
 obtain⟨its,r,⟨o,n,e,_,_,d⟩,_⟩:=I.list h
 obtain⟨its',r',⟨o',n',e',_,_,d'⟩,_⟩:=I.list h'
 rw[e]at e';cases e'
 rw[d]at d'
 injection d' with d1 _
 have:its=its':=by simpa using congrArg Array.toList d1
 subst this
 exact r.inj r'
theorem Inv.tuple_inj (I:Inv X pins σ H s)(h:SqT X.K H a xs)(h':SqT X.K H a ys):xs=ys:=by
 obtain⟨its,r,⟨o,e,_,n,d⟩,_⟩:=I.tuple h
 obtain⟨its',r',⟨o',e',_,n',d'⟩,_⟩:=I.tuple h'
 rw[e]at e';cases e'
 rw[d]at d'
 injection d' with d1 _
 have:its=its':=by simpa using congrArg Array.toList d1
 subst this
 exact r.inj r'
end
abbrev Cx.wish (X:Cx)(E:Value->Shared->Prop):Cx:={ X with xe:=E }
abbrev Cx.nox (X:Cx):Cx:=X.wish λ_ _=>False
theorem Cx.Ok.wish {X:Cx}(ok:X.Ok)(E:Value->Shared->Prop):(X.wish E).Ok:=
 ⟨ok.mod,ok.kind,ok.glob,ok.blt,ok.above,ok.inj,ok.has,ok.cab,ok.hd,ok.frames,ok.stk,ok.exf,ok.bs,ok.bsz,ok.noex,ok.exfs,ok.funs,ok.frf⟩
theorem Cx.Ok.unwish {X:Cx}{E:Value->Shared->Prop}(ok:(X.wish E).Ok):X.Ok:=
 ⟨ok.mod,ok.kind,ok.glob,ok.blt,ok.above,ok.inj,ok.has,ok.cab,ok.hd,ok.frames,ok.stk,ok.exf,ok.bs,ok.bsz,ok.noex,ok.exfs,ok.funs,ok.frf⟩
section
variable {X:Cx}{pins:List (Addr×Obj)}{σ:St}{H:Hp}{s:Shared}{E:Value->Shared->Prop}
theorem Inv.wish (I:Inv X pins σ H s)(E:Value->Shared->Prop):Inv (X.wish E) pins σ H s:=⟨I.ok.wish E,I.os,I.bare,I.base,I.loc,I.cell,I.free,I.freeC,I.pin,I.hok,I.len⟩
theorem Inv.unwish (I:Inv (X.wish E) pins σ H s):Inv X pins σ H s:=⟨I.ok.unwish,I.os,I.bare,I.base,I.loc,I.cell,I.free,I.freeC,I.pin,I.hok,I.len⟩
theorem SP.unwish {D:Ends}{f:Flow}{s':Shared}(h:SP (X.wish E) pins D f s'):SP X pins D f s':=by
 cases f with
 | next=>obtain⟨σ',H',I,q⟩:=h;exact⟨σ',H',I.unwish,q⟩
 | brk=>obtain⟨σ',H',I,q⟩:=h;exact⟨σ',H',I.unwish,q⟩
 | cont=>obtain⟨σ',H',I,q⟩:=h;exact⟨σ',H',I.unwish,q⟩
 | ret u=>obtain⟨v,σ',H',I,r,q⟩:=h;exact⟨v,σ',H',I.unwish,r,q⟩
theorem PSs.nox {st:List Stmt}{t:TS}(h:PSs X.nox st t):PSs X st t:=λpins s σ H D I hw=>
 wpAny_mono (h pins s σ H D (I.wish _) hw) (λ_ _ q=>q.unwish) λ_ _ z=>False.elim z
end
section
variable {X:Cx}{st:Stmt}{rest:List Stmt}{t u:TS}{e:Expr}{te:TE}{pos:Pos}
def tNext:TS:=λD σ H=>D.nx σ H
def tSeq (t u:TS):TS:=λD σ H=>t { D with nx:=u D } σ H
theorem Zan:PSs X [] tNext:=λ_ _ σ H _ I h=>wpAny_execs_nil ⟨σ,H,I,h⟩
theorem Zac (h1:PS X st t)(h2:PSs X rest u):PSs X (st::rest) (tSeq t u):=by
 intro pins s σ H D I h
 refine wpAny_execs_cons (thn (h1 pins s σ H { D with nx:=u D } I h) λf s1 q=>?_)
 cases f with
 | next=>
  obtain⟨σ',H',I',q⟩:=q
  exact h2 pins s1 σ' H' D I' q
 | ret v=>exact q
 | brk=>exact q
 | cont=>exact q
theorem Zag (h1:PS X st t):PSs X [st] t:=by
 intro pins s σ H D I h
 refine wpAny_execs_cons (thn (h1 pins s σ H D I h) λf s1 q=>?_)
 cases f with
 | next=>exact wpAny_execs_nil q
 | ret v=>exact q
 | brk=>exact q
 | cont=>exact q
theorem Inv.quiet {pins:List (Addr×Obj)}{σ:St}{H:Hp}{s:Shared}(I:Inv X pins σ H s):interactive X.env=false:=by simp[interactive,I.ok.kind]
def tDrop (te:TE):TS:=λD σ H=>te σ H λ_ H1=>D.nx σ H1
theorem Zaz (he:PE X e te)(hs:swapsWith e none pos.line X.env=pure false:=by rfl):PS X (.Expr e pos) (tDrop te):=by
 intro pins s σ H D I h
 exact wpAny_Expr_any (thn (he pins s σ H _ I h) λv s1 hp0=>by obtain⟨x,H1,I1,r1,q1⟩:=hp0;exact⟨σ,H1,I1,q1⟩) I.quiet hs
def tRet (te:TE):TS:=λD σ H=>te σ H D.rt
theorem Zam (he:PE X e te):PS X (.Return (some e) pos) (tRet te):=by
 intro pins s σ H D I h
 exact wpAny_Return_some (thn (he pins s σ H _ I h) λv s1 hp0=>by obtain⟨x,H1,I1,r1,q1⟩:=hp0;exact⟨x,σ,H1,I1,r1,q1⟩)
def tIfS (c:TT)(t u:TS):TS:=λD σ H=>c σ H λb H1=>if b=true then t D σ H1 else u D σ H1
theorem Za2 {c:Expr}{a b:List Stmt}{tc:TT}(hc:PT X c tc)(ha:PSs X a t)(hb:PSs X b u):PS X (.If c a b pos) (tIfS tc t u):=by
 intro pins s σ H D I h
 refine wpAny_If (thn (hc pins s σ H _ I h) λd s1 hp0=>?_)
 obtain⟨H1,I1,q1⟩:=hp0
 cases d with
 | true=>exact ha pins s1 σ H1 D I1 q1
 | false=>exact hb pins s1 σ H1 D I1 q1
def tNever:TS:=λ_ _ _=>False
theorem Zba {sts:List Stmt}:PSs X sts tNever:=λ_ _ _ _ _ _ h=>h.elim
end
abbrev TG:=V->St->Hp->(St->Hp->Prop)->Prop
abbrev TGs:=List V->St->Hp->(St->Hp->Prop)->Prop
def PG (X:Cx)(target:Expr)(t:TG):Prop:=
 ∀(pins:List (Addr×Obj)) (s:Shared) (σ:St) (H:Hp) (v:V) (u:Value) (Q:St->Hp->Prop),Inv X pins σ H s->RelV v u->t v σ H Q ->
  wpAny (model X.prog X.w) X.A (assign target X.env u) (λ_ s'=>∃σ' H',Inv X pins σ' H' s'/\Q σ' H') X.xe s
def PGs (X:Cx)(ts:List Expr)(t:TGs):Prop:=
 ∀(pins:List (Addr×Obj)) (s:Shared) (σ:St) (H:Hp) (vs:List V) (us:List Value) (Q:St->Hp->Prop),Inv X pins σ H s->Vals vs us->t vs σ H Q ->
  wpAny (model X.prog X.w) X.A (assignInOrder ((assignEach ts X.env).map (·.2)) us) (λ_ s'=>∃σ' H',Inv X pins σ' H' s'/\Q σ' H') X.xe s
section
variable {X:Cx}{pos:Pos}
def Zgt (i:Nat):TG:=λv σ H Q=>Q (σ.set i (some v)) H
theorem Zjy {i:Nat}{x:Str}(hN:X.N.Nodup)(hi:X.N[i]? = some x)(hx:Loc X.env.scope x)(hf:X.fn x=true\/X.env.scope.names.lookup x=some .local:=by first | exact .inl rfl | exact .inr rfl | assumption):PG X (.Name x pos) (Zgt i):=by
 intro pins s σ H v u Q I r h
 exact wpAny_assign_Name (Zkg I hN hi hx r (λs' I'=>⟨_,H,I',h⟩) hf)
def gNil:TGs:=λvs σ H Q=>vs=[]/\Q σ H
inductive gCons (t:TG)(u:TGs)(vs:List V)(σ:St)(H:Hp)(Q:St->Hp->Prop):Prop
 | mk (v:_) (r:_) (c0:vs=v::r) (c1:t v σ H λσ' H'=>u r σ' H' Q):gCons t u vs σ H Q
theorem Zbw:PGs X [] gNil:=by
 intro pins s σ H vs us Q I r h
 obtain⟨e,h⟩:=h
 subst e
 cases r
 exact assignInOrder_nil ⟨σ,H,I,h⟩
theorem Zax {e:Expr}{es:List Expr}{t:TG}{u:TGs}(h1:PG X e t)(h2:PGs X es u)
  (hs:(assignEach (e::es) X.env).map (·.2)=assign e X.env::(assignEach es X.env).map (·.2):=by rfl):PGs X (e::es) (gCons t u):=by
 intro pins s σ H vs us Q I r h
 obtain⟨v,vr,e1,h⟩:=h
 subst e1
 cases r with
 | cons r rr=>
  rw[hs]
  refine assignInOrder_cons (thn (h1 pins s σ H _ _ _ I r h) λ_ s1 hp0=>?_)
  obtain⟨σ1,H1,I1,q1⟩:=hp0
  exact h2 pins s1 σ1 H1 _ _ Q I1 rr q1
inductive gTup (K:W.Frag)(n:Nat)(t:TGs)(v:V)(σ:St)(H:Hp)(Q:St->Hp->Prop):Prop
 | mk (a:_) (xs:_) (c0:v=.ref a) (c1:SqT K H a xs) (c2:xs.length=n) (c3:t xs σ H Q):gTup K n t v σ H Q
theorem Zcm {es:List Expr}{k:Nat}{t:TGs}{n:Nat}(hc:X.calm=true)(h:PGs X es t)
  (hn:(assignEach es X.env).length=n:=by rfl)(hst:(assignEach es X.env).findIdx? (·.1)=none:=by rfl):PG X (.Tuple es k pos) (gTup X.K n t):=by
 intro pins s σ H v u Q I r hw
 obtain⟨a,xs,e1,hq,hl,hw⟩:=hw
 subst e1
 cases r
 obtain⟨its,rv,ht,hz⟩:=I.tuple hq
 refine assign_Tuple_tuple (I.ok.hd hc) ht (by simp[hn,<- hl,rv.length]) hst λh' hx=>?_
 have I1:Inv X pins σ H { s with heap:=h' }:=I.kept (t':=s.toks) λb o e=>hx b o (ne_of_lt (Heap.lt_size e)) e
 exact h pins _ σ H xs _ Q I1 (by simpa using rv) hw
def tAsg (te:TE)(g:TG):TS:=λD σ H=>te σ H λx H1=>g x σ H1 D.nx
theorem Ziw {i:Nat}{x:Str}{e:Expr}{te:TE}{pos':Pos}(hN:X.N.Nodup)(hi:X.N[i]? = some x)(hx:Loc X.env.scope x)(he:PE X e te)(hs:swapsWith e (some (.Name x pos')) pos.line X.env=pure false:=by rfl)(hf:X.fn x=true\/X.env.scope.names.lookup x=some .local:=by first | exact .inl rfl | exact .inr rfl | assumption) :
  PS X (.Assign [.Name x pos'] e pos) (tAsg te (Zgt i)):=by
 intro pins s σ H D I h
 refine wpAny_Assign_Name (thn (he pins s σ H _ I h) λv s1 hp0=>?_) hs
 obtain⟨y,H1,I1,r1,q1⟩:=hp0
 exact Zkg I1 hN hi hx r1 (λs2 I2=>⟨_,H1,I2,q1⟩) hf
end
section
variable {X:Cx}{pos:Pos}
def tWhile (c:TT)(tb:TS):TS:=λD σ H=>∃W:Nat->St->Hp->Prop,(∃m,W m σ H)/\∀m σ H,W m σ H ->
 c σ H λb H1=>if b=true then ∃N:St->Hp->Prop,(∀σ' H',N σ' H'->∃m',m'<m/\W m' σ' H')/\tb { D with nx:=N,ct:=N,bk:=D.nx } σ H1 else D.nx σ H1
theorem ps_while {c:Expr}{body:List Stmt}{tc:TT}{tb:TS}(hp:PassesOwn (model X.prog X.w) X.A X.env X.xe)(hc:PT X c tc)(hb:PSs X body tb):PS X (.While c body [] pos) (tWhile tc tb):=by
 intro pins s σ H D I h
 obtain⟨W,⟨m0,w0⟩,turn⟩:=h
 refine wpAny_While (codeAny_whileLoop (λn s'=>∃σ' H',Inv X pins σ' H' s'/\W n σ' H') ?_ m0 ⟨σ,H,I,w0⟩)
 rintro n s1 ⟨σ1,H1,I1,w1⟩
 refine wpAny_passesOwn hp (thn (hc pins s1 σ1 H1 _ I1 (turn n σ1 H1 w1)) λb s2 hp0=>?_)
 obtain⟨H2,I2,q2⟩:=hp0
 cases b with
 | true=>
  obtain⟨N,hN,q2⟩:=q2
  rw[if_pos rfl]
  refine wpAny_passesOwn hp (thn (hb pins s2 σ1 H2 _ I2 q2) λf s3 q3=>?_)
  cases f with
  | next=>
   obtain⟨σ3,H3,I3,n3⟩:=q3
   obtain⟨m',hm,w3⟩:=hN σ3 H3 n3
   exact⟨m',hm,σ3,H3,I3,w3⟩
  | cont=>
   obtain⟨σ3,H3,I3,n3⟩:=q3
   obtain⟨m',hm,w3⟩:=hN σ3 H3 n3
   exact⟨m',hm,σ3,H3,I3,w3⟩
  | brk=>exact q3
  | ret v=>exact q3
 | false=>
  rw[if_neg Bool.false_ne_true]
  exact wpAny_execs_nil ⟨σ1,H2,I2,q2⟩
end
structure It where
 go:Nat->Hp->Prop
 yld:Nat->Hp->V->Hp->Prop
 stop:Nat->Hp->Prop
def FpOk (X:Cx)(pins:List (Addr×Obj))(H:Hp)(b:Addr):Prop:=
 H b=none/\b≠X.env.locals/\b∉X.fs/\(b∈X.ex\/X.s₀.heap.objs.size<=b)/\(∀x c,X.env.cells.lookup x=some c->c≠b)/\∀p∈X.pn++pins,p.1≠b
theorem Inv.fpOk {X:Cx}{pins:List (Addr×Obj)}{σ:St}{H H':Hp}{s:Shared}{b:Addr}(I:Inv X pins σ H s)(hb:s.heap.objs.size<=b)(hn:H' b=none):FpOk X pins H' b:=by
 refine⟨hn,ne_of_gt (lt_of_lt_of_le I.lt hb),I.nofs hb,.inr (le_trans I.sz hb),λx c e z=>?_,λp hp z=>?_⟩
 ·obtain⟨v,q⟩:=I.cell x c e
  exact absurd (lt_of_lt_of_le q.lt (by rw[z];exact hb)) (lt_irrefl _)
 exact absurd (lt_of_lt_of_le (Heap.lt_size (I.pin p hp).1) (by rw[z];exact hb)) (lt_irrefl _)
structure Turn (P:Program)(w:World)(K:W.Frag)(tg:Expr)(J:It)(fp:List Addr)(it:Addr)(tn:Nat->Heap->Prop):Prop where
 mem:it∈fp
 obj:∀i h,tn i h->∀b∈fp,∃o,h.get? b=some o/\∀v,o.data≠.cell v
 keep:∀i h h',tn i h->(∀b∈fp,∀o,h.get? b=some o->h'.get? b=some o)->tn i h'
 item:∀(X:Cx),X.prog=P->X.w=w->X.K=K->X.calm=true->∀(i:Nat) (pins:List (Addr×Obj)) (s:Shared) (σ:St) (H:Hp) (E:Value->Shared->Prop),Inv X pins σ H s->(∀b∈fp,FpOk X pins H b)->tn i s.heap->J.go i H ->
  wpAny (model P w) X.A (pyNext (.ref it)) (λr s1=>∃u,r=some u /\
   wpAny (model P w) X.A (letOwnedTupleGo tg (.ref it) u) (λ_ s2=>∃x H',Inv X pins σ H' s2/\RelV x u/\J.yld i H x H'/\tn (i+1) s2.heap/\∀b∈fp,H' b=none) E s1) E s
 done:∀(X:Cx),X.prog=P->X.w=w->X.K=K->X.calm=true->∀(i:Nat) (pins:List (Addr×Obj)) (s:Shared) (σ:St) (H:Hp) (E:Value->Shared->Prop),Inv X pins σ H s->(∀b∈fp,FpOk X pins H b)->tn i s.heap->J.stop i H ->
  wpAny (model P w) X.A (pyNext (.ref it)) (λr s1=>r=none/\Inv X pins σ H s1) E s
 self:∀(A:Around) (i:Nat) (s:Shared) (Q:Value->Shared->Prop) (E:Value->Shared->Prop),tn i s.heap->Q (.ref it) s->wpAny (model P w) A (pyIter (.ref it)) Q E s
abbrev TI:=St->Hp->(It->Hp->Prop)->Prop
def PIE (X:Cx)(pins:List (Addr×Obj))(σ:St)(tg:Expr)(R:It->Hp->Prop)(itv:Value)(s2:Shared):Prop:=
 ∃(it:Addr) (fp:List Addr) (tn:Nat->Heap->Prop) (J:It) (H':Hp),itv=.ref it/\Inv X pins σ H' s2/\Turn X.prog X.w X.K tg J fp it tn/\tn 0 s2.heap/\(∀b∈fp,FpOk X pins H' b)/\R J H'
def PI (X:Cx)(tg iter:Expr)(wi:TI):Prop:=
 ∀(pins:List (Addr×Obj)) (s:Shared) (σ:St) (H:Hp) (R:It->Hp->Prop),Inv X pins σ H s->wi σ H R ->
  wpAny (model X.prog X.w) X.A (eval iter X.env) (λv s1=>wpAny (model X.prog X.w) X.A (pyIter v) (PIE X pins σ tg R) X.xe s1) X.xe s
theorem Zmw {M:Model}{A:Around}{E:Value->Shared->Prop}{s:Shared}{tg:Expr}{it:Addr}{u:Value}{o:Obj}{n:String}{vs:Array Value}{Q:Unit->Shared->Prop}(ho:s.heap.get? it=some o)(hc:o.cls=.type n)(hd:o.data=.fields vs)
  (hn:["enumerate", "zip", "dict_itemiterator", "dict_reverseitemiterator", "odict_iterator", "itertools.zip_longest", "itertools.pairwise"].contains n=false)(hQ:Q () s):wpAny M A (letOwnedTupleGo tg (.ref it) u) Q E s:=by
 unfold letOwnedTupleGo
 cases tg <;> first
  | exact wpAny_pure hQ
  | (cases u <;> first
    | exact wpAny_pure hQ
    | (refine wpAny_bind (wpAny_load ho ?_)
       rw[hc,hd]
       show wpAny M A (if (["enumerate", "zip", "dict_itemiterator", "dict_reverseitemiterator", "odict_iterator", "itertools.zip_longest", "itertools.pairwise"].contains n && vs[0]? == some (rawInt _))=true then _ else _) Q E s
       rw[if_neg (by intro h;rw[hn,Bool.false_and]at h;cases h)]
       exact wpAny_pure hQ))
def Itl (K:W.Frag)(a:Addr):It:=
 ⟨λi H=>∃xs x,SqL K H a xs/\xs[i]? = some x,λi H x H'=>H'=H/\∀xs,SqL K H a xs->xs[i]? = some x,λi H=>∃xs,SqL K H a xs/\xs.length<=i⟩
def Itt (K:W.Frag)(a:Addr):It:=
 ⟨λi H=>∃xs x,SqT K H a xs/\xs[i]? = some x,λi H x H'=>H'=H/\∀xs,SqT K H a xs->xs[i]? = some x,λi H=>∃xs,SqT K H a xs/\xs.length<=i⟩
def Itr (lo:Int)(n:Nat):It:=⟨λi _=>i<n,λi H x H'=>H'=H/\x=.int (lo+i),λi _=>n<=i⟩
theorem turn_list {P:Program}{w:World}{K:W.Frag}{tg:Expr}(a it:Addr):Turn P w K tg (Itl K a) [it] it (λi h=>h.IsListIter it a i) where
 mem:=by simp
 obj:=λi h st b hb=>by
  have e:b=it:=by simpa using hb
  subst e
  obtain⟨o,e,c,d⟩:=st
  exact⟨o,e,λv z=>by rw[d]at z;cases z⟩
 keep:=λi h h' st k=>st.at λo e=>k it (by simp) o e
 item:=by
  intro X hP hw hK hc i pins s σ H E I hf st hg
  subst hP hw hK
  obtain⟨xs,x,hq,hx⟩:=hg
  obtain⟨its,rv,p,hz⟩:=I.list hq
  obtain⟨u,hu,ru⟩:=rv.get hx
  obtain⟨f0,f1,f2,f3,f4,f5⟩:=hf it (by simp)
  refine wpAny_pyNext_list_item st p.isList (x:=u) (by simpa using hu) λh' st' sb=>?_
  have I1:Inv X pins σ H { s with heap:=h' }:=I.turned (t':=s.toks) (λb o hb e=>(sb.2 b hb).trans e) f0 f1 f3 f4 f5
  obtain⟨o,e,c,d⟩:=id st'
  exact⟨u,rfl,Zmw (s:={ s with heap:=h' }) e c d (by decide) ⟨x,H,I1,ru,⟨rfl,λys hy=>by rw[I.list_inj hy hq];exact hx⟩,st',λb hb=>(hf b hb).1⟩⟩
 done:=by
  intro X hP hw hK hc i pins s σ H E I hf st hg
  subst hP hw hK
  obtain⟨xs,hq,hx⟩:=hg
  obtain⟨its,rv,p,hz⟩:=I.list hq
  obtain⟨f0,f1,f2,f3,f4,f5⟩:=hf it (by simp)
  have hl:=rv.length
  exact wpAny_pyNext_list_end (I.ok.hd hc) st p.isList (by simp;lia) λh' eb=>⟨rfl,I.turned (t':=s.toks) (λb o hb e=>eb b o hb e) f0 f1 f3 f4 f5⟩
 self:=λ_ _ _ _ _ st h=>wpAny_pyIter_listiter st h
theorem turn_tuple {P:Program}{w:World}{K:W.Frag}{tg:Expr}(a it:Addr):Turn P w K tg (Itt K a) [it] it (λi h=>h.IsTupleIter it a i) where
 mem:=by simp
 obj:=λi h st b hb=>by
  have e:b=it:=by simpa using hb
  subst e
  obtain⟨o,e,c,d⟩:=st
  exact⟨o,e,λv z=>by rw[d]at z;cases z⟩
 keep:=λi h h' st k=>st.at λo e=>k it (by simp) o e
 item:=by
  intro X hP hw hK hc i pins s σ H E I hf st hg
  subst hP hw hK
  obtain⟨xs,x,hq,hx⟩:=hg
  obtain⟨its,rv,p,hz⟩:=I.tuple hq
  obtain⟨u,hu,ru⟩:=rv.get hx
  obtain⟨f0,f1,f2,f3,f4,f5⟩:=hf it (by simp)
  refine wpAny_pyNext_tuple_item st (show s.heap.IsTuple a its.toArray from p) (x:=u) (by simpa using hu) λh' st' sb=>?_
  have I1:Inv X pins σ H { s with heap:=h' }:=I.turned (t':=s.toks) (λb o hb e=>(sb.2 b hb).trans e) f0 f1 f3 f4 f5
  obtain⟨o,e,c,d⟩:=id st'
  exact⟨u,rfl,Zmw (s:={ s with heap:=h' }) e c d (by decide) ⟨x,H,I1,ru,⟨rfl,λys hy=>by rw[I.tuple_inj hy hq];exact hx⟩,st',λb hb=>(hf b hb).1⟩⟩
 done:=by
  intro X hP hw hK hc i pins s σ H E I hf st hg
  subst hP hw hK
  obtain⟨xs,hq,hx⟩:=hg
  obtain⟨its,rv,p,hz⟩:=I.tuple hq
  obtain⟨f0,f1,f2,f3,f4,f5⟩:=hf it (by simp)
  have hl:=rv.length
  exact wpAny_pyNext_tuple_end (I.ok.hd hc) st (show s.heap.IsTuple a its.toArray from p) (by simp;lia) λh' eb=>⟨rfl,I.turned (t':=s.toks) (λb o hb e=>eb b o hb e) f0 f1 f3 f4 f5⟩
 self:=λ_ _ _ _ _ st h=>wpAny_pyIter_tupleiter st h
theorem turn_range {P:Program}{w:World}{K:W.Frag}{tg:Expr}(it:Addr)(lo:Int)(n:Nat):Turn P w K tg (Itr lo n) [it] it (λi h=>IsRangeIter h it (lo+(i:Nat)*1) ((n:Int)-(i:Nat)) 1) where
 mem:=by simp
 obj:=λi h st b hb=>by
  have e:b=it:=by simpa using hb
  subst e
  exact⟨_,st,λv z=>by
   have z':Data.fields _=Data.cell v:=z
   cases z'⟩
 keep:=λi h h' st k=>k it (by simp) _ st
 item:=by
  intro X hP hw hK hc i pins s σ H E I hf st hg
  subst hP hw hK
  obtain⟨f0,f1,f2,f3,f4,f5⟩:=hf it (by simp)
  have W:=Walks.range (prog:=X.prog) (w:=X.w) (I.ok.hd hc) it lo 1 n
  refine W.item i s _ _ hg st λv h' tk hv st' kk=>?_
  obtain⟨t,rfl⟩:=hv
  have I1:Inv X pins σ H { s with heap:=h',toks:=tk }:=I.turned (λb o hb e=>kk b o (by simpa using hb) e) f0 f1 f3 f4 f5
  refine⟨_,rfl,Zmw (s:={ s with heap:=h',toks:=tk }) (n := "range_iterator") st' rfl rfl (by decide) ⟨.int (lo+i),H,I1,⟨t,?_⟩,⟨rfl,rfl⟩,st',λb hb=>(hf b hb).1⟩⟩
  rw[Int.mul_one]
 done:=by
  intro X hP hw hK hc i pins s σ H E I hf st hg
  subst hP hw hK
  obtain⟨f0,f1,f2,f3,f4,f5⟩:=hf it (by simp)
  exact wpAny_pyNext_range_end (I.ok.hd hc) st (by have:n<=i:=hg;lia) λh' eb=>⟨rfl,I.turned (t':=s.toks) (λb o hb e=>eb b o hb e) f0 f1 f3 f4 f5⟩
 self:=λ_ _ _ _ _ st h=>wpAny_pyIter_rangeiter st h
section
variable {X:Cx}{tg:Expr}
def iList (K:W.Frag)(tl:TE):TI:=λσ H R=>tl σ H λx H1=>∃a,x=.ref a/\(∃xs,SqL K H1 a xs)/\R (Itl K a) H1
def iTup (K:W.Frag)(tl:TE):TI:=λσ H R=>tl σ H λx H1=>∃a,x=.ref a/\(∃xs,SqT K H1 a xs)/\R (Itt K a) H1
theorem Za4 {l:Expr}{tl:TE}(hl:PE X l tl):PI X tg l (iList X.K tl):=by
 intro pins s σ H R I h
 refine thn (hl pins s σ H _ I h) λv s1 hp0=>?_
 obtain⟨x,H1,I1,r1,q1⟩:=hp0
 obtain⟨a,e,⟨xs,hq⟩,q⟩:=q1
 subst e
 cases r1
 obtain⟨its,rv,p,hz⟩:=I1.list hq
 refine wpAny_pyIter_list p.isList ?_
 refine⟨s1.heap.objs.size,[s1.heap.objs.size],_,_,H1,rfl,I1.kept (t':=s1.toks) λb o e=>Heap.get?_push_of_some _ e,turn_list a _,⟨_,Heap.get?_push_size _ rfl,rfl,rfl⟩,λb hb=>?_,q⟩
 have e:b=s1.heap.objs.size:=by simpa using hb
 subst e
 exact I1.fpOk (Nat.le_refl _) (I1.hok.fresh (Nat.le_refl _))
theorem Zma {l:Expr}{tl:TE}(hl:PE X l tl):PI X tg l (iTup X.K tl):=by
 intro pins s σ H R I h
 refine thn (hl pins s σ H _ I h) λv s1 hp0=>?_
 obtain⟨x,H1,I1,r1,q1⟩:=hp0
 obtain⟨a,e,⟨xs,hq⟩,q⟩:=q1
 subst e
 cases r1
 obtain⟨its,rv,p,hz⟩:=I1.tuple hq
 refine wpAny_pyIter_tuple (show s1.heap.IsTuple a its.toArray from p) ?_
 refine⟨s1.heap.objs.size,[s1.heap.objs.size],_,_,H1,rfl,I1.kept (t':=s1.toks) λb o e=>Heap.get?_push_of_some _ e,turn_tuple a _,⟨_,Heap.get?_push_size _ rfl,rfl,rfl⟩,λb hb=>?_,q⟩
 have e:b=s1.heap.objs.size:=by simpa using hb
 subst e
 exact I1.fpOk (Nat.le_refl _) (I1.hok.fresh (Nat.le_refl _))
theorem range_it {pins:List (Addr×Obj)}{σ:St}{H:Hp}{s:Shared}{R:It->Hp->Prop}{E:Value->Shared->Prop}{lo hi:Int}{t u v:Tok}{tk:Nat}(I:Inv X pins σ H s)(h1:-(2^62)<=lo)(h2:lo<2^62)(h3:-(2^62)<=hi)(h4:hi<2^62)
  (q:R (Itr lo (hi-lo).toNat) H):wpAny (model X.prog X.w) X.A (pyIter (.ref s.heap.objs.size)) (PIE X pins σ tg R) E { s with heap:=s.heap.push { cls:=.type "range",data:=.fields #[.int lo t,.int hi u,.int 1 v] },toks:=tk }:=by
 refine wpAny_pyIter_range (IsRange.new ..) (small_one h1 h2 h3 h4) ?_
 have I1:Inv X pins σ H { s with heap:=s.heap.push { cls:=.type "range",data:=.fields #[.int lo t,.int hi u,.int 1 v] },toks:=tk }:=I.kept λb o e=>Heap.get?_push_of_some _ e
 refine⟨(s.heap.push { cls:=.type "range",data:=.fields #[.int lo t,.int hi u,.int 1 v] }).objs.size,[(s.heap.push { cls:=.type "range",data:=.fields #[.int lo t,.int hi u,.int 1 v] }).objs.size],_,_,H,rfl,
  I1.kept (t':=tk) λb o e=>Heap.get?_push_of_some _ e,turn_range _ lo (hi-lo).toNat,?_,λb hb=>?_,q⟩
 ·have e1:lo+((0:Nat):Int)*1=lo:=by simp
  have e2:(((hi-lo).toNat:Nat):Int)-((0:Nat):Int)=Builtin.Range.rangeSize lo hi 1:=by rw[rangeSize_one];split <;> lia
  show IsRangeIter _ _ (lo+((0:Nat):Int)*1) ((((hi-lo).toNat:Nat):Int)-((0:Nat):Int)) 1
  rw[e1,e2]
  exact Heap.get?_push_size _ rfl
 have e:b=(s.heap.push { cls:=.type "range",data:=.fields #[.int lo t,.int hi u,.int 1 v] }).objs.size:=by simpa using hb
 subst e
 exact I1.fpOk (Nat.le_refl _) (I1.hok.fresh (Nat.le_refl _))
def iRng1 (ta:TA):TI:=λσ H R=>ta σ H λvs H1=>∃j:Int,vs=[.int j]/\-(2^62)<=j/\j<2^62/\R (Itr 0 j.toNat) H1
theorem Zbr {a:Expr}{ta:TA}{p pos:Pos}(hg:Gl X "range")(hm:X.mg "range" = none)(ha:PA X [a] ta)(hs:starEach [a] X.env=[(false,eval a X.env)]:=by rfl):PI X tg (.Call (.Name "range" p) [a] [] pos) (iRng1 ta):=by
 intro pins s σ H R I h
 refine Call_ (Zdt I hg hm boot_range (PyProof.Rows.callWith_type1 (thn (ha pos pins s σ H _ I h) λus s1 hp0=>?_) hs rfl))
 obtain⟨vs,H1,I1,r1,q1⟩:=hp0
 obtain⟨j,e,q1,q2,q⟩:=q1
 subst e
 cases r1 with
 | cons r rr=>
  cases rr
  obtain⟨t,rfl⟩:=r
  exact call_range_1 (range_it I1 (by lia) (by lia) q1 q2 (by simpa using q))
def tFor (wi:TI)(g:TG)(tb:TS):TS:=λD σ H=>wi σ H λJ H1=>∃W:Nat->Nat->St->Hp->Prop,(∃m,W 0 m σ H1)/\∀i m σ H,W i m σ H ->
 (J.stop i H/\D.nx σ H)\/(J.go i H/\∃N:St->Hp->Prop,(∀σ' H',N σ' H'->∃m',m'<m/\W (i+1) m' σ' H')/\∀x H',J.yld i H x H'->g x σ H' λσ2 H2=>tb { D with nx:=N,ct:=N,bk:=D.nx } σ2 H2)
def Zix (fp:List Addr)(h:Heap):List (Addr×Obj):=fp.filterMap λb=>(h.get? b).map λo=>(b,o)
theorem Zdq {fp:List Addr}{h:Heap}{b:Addr}{o:Obj}(hb:b∈fp)(e:h.get? b=some o):(b,o)∈Zix fp h:=mem_filterMap.mpr ⟨b,hb,by rw[e];rfl⟩
theorem of_pinsAt {fp:List Addr}{h:Heap}{p:Addr×Obj}(hp:p∈Zix fp h):p.1∈fp/\h.get? p.1=some p.2:=by
 obtain⟨b,hb,e⟩:=mem_filterMap.mp hp
 cases q:h.get? b with
 | none=>rw[q]at e;cases e
 | some o=>
  rw[q]at e
  have e':(b,o)=p:=Option.some.inj e
  subst e'
  exact⟨hb,q⟩
theorem Inv.pinned {pins:List (Addr×Obj)}{σ:St}{H:Hp}{s:Shared}{fp:List Addr}(I:Inv X pins σ H s)(hf:∀b∈fp,FpOk X pins H b)(ho:∀b∈fp,∃o,s.heap.get? b=some o/\∀v,o.data≠.cell v):Inv X (pins++Zix fp s.heap) σ H s:=
 I.pins_of λp hp=>(mem_append.mp hp).elim (λz=>I.pin p (mem_append_right _ z)) λz=>by
  obtain⟨hb,e⟩:=of_pinsAt z
  obtain⟨f0,f1,f2,_⟩:=hf p.1 hb
  obtain⟨o,e',d⟩:=ho p.1 hb
  rw[e]at e';cases e'
  exact⟨e,f0,f1,f2,d⟩
theorem Inv.unpinned {pins pl:List (Addr×Obj)}{σ:St}{H:Hp}{s:Shared}(I:Inv X (pins++pl) σ H s):Inv X pins σ H s:=I.pins_of λp hp=>I.pin p (mem_append_right _ (mem_append_left _ hp))
theorem Zbh {iter:Expr}{body:List Stmt}{wi:TI}{g:TG}{tb:TS}{pos:Pos}(hp:PassesOwn (model X.prog X.w) X.A X.env X.xe)(hc:X.calm=true)(hi:PI X tg iter wi)(hg:PG X tg g)(hb:PSs X body tb)
  (hs:∀x,foldedSetIterable iter X.env x=pure x:=by intro _;rfl):PS X (.For tg iter body [] pos) (tFor wi g tb):=by
 intro pins s σ H D I h
 refine wpAny_For (thn (hi pins s σ H _ I h) λv s1 h1=>thn h1 λitv s2 h2=>?_) hs
 obtain⟨it,fp,tn,J,H2,e,I2,T,st2,f2,W,⟨m0,w0⟩,turn⟩:=h2
 subst e
 -- what stays true of the iterator's objects through the loop
 have stat:∀{H':Hp},(∀b∈fp,H' b=none)->∀b∈fp,FpOk X pins H' b:=λhn b hb=>⟨hn b hb,(f2 b hb).2⟩
 refine codeAny_forLoop_any (λn s'=>∃i σ' H',Inv X pins σ' H' s'/\tn i s'.heap/\(∀b∈fp,H' b=none)/\W i n σ' H') ?_ m0 ⟨0,σ,H2,I2,st2,λb hb=>(f2 b hb).1,w0⟩
 rintro n s3 ⟨i,σ3,H3,I3,st3,fr3,w3⟩
 rcases turn i n σ3 H3 w3 with⟨stop,qn⟩ | ⟨go,N,hN,step⟩
 ·refine wpAny_passesOwn hp (thn (T.done X rfl rfl rfl hc i pins s3 σ3 H3 X.xe I3 (stat fr3) st3 stop) λr s4 hp0=>?_)
  obtain⟨hr,I4⟩:=hp0
  subst hr
  exact wpAny_execs_nil ⟨σ3,H3,I4,qn⟩
 refine wpAny_passesOwn hp (thn (T.item X rfl rfl rfl hc i pins s3 σ3 H3 X.xe I3 (stat fr3) st3 go) λr s4 hp0=>?_)
 obtain⟨u,hr,h4⟩:=hp0
 subst hr
 refine wpAny_passesOwn hp (thn h4 λ_ s5 hp0=>?_)
 obtain⟨x,H5,I5,r5,y5,st5,fr5⟩:=hp0
 have I5':=I5.pinned (stat fr5) (T.obj _ _ st5)
 refine wpAny_passesOwn hp (thn (hg _ s5 σ3 H5 x u _ I5' r5 (step x H5 y5)) λ_ s6 hp0=>?_)
 obtain⟨σ6,H6,I6,q6⟩:=hp0
 refine wpAny_passesOwn hp (thn (hb _ s6 σ6 H6 _ I6 q6) λf s7 q7=>?_)
 have again:∀{σ7:St}{H7:Hp},Inv X (pins++Zix fp s5.heap) σ7 H7 s7->N σ7 H7->∃m,m<n/\∃i σ' H',Inv X pins σ' H' s7/\tn i s7.heap/\(∀b∈fp,H' b=none)/\W i m σ' H':=λ{σ7 H7} I7 n7=>by
  obtain⟨m',hm,w7⟩:=hN σ7 H7 n7
  refine⟨m',hm,i+1,σ7,H7,I7.unpinned,T.keep _ _ _ st5 λb hb o e=>(I7.pin (b,o) (mem_append_right _ (mem_append_right _ (Zdq hb e)))).1,λb hb=>?_,w7⟩
  obtain⟨o,e,d⟩:=T.obj _ _ st5 b hb
  exact(I7.pin (b,o) (mem_append_right _ (mem_append_right _ (Zdq hb e)))).2.1
 cases f with
 | next=>obtain⟨σ7,H7,I7,n7⟩:=q7;exact again I7 n7
 | cont=>obtain⟨σ7,H7,I7,n7⟩:=q7;exact again I7 n7
 | brk=>obtain⟨σ7,H7,I7,q7⟩:=q7;exact⟨σ7,H7,I7.unpinned,q7⟩
 | ret v=>obtain⟨x7,σ7,H7,I7,r7,q7⟩:=q7;exact⟨x7,σ7,H7,I7.unpinned,r7,q7⟩
end
theorem Zbc {K:W.Frag}{a:Addr}{xs:List V}{g:TG}{tb:TS}{D:Ends}{σ:St}{H:Hp}(Pv:Nat->St->Hp->Prop)(h0:Pv 0 σ H)(hl:∀i σ H,i<=xs.length->Pv i σ H->SqL K H a xs)
  (hs:∀i x σ H,xs[i]? = some x->Pv i σ H->g x σ H λσ2 H2=>tb { D with nx:=Pv (i+1),ct:=Pv (i+1),bk:=D.nx } σ2 H2)(hd:∀σ H,Pv xs.length σ H->D.nx σ H) :
  ∃W:Nat->Nat->St->Hp->Prop,(∃m,W 0 m σ H)/\∀i m σ H,W i m σ H ->
   ((Itl K a).stop i H/\D.nx σ H)\/((Itl K a).go i H/\∃N:St->Hp->Prop,(∀σ' H',N σ' H'->∃m',m'<m/\W (i+1) m' σ' H')/\∀x H',(Itl K a).yld i H x H'->g x σ H' λσ2 H2=>tb { D with nx:=N,ct:=N,bk:=D.nx } σ2 H2):=by
 refine⟨λi m σ H=>m=xs.length-i/\i<=xs.length/\Pv i σ H,⟨xs.length,by simp,zero_le _,h0⟩,?_⟩
 rintro i m σ H ⟨rfl,hi,p⟩
 have q:=hl i σ H hi p
 by_cases hlt:i<xs.length
 ·refine .inr ⟨⟨xs,xs[i],q,by simp[hlt]⟩,Pv (i+1),λσ' H' p'=>⟨xs.length-(i+1),by lia,rfl,hlt,p'⟩,λx H' y=>?_⟩
  obtain⟨e,y⟩:=y
  subst e
  exact hs i x σ _ (y xs q) p
 have e:i=xs.length:=by lia
 subst e
 exact .inl ⟨⟨xs,q,Nat.le_refl _⟩,hd σ H p⟩
theorem for_tup {K:W.Frag}{a:Addr}{xs:List V}{g:TG}{tb:TS}{D:Ends}{σ:St}{H:Hp}(Pv:Nat->St->Hp->Prop)(h0:Pv 0 σ H)(hl:∀i σ H,i<=xs.length->Pv i σ H->SqT K H a xs)
  (hs:∀i x σ H,xs[i]? = some x->Pv i σ H->g x σ H λσ2 H2=>tb { D with nx:=Pv (i+1),ct:=Pv (i+1),bk:=D.nx } σ2 H2)(hd:∀σ H,Pv xs.length σ H->D.nx σ H) :
  ∃W:Nat->Nat->St->Hp->Prop,(∃m,W 0 m σ H)/\∀i m σ H,W i m σ H ->
   ((Itt K a).stop i H/\D.nx σ H)\/((Itt K a).go i H/\∃N:St->Hp->Prop,(∀σ' H',N σ' H'->∃m',m'<m/\W (i+1) m' σ' H')/\∀x H',(Itt K a).yld i H x H'->g x σ H' λσ2 H2=>tb { D with nx:=N,ct:=N,bk:=D.nx } σ2 H2):=by
 refine⟨λi m σ H=>m=xs.length-i/\i<=xs.length/\Pv i σ H,⟨xs.length,by simp,zero_le _,h0⟩,?_⟩
 rintro i m σ H ⟨rfl,hi,p⟩
 have q:=hl i σ H hi p
 by_cases hlt:i<xs.length
 ·refine .inr ⟨⟨xs,xs[i],q,by simp[hlt]⟩,Pv (i+1),λσ' H' p'=>⟨xs.length-(i+1),by lia,rfl,hlt,p'⟩,λx H' y=>?_⟩
  obtain⟨e,y⟩:=y
  subst e
  exact hs i x σ _ (y xs q) p
 have e:i=xs.length:=by lia
 subst e
 exact .inl ⟨⟨xs,q,Nat.le_refl _⟩,hd σ H p⟩
theorem Zgu {lo:Int}{n:Nat}{g:TG}{tb:TS}{D:Ends}{σ:St}{H:Hp}(Pv:Nat->St->Hp->Prop)(h0:Pv 0 σ H)
  (hs:∀i σ H,i<n->Pv i σ H->g (.int (lo+i)) σ H λσ2 H2=>tb { D with nx:=Pv (i+1),ct:=Pv (i+1),bk:=D.nx } σ2 H2)(hd:∀σ H,Pv n σ H->D.nx σ H) :
  ∃W:Nat->Nat->St->Hp->Prop,(∃m,W 0 m σ H)/\∀i m σ H,W i m σ H ->
   ((Itr lo n).stop i H/\D.nx σ H)\/((Itr lo n).go i H/\∃N:St->Hp->Prop,(∀σ' H',N σ' H'->∃m',m'<m/\W (i+1) m' σ' H')/\∀x H',(Itr lo n).yld i H x H'->g x σ H' λσ2 H2=>tb { D with nx:=N,ct:=N,bk:=D.nx } σ2 H2):=by
 refine⟨λi m σ H=>m=n-i/\i<=n/\Pv i σ H,⟨n,by simp,zero_le _,h0⟩,?_⟩
 rintro i m σ H ⟨rfl,hi,p⟩
 by_cases hlt:i<n
 ·refine .inr ⟨hlt,Pv (i+1),λσ' H' p'=>⟨n-(i+1),by lia,rfl,hlt,p'⟩,λx H' y=>?_⟩
  obtain⟨e,y⟩:=y
  subst e y
  exact hs i σ _ hlt p
 have e:i=n:=by lia
 subst e
 exact .inl ⟨Nat.le_refl _,hd σ H p⟩
abbrev R2:=V->V->Hp->VK->Prop
def OpR (X:Cx)(f:Value->Value->Sem Value)(r:R2):Prop:=
 ∀(pins:List (Addr×Obj)) (s:Shared) (σ:St) (H:Hp) (x y:V) (v u:Value) (Q:VK),Inv X pins σ H s->RelV x v->RelV y u->r x y H Q ->
  wpAny (model X.prog X.w) X.A (f v u) (EP X pins σ Q) X.xe s
def Zcq (X:Cx)(f:Value)(r:List V->Hp->VK->Prop):Prop:=
 ∀(pins:List (Addr×Obj)) (s:Shared) (σ:St) (H:Hp) (xs:List V) (us:List Value) (Q:VK),Inv X pins σ H s->Vals xs us->r xs H Q ->
  wpAny (model X.prog X.w) X.A (call f us) (EP X pins σ Q) X.xe s
def TruR (X:Cx)(r:V->Hp->(Bool->Hp->Prop)->Prop):Prop:=
 ∀(pins:List (Addr×Obj)) (s:Shared) (σ:St) (H:Hp) (x:V) (v:Value) (Q:Bool->Hp->Prop),Inv X pins σ H s->RelV x v->r x H Q ->
  wpAny (model X.prog X.w) X.A (truthy v) (TP X pins σ Q) X.xe s
def tOp (r:R2)(ta tb:TE):TE:=λσ H Q=>ta σ H λx H1=>tb σ H1 λy H2=>r x y H2 Q
inductive rI (C:Int->Int->Prop)(g:Int->Int->V)(x:V)(y:V)(H:Hp)(Q:VK):Prop
 | mk (i:_) (j:_) (c0:x=.int i) (c1:y=.int j) (c2:C i j) (c3:Q (g i j) H):rI C g x y H Q
inductive rI0 (g:Int->Int->V)(x:V)(y:V)(H:Hp)(Q:VK):Prop
 | mk (i:_) (j:_) (c0:x=.int i) (c1:y=.int j) (c2:Q (g i j) H):rI0 g x y H Q
section
variable {X:Cx}{a b c:Expr}{ta tb tc:TE}{pos:Pos}
theorem binT (ha:PE X a ta)(hb:PE X b tb){pins:List (Addr×Obj)}{s:Shared}{σ:St}{H:Hp}{R:V->V->Hp->Prop}(I:Inv X pins σ H s)
  (h:ta σ H λx H1=>tb σ H1 λy H2=>R x y H2){Q:Value->Shared->Prop}{f:Value->Value->Sem Value}
  (hf:∀v u s2 x y H2,Inv X pins σ H2 s2->RelV x v->RelV y u->R x y H2->wpAny (model X.prog X.w) X.A (f v u) Q X.xe s2) :
  wpAny (model X.prog X.w) X.A (eval a X.env) (λv s₁=>wpAny (model X.prog X.w) X.A (eval b X.env) (λu s₂=>wpAny (model X.prog X.w) X.A (f v u) Q X.xe s₂) X.xe s₁) X.xe s:=by
 refine thn (ha pins s σ H _ I h) λv s1 hp0=>?_
 obtain⟨x,H1,I1,r1,q1⟩:=hp0
 refine thn (hb pins s1 σ H1 _ I1 q1) λu s2 hp0=>?_
 obtain⟨y,H2,I2,r2,q2⟩:=hp0
 exact hf v u s2 x y H2 I2 r1 r2 q2
theorem Zau {op:Operator}{r:R2}(ho:OpR X (binaryOp op) r)(ha:PE X a ta)(hb:PE X b tb):PE X (.BinOp a op b pos) (tOp r ta tb):=by
 intro pins s σ H Q I h
 exact wpAny_BinOp (binT ha hb I h λv u s2 x y H2 I2 rx ry q=>ho pins s2 σ H2 x y v u Q I2 rx ry q)
theorem opI {f:Value->Value->Sem Value}{C:Int->Int->Prop}{g:Int->Int->Int}
  (rule:∀(i j:Int) (t u:Tok) (s:Shared) (Q:Value->Shared->Prop) (E:Value->Shared->Prop),C i j->Q (.int (g i j) s.toks) { s with toks:=s.toks+1 }->wpAny (model X.prog X.w) X.A (f (.int i t) (.int j u)) Q E s) :
  OpR X f (rI C λi j=>.int (g i j)):=by
 intro pins s σ H x y v u Q I rx ry h
 obtain⟨i,j,rfl,rfl,hc,q⟩:=h
 obtain⟨t,rfl⟩:=rx
 obtain⟨t',rfl⟩:=ry
 exact rule i j t t' s _ _ hc ⟨.int (g i j),H,I.tok _,⟨_,rfl⟩,q⟩
theorem opI0 {f:Value->Value->Sem Value}{g:Int->Int->Int}
  (rule:∀(i j:Int) (t u:Tok) (s:Shared) (Q:Value->Shared->Prop) (E:Value->Shared->Prop),Q (.int (g i j) s.toks) { s with toks:=s.toks+1 }->wpAny (model X.prog X.w) X.A (f (.int i t) (.int j u)) Q E s) :
  OpR X f (rI0 λi j=>.int (g i j)):=by
 intro pins s σ H x y v u Q I rx ry h
 obtain⟨i,j,rfl,rfl,q⟩:=h
 obtain⟨t,rfl⟩:=rx
 obtain⟨t',rfl⟩:=ry
 exact rule i j t t' s _ _ ⟨.int (g i j),H,I.tok _,⟨_,rfl⟩,q⟩
theorem opB0 {f:Value->Value->Sem Value}{g:Int->Int->Bool}
  (rule:∀(i j:Int) (t u:Tok) (s:Shared) (Q:Value->Shared->Prop) (E:Value->Shared->Prop),Q (.bool (g i j)) s->wpAny (model X.prog X.w) X.A (f (.int i t) (.int j u)) Q E s) :
  OpR X f (rI0 λi j=>.bl (g i j)):=by
 intro pins s σ H x y v u Q I rx ry h
 obtain⟨i,j,rfl,rfl,q⟩:=h
 obtain⟨t,rfl⟩:=rx
 obtain⟨t',rfl⟩:=ry
 exact rule i j t t' s _ _ ⟨.bl (g i j),H,I,rfl,q⟩
def CPow (i j:Int):Prop:=0<=j/\j<=1000000/\i.natAbs<2^64
def CMul (i j:Int):Prop:=(-(2^64)<i/\i<2^64)\/(-(2^64)<j/\j<2^64)
theorem CMul.ok {i j:Int}(h:CMul i j):IntMulOk i j:=by
 rcases h with⟨h1,h2⟩ | ⟨h1,h2⟩
 ·exact .of_left (intBits_le_64 h1 h2)
 exact .of_right (intBits_le_64 h1 h2)
theorem two_pow_nn (k:Nat):(0:Int)<=2^k:=by
 rw[two_pow_cast]
 exact Int.natCast_nonneg _
theorem Zbo:OpR X (binaryOp .Add) (rI0 λi j=>.int (i+j)):=opI0 λ_ _ _ _ _ _ _ q=>add_int q
theorem Zhe:OpR X (binaryOp .Sub) (rI0 λi j=>.int (i-j)):=opI0 λ_ _ _ _ _ _ _ q=>sub_int q
theorem Zcg:OpR X (binaryOp .Mult) (rI CMul λi j=>.int (i*j)):=opI λ_ _ _ _ _ _ _ hc q=>mul_int q hc.ok
theorem Zeo:OpR X (binaryOp .Mod) (rI (λ_ j=>0<j) λi j=>.int (i % j)):=opI λi j _ _ _ _ _ hc q=>by
 have h1:(0:Int)<j:=hc
 exact mod_int' (by lia) (by rw[Int.fmod_eq_emod_of_nonneg i (by lia)];exact q)
theorem op_pow:OpR X (binaryOp .Pow) (rI CPow λi j=>.int (i^j.toNat)):=opI λ_ _ _ _ _ _ _ hc q=>pow_int_small hc.1 hc.2.1 hc.2.2 q
theorem Zff:OpR X (binaryOp .LShift) (rI CPow λi j=>.int (i*2^j.toNat)):=opI λ_ _ _ _ _ _ _ hc q=>lshift_int_small hc.1 hc.2.1 hc.2.2 q
theorem Zk2:OpR X (binaryOp .RShift) (rI (λ_ j=>0<=j) λi j=>.int (i / 2^j.toNat)):=opI λi j _ _ _ _ _ hc q=>
 rshift_int hc (by rw[Int.fdiv_eq_ediv_of_nonneg i (two_pow_nn _)];exact q)
theorem Zfg:OpR X (binaryOp .BitAnd) (rI0 λi j=>.int (Builtin.bitAnd i j)):=opI0 λ_ _ _ _ _ _ _ q=>and_int q
theorem Zh7:OpR X (binaryOp .BitOr) (rI0 λi j=>.int (Builtin.bitOr i j)):=opI0 λ_ _ _ _ _ _ _ q=>or_int q
theorem op_xor:OpR X (binaryOp .BitXor) (rI0 λi j=>.int (Builtin.bitXor i j)):=opI0 λ_ _ _ _ _ _ _ q=>xor_int q
end
def scal:V->V->Bool
 | .non,.non=>true | .non,.int _=>true | .int _,.non=>true | .non,.bl _=>true | .bl _,.non=>true | .non,.str _=>true | .str _,.non=>true
 | .int _,.int _=>true | .bl _,.bl _=>true | .str _,.str _=>true | .byt _,.byt _=>true
 | .int _,.str _=>true | .str _,.int _=>true | .bl _,.str _=>true | .str _,.bl _=>true
 | _,_=>false
def rEq:R2:=λx y H Q=>scal x y=true/\Q (.bl (decide (x=y))) H
def rNe:R2:=λx y H Q=>scal x y=true/\Q (.bl (!decide (x=y))) H
theorem Zm4 {i j:Int}:decide (V.int i=V.int j)=(i == j):=by
 rw[Bool.eq_iff_iff]
 simp
theorem Zoh {i j:Bool}:decide (V.bl i=V.bl j)=(i == j):=by
 rw[Bool.eq_iff_iff]
 simp
theorem Zm3 {i j:Str}:decide (V.str i=V.str j)=(i == j):=by
 rw[Bool.eq_iff_iff]
 simp
theorem Zm5 {i j:Array UInt8}:decide (V.byt i=V.byt j)=(i.toList == j.toList):=by
 rw[Bool.eq_iff_iff]
 cases i
 cases j
 simp
section
variable {X:Cx}{a b c:Expr}{ta tb tc:TE}{pos:Pos}
theorem Za9 {pins:List (Addr×Obj)}{σ:St}{H:Hp}{s:Shared}{Q:VK}{k k':Bool}(I:Inv X pins σ H s)(q:Q (.bl k) H)(e:k=k'):EP X pins σ Q (.bool k') s:=by
 subst e
 exact⟨.bl k,H,I,rfl,q⟩
theorem Zbt:OpR X (compareOp .Eq) rEq:=by
 intro pins s σ H x y v u Q I rx ry h
 obtain⟨hs,q⟩:=h
 cases x with
 | non=>
  cases rx
  cases y with
  | non=>cases ry;exact PySem.EqNone.eq_none_none (Za9 I q (by simp))
  | bl j=>cases ry;exact PySem.EqNone.eq_none_bool (Za9 I q (by simp))
  | int j=>obtain⟨t',rfl⟩:=ry;exact PySem.EqNone.eq_none_int (Za9 I q (by simp))
  | str j=>obtain⟨t',rfl⟩:=ry;exact PySem.EqNone.eq_none_str (Za9 I q (by simp))
  | _=>exact absurd (show false=true from hs) Bool.false_ne_true
 | bl i=>
  cases rx
  cases y with
  | non=>cases ry;exact PySem.EqNone.eq_bool_none (Za9 I q (by simp))
  | bl j=>cases ry;exact eq_bool (Za9 I q Zoh)
  | str j=>obtain⟨t',rfl⟩:=ry;exact PySem.EqMixed.eq_bool_str (Za9 I q (by simp))
  | _=>exact absurd (show false=true from hs) Bool.false_ne_true
 | int i=>
  obtain⟨t,rfl⟩:=rx
  cases y with
  | non=>cases ry;exact PySem.EqNone.eq_int_none (Za9 I q (by simp))
  | int j=>obtain⟨t',rfl⟩:=ry;exact eq_int (Za9 I q Zm4)
  | str j=>obtain⟨t',rfl⟩:=ry;exact PySem.EqMixed.eq_int_str (Za9 I q (by simp))
  | _=>exact absurd (show false=true from hs) Bool.false_ne_true
 | str i=>
  obtain⟨t,rfl⟩:=rx
  cases y with
  | non=>cases ry;exact PySem.EqNone.eq_str_none (Za9 I q (by simp))
  | bl j=>cases ry;exact PySem.EqMixed.eq_str_bool (Za9 I q (by simp))
  | int j=>obtain⟨t',rfl⟩:=ry;exact PySem.EqMixed.eq_str_int (Za9 I q (by simp))
  | str j=>obtain⟨t',rfl⟩:=ry;exact eq_str (Za9 I q Zm3)
  | _=>exact absurd (show false=true from hs) Bool.false_ne_true
 | byt i=>
  obtain⟨t,rfl⟩:=rx
  cases y with
  | byt j=>obtain⟨t',rfl⟩:=ry;exact PySem.W.eq_bytes (Za9 I q Zm5)
  | _=>exact absurd (show false=true from hs) Bool.false_ne_true
 | _=>cases y <;> exact absurd (show false=true from hs) Bool.false_ne_true
theorem Zh8:OpR X (compareOp .NotEq) rNe:=by
 intro pins s σ H x y v u Q I rx ry h
 obtain⟨hs,q⟩:=h
 cases x with
 | non=>
  cases rx
  cases y with
  | non=>cases ry;exact PySem.EqNone.ne_none_none (Za9 I q (by simp))
  | bl j=>cases ry;exact PySem.EqNone.ne_none_bool (Za9 I q (by simp))
  | int j=>obtain⟨t',rfl⟩:=ry;exact PySem.EqNone.ne_none_int (Za9 I q (by simp))
  | str j=>obtain⟨t',rfl⟩:=ry;exact PySem.EqNone.ne_none_str (Za9 I q (by simp))
  | _=>exact absurd (show false=true from hs) Bool.false_ne_true
 | bl i=>
  cases rx
  cases y with
  | non=>cases ry;exact PySem.EqNone.ne_bool_none (Za9 I q (by simp))
  | bl j=>cases ry;exact ne_bool (Za9 I q (congrArg not Zoh))
  | str j=>obtain⟨t',rfl⟩:=ry;exact PySem.EqMixed.ne_bool_str (Za9 I q (by simp))
  | _=>exact absurd (show false=true from hs) Bool.false_ne_true
 | int i=>
  obtain⟨t,rfl⟩:=rx
  cases y with
  | non=>cases ry;exact PySem.EqNone.ne_int_none (Za9 I q (by simp))
  | int j=>obtain⟨t',rfl⟩:=ry;exact ne_int (Za9 I q (congrArg not Zm4))
  | str j=>obtain⟨t',rfl⟩:=ry;exact PySem.EqMixed.ne_int_str (Za9 I q (by simp))
  | _=>exact absurd (show false=true from hs) Bool.false_ne_true
 | str i=>
  obtain⟨t,rfl⟩:=rx
  cases y with
  | non=>cases ry;exact PySem.EqNone.ne_str_none (Za9 I q (by simp))
  | bl j=>cases ry;exact PySem.EqMixed.ne_str_bool (Za9 I q (by simp))
  | int j=>obtain⟨t',rfl⟩:=ry;exact PySem.EqMixed.ne_str_int (Za9 I q (by simp))
  | str j=>obtain⟨t',rfl⟩:=ry;exact ne_str (Za9 I q (congrArg not Zm3))
  | _=>exact absurd (show false=true from hs) Bool.false_ne_true
 | byt i=>
  obtain⟨t,rfl⟩:=rx
  cases y with
  | byt j=>obtain⟨t',rfl⟩:=ry;exact PySem.W.ne_bytes (Za9 I q (congrArg not Zm5))
  | _=>exact absurd (show false=true from hs) Bool.false_ne_true
 | _=>cases y <;> exact absurd (show false=true from hs) Bool.false_ne_true
theorem Zmn:OpR X (compareOp .Lt) (rI0 λi j=>.bl (decide (i<j))):=opB0 λ_ _ _ _ _ _ _ q=>lt_int q
theorem Zj7:OpR X (compareOp .LtE) (rI0 λi j=>.bl (decide (i<=j))):=opB0 λ_ _ _ _ _ _ _ q=>le_int q
theorem Zmo:OpR X (compareOp .Gt) (rI0 λi j=>.bl (decide (j<i))):=opB0 λ_ _ _ _ _ _ _ q=>gt_int q
theorem Zi3:OpR X (compareOp .Is) (λx y H Q=>y=.non/\Q (.bl (decide (x=.non))) H):=by
 intro pins s σ H x y v u Q I rx ry h
 obtain⟨rfl,q⟩:=h
 cases ry
 refine is_none_gen (Za9 I q ?_)
 cases x <;> first
  | (cases rx;rfl)
  | (obtain⟨t,rfl⟩:=rx;rfl)
theorem Zgn:OpR X (compareOp .IsNot) (λx y H Q=>y=.non/\Q (.bl (!decide (x=.non))) H):=by
 intro pins s σ H x y v u Q I rx ry h
 obtain⟨rfl,q⟩:=h
 cases ry
 refine isnot_none_gen (Za9 I q ?_)
 cases x <;> first
  | (cases rx;rfl)
  | (obtain⟨t,rfl⟩:=rx;rfl)
theorem Zar (b:Expr){op:CmpOp}(h:op≠.In:=by decide)(h2:op≠.NotIn:=by decide):behindInMarks op b=false:=by
 have e1:(op == CmpOp.In)=false:=by cases op <;> first | rfl | exact absurd rfl h
 have e2:(op == CmpOp.NotIn)=false:=by cases op <;> first | rfl | exact absurd rfl h2
 cases b <;> simp[behindInMarks,e1,e2]
theorem Zmb {op:CmpOp}{r:R2}(ho:OpR X (compareOp op) r)(ha:PE X a ta)(hb:PE X b tb)(hm:behindInMarks op b=false):PE X (.Compare a [op] [b] pos) (tOp r ta tb):=by
 intro pins s σ H Q I h
 exact wpAny_Compare1 (binT ha hb I h λv u s2 x y H2 I2 rx ry q=>ho pins s2 σ H2 x y v u Q I2 rx ry q) hm
inductive isB (Q:Bool->Hp->Prop)(x:V)(H':Hp):Prop
 | mk (k:_) (c0:x=.bl k) (c1:Q k H'):isB Q x H'
def tTest (t:TE):TT:=λσ H Q=>t σ H λx H'=>isB Q x H'
theorem Zao {op:CmpOp}{r:R2}(ho:OpR X (compareOp op) r)(ha:PE X a ta)(hb:PE X b tb)(hm:behindInMarks op b=false):PT X (.Compare a [op] [b] pos) (tTest (tOp r ta tb)):=by
 intro pins s σ H Q I h
 refine wpAny_isTrue_Compare1 (thn (ha pins s σ H _ I h) λv s1 ⟨x,H1,I1,r1,q1⟩=>thn (hb pins s1 σ H1 _ I1 q1) λu s2 ⟨y,H2,I2,r2,q2⟩=>
  thn (ho pins s2 σ H2 x y v u _ I2 r1 r2 q2) λc s3 ⟨z,H3,I3,r3,k,e,q3⟩=>?_) hm
 subst e
 cases r3
 exact wpAny_truthy_bool ⟨H3,I3,q3⟩
def Znw (r r':R2)(ta tb tc:TE):TE:=λσ H Q=>ta σ H λx H1=>tb σ H1 λy H2=>r x y H2 λz H3=>∃k,z=.bl k /\
 (if k=true then tc σ H3 λw' H4=>r' y w' H4 Q else Q (.bl false) H3)
theorem pe_chain {op op':CmpOp}{r r':R2}(ho:OpR X (compareOp op) r)(ho':OpR X (compareOp op') r')(ha:PE X a ta)(hb:PE X b tb)(hc:PE X c tc)
  (hm:lastMarks [op,op'] [b,c]=false:=by with_unfolding_all rfl):PE X (.Compare a [op,op'] [b,c] pos) (Znw r r' ta tb tc):=by
 intro pins s σ H Q I h
 refine Compare_chain (thn (ha pins s σ H _ I h) λv s1 ⟨x,H1,I1,r1,q1⟩=>chain_link (thn (hb pins s1 σ H1 _ I1 q1) λu s2 ⟨y,H2,I2,r2,q2⟩=>
  thn (ho pins s2 σ H2 x y v u _ I2 r1 r2 q2) λd s3 ⟨z,H3,I3,r3,k,e,q3⟩=>?_)) hm
 subst e
 cases r3
 refine wpAny_truthy_bool ?_
 cases k with
 | false=>exact ite_ff ⟨.bl false,H3,I3,rfl,q3⟩
 | true=>exact ite_tt (chain_last (thn (hc pins s3 σ H3 _ I3 q3) λw' s4 hp0=>by obtain⟨z',H4,I4,r4,q4⟩:=hp0;exact ho' pins s4 σ H4 y z' u w' Q I4 r2 r4 q4))
theorem Zhu {op op':CmpOp}{r r':R2}(ho:OpR X (compareOp op) r)(ho':OpR X (compareOp op') r')(ha:PE X a ta)(hb:PE X b tb)(hc:PE X c tc)
  (hm:lastMarks [op,op'] [b,c]=false:=by with_unfolding_all rfl):PT X (.Compare a [op,op'] [b,c] pos) (tTest (Znw r r' ta tb tc)):=by
 intro pins s σ H Q I h
 refine isTrue_chain (thn (ha pins s σ H _ I h) λv s1 ⟨x,H1,I1,r1,q1⟩=>test_link (thn (hb pins s1 σ H1 _ I1 q1) λu s2 ⟨y,H2,I2,r2,q2⟩=>
  thn (ho pins s2 σ H2 x y v u _ I2 r1 r2 q2) λd s3 ⟨z,H3,I3,r3,k,e,q3⟩=>?_)) hm
 subst e
 cases r3
 refine wpAny_truthy_bool ?_
 cases k with
 | false=>
  obtain⟨k',e',q'⟩:=q3
  cases e'
  exact ite_ff ⟨H3,I3,q'⟩
 | true=>
  refine ite_tt (test_last (thn (hc pins s3 σ H3 _ I3 q3) λw' s4 hp0=>?_))
  obtain⟨z',H4,I4,r4,q4⟩:=hp0
  refine thn (ho' pins s4 σ H4 y z' u w' _ I4 r2 r4 q4) λd' s5 hp1=>?_
  obtain⟨z2,H5,I5,r5,k2,e2,q5⟩:=hp1
  subst e2
  cases r5
  exact wpAny_truthy_bool ⟨H5,I5,q5⟩
def TruV (K:W.Frag)(x:V)(H:Hp)(k:Bool):Prop:=
 match x with
 | .non=>k=false
 | .bl b=>k=b
 | .int i=>k=(i != 0)
 | .str y=>y.length<=sizeLine/\k=((y.length:Int) != 0)
 | .byt y=>y.size<=sizeLine/\k=((y.size:Int) != 0)
 | .ref p=>(∃xs,SqL K H p xs/\k=!xs.isEmpty)\/(∃xs,SqT K H p xs/\k=!xs.isEmpty)\/∃kvs,H p=some (.dK kvs)/\k=!kvs.isEmpty
 | _=>False
theorem isEmpty_kv {κ:Type}{kvs:List (κ×V)}{vs:List (κ×Value)}(r:KV kvs vs):(!vs.isEmpty)=!kvs.isEmpty:=by
 cases r <;> rfl
theorem Zhh {xs:List V}{its:List Value}(r:Vals xs its):(!its.toArray.isEmpty)=!xs.isEmpty:=by
 cases r <;> simp
theorem Zi6:(sizeLine:Nat)<2^63:=by rw[sizeLine_eq];decide
theorem tru_ok:TruR X (λx H Q=>∃k,TruV X.K x H k/\Q k H):=by
 intro pins s σ H x v Q I rx h
 obtain⟨k,e,q⟩:=h
 have hl:=Zi6
 have hs:sizeLine=16777216:=sizeLine_eq
 cases x with
 | non=>
  cases rx
  have e':k=false:=e
  subst e'
  exact truthy_none ⟨H,I,q⟩
 | bl b=>
  cases rx
  have e':k=b:=e
  subst e'
  exact wpAny_truthy_bool ⟨H,I,q⟩
 | int i=>
  obtain⟨t,rfl⟩:=rx
  have e':k=(i != 0):=e
  subst e'
  exact PySem.P.truthy_int ⟨H,I,q⟩
 | str y=>
  obtain⟨t,rfl⟩:=rx
  obtain⟨hy,e'⟩:y.length<=sizeLine/\k=((y.length:Int) != 0):=e
  subst e'
  exact PySem.P.truthy_str (by lia) ⟨H,I.tok _,q⟩
 | byt y=>
  obtain⟨t,rfl⟩:=rx
  obtain⟨hy,e'⟩:y.size<=sizeLine/\k=((y.size:Int) != 0):=e
  subst e'
  exact PySem.W.truthy_bytes (by lia) ⟨H,I.tok _,q⟩
 | ref p=>
  cases rx
  have e':(∃xs,SqL X.K H p xs/\k=!xs.isEmpty)\/(∃xs,SqT X.K H p xs/\k=!xs.isEmpty)\/∃kvs,H p=some (.dK kvs)/\k=!kvs.isEmpty:=e
  rcases e' with⟨xs,hx,e'⟩ | ⟨xs,hx,e'⟩ | ⟨kvs,hx,e'⟩
  ·subst e'
   obtain⟨its,r,pl,hz⟩:=I.list hx
   have hlen:=r.length
   exact wpAny_truthy_list pl.isList (by simp only[size_toArray];lia) ⟨H,I.tok _,by rw[Zhh r];exact q⟩
  ·subst e'
   obtain⟨its,r,pl,hz⟩:=I.tuple hx
   have hlen:=r.length
   exact truthy_tuple pl (by simp only[size_toArray];lia) ⟨H,I.tok _,by rw[Zhh r];exact q⟩
  subst e'
  obtain⟨hz,hS,vs,r,m⟩:kvs.length<=sizeLine/\(p == sysModules)=false/\∃vs,KV kvs vs/\s.heap.DictOf (Za0 X.prog X.w) p vs:=I.hok p _ hx
  have hlen:kvs.length=vs.length:=Paired.length r
  exact wpAny_truthy_dict hS m (by lia) ⟨H,I.tok _,by rw[isEmpty_kv r];exact q⟩
 | _=>exact(show False from e).elim
inductive rAddS (x y:V)(H:Hp)(Q:VK):Prop
 | mk (i:_) (j:_) (c0:x=.str i) (c1:y=.str j) (c2:i.length+j.length<=sizeLine) (c3:Q (.str (i++j)) H):rAddS x y H Q
theorem Ze2:OpR X (binaryOp .Add) rAddS:=by
 intro pins s σ H x y v u Q I rx ry h
 obtain⟨i,j,rfl,rfl,hz,q⟩:=h
 obtain⟨t,rfl⟩:=rx
 obtain⟨t',rfl⟩:=ry
 exact add_str (λt' tk=>⟨.str (i++j),H,I.tok _,⟨_,rfl⟩,q⟩) hz
theorem Zc5 {x:V}{us:List Value}(r:Vals [x] us):∃u,us=[u]/\RelV x u:=by
 cases r with
 | cons r1 r2=>cases r2;exact⟨_,rfl,r1⟩
theorem Zlr {x y:V}{us:List Value}(r:Vals [x,y] us):∃u w',us=[u,w']/\RelV x u/\RelV y w':=by
 cases r with
 | cons r1 r2=>
  cases r2 with
  | cons r3 r4=>cases r4;exact⟨_,_,rfl,r1,r3⟩
def LenV (K:W.Frag)(x:V)(H:Hp)(n:Nat):Prop:=
 match x with
 | .str y=>y.length<=sizeLine/\n=y.length
 | .byt y=>y.size<=sizeLine/\n=y.size
 | .ref p=>(∃xs,SqL K H p xs/\n=xs.length)\/∃xs,SqT K H p xs/\n=xs.length
 | _=>False
inductive rLen (K:W.Frag)(xs:List V)(H:Hp)(Q:VK):Prop
 | mk (x:_) (n:_) (c0:xs=[x]) (c1:LenV K x H n) (c2:Q (.int n) H):rLen K xs H Q
theorem Za8:Zcq X (.builtin "len") (rLen X.K):=by
 intro pins s σ H xs us Q I r h
 obtain⟨x,n,rfl,e,q⟩:=h
 obtain⟨u,rfl,rx⟩:=Zc5 r
 have hl:=Zi6
 have hs:sizeLine=16777216:=sizeLine_eq
 cases x with
 | str y=>
  obtain⟨t,rfl⟩:=rx
  obtain⟨hy,e'⟩:y.length<=sizeLine/\n=y.length:=e
  subst e'
  exact len_str (by lia) ⟨.int _,H,I.tok _,⟨_,rfl⟩,q⟩
 | byt y=>
  obtain⟨t,rfl⟩:=rx
  obtain⟨hy,e'⟩:y.size<=sizeLine/\n=y.size:=e
  subst e'
  exact PySem.W.len_bytes (by lia) ⟨.int _,H,I.tok _,⟨_,rfl⟩,q⟩
 | ref p=>
  cases rx
  have e':(∃xs,SqL X.K H p xs/\n=xs.length)\/∃xs,SqT X.K H p xs/\n=xs.length:=e
  rcases e' with⟨xs,hx,e'⟩ | ⟨xs,hx,e'⟩
  ·subst e'
   obtain⟨its,r',pl,hz⟩:=I.list hx
   have hlen:=r'.length
   exact Calls.call_len_list pl.isList (by simp only[size_toArray];lia) ⟨.int xs.length,H,I.tok _,⟨_,by simp only[size_toArray];rw[hlen]⟩,q⟩
  subst e'
  obtain⟨its,r',pl,hz⟩:=I.tuple hx
  have hlen:=r'.length
  exact len_tuple pl (by simp only[size_toArray];lia) ⟨.int xs.length,H,I.tok _,⟨_,by simp only[size_toArray];rw[hlen]⟩,q⟩
 | _=>exact(show False from e).elim
end
structure ObjM (h:Heap)(x dx C:Addr)(mA:Str->Option Value):Prop where
 obj:h.get? x=some (PySem.W.instObj C dx)
 ns:h.Ns1 dx mA
 ne:dx≠x
theorem lookIn_ns {h:Heap}{dx:Addr}{mA:Str->Option Value}(n:h.Ns1 dx mA):∃od,h.get? dx=some od/\∀name,PySem.W.lookIn name od=some (mA name):=by
 obtain⟨o,es,ep,ho,hd,hk,_,hm⟩:=n
 refine⟨o,ho,λname=>?_⟩
 have e:=hm name
 unfold nsFind findBy at e
 rw[<- Array.find?_toList]at e
 unfold PySem.W.lookIn
 rw[hd]
 dsimp only
 split
 ·rename_i y q
  rw[q]at e
  exact congrArg some e
 rename_i q
 rw[q]at e
 have a:es.toList.any (·.refKey)=false:=by
  rw[any_eq_false]
  intro y hy
  obtain⟨z,t,hkey⟩:=hk y (Array.mem_toList_iff.mp hy)
  simp[DictEntry.refKey,hkey]
 have a':¬es.toList.any (·.refKey)=true:=by rw[a];exact Bool.false_ne_true
 rw[if_neg a']
 exact congrArg some e
theorem ObjM.look {h:Heap}{x dx C:Addr}{mA:Str->Option Value}(I:ObjM h x dx C mA):∃od,PySem.W.InstAt h x (PySem.W.instObj C dx) C (some od)/\∀name,PySem.W.lookIn name od=some (mA name):=
 let ⟨od,ho,hl⟩:=lookIn_ns I.ns
 ⟨od,⟨I.obj,rfl,rfl,ho⟩,hl⟩
section
variable {prog:Program}{w:World}{A:Around}{E:Value->Shared->Prop}{s:Shared}{K:W.Frag}{x dx C f:Addr}{mA:Str->Option Value}{name:Str}{v:Value}
theorem get_map {expr:Bool}{Q:Value->Shared->Prop}(X:K.In s.heap)(I:ObjM s.heap x dx C mA)(hg:PySem.W.plainGet K C name=true)(hh:PySem.W.hasDictIn K C=true)
  (ha:PySem.W.findIn K (.ref C) name=some none)(hv:mA name=some v)(hv':PySem.W.handedIn v=true)(h:Q v { s with toks:=s.toks+1 }) :
  wpAny (model prog w) A (getAttr (.ref x) name expr) Q E s:=by
 obtain⟨od,J,hl⟩:=I.look
 exact PySem.W.get_value X J (PySem.W.plainGet_of hg).1 (PySem.W.findObj_own hh ha rfl (by rw[hl,hv])) hv' h
theorem get_meth {pl:Sem Bool}{Q:Value×List Value->Shared->Prop}(X:K.In s.heap)(I:ObjM s.heap x dx C mA)(hg:PySem.W.plainGet K C name=true)
  (hf:PySem.W.findIn K (.ref C) name=some (some (.ref f)))(ht:PySem.W.isFn K (.ref f)=true)(hv:mA name=none)(h:Q (.ref f,[.ref x]) s) :
  wpAny (model prog w) A (getMethod (.ref x) name pl) Q E s:=by
 obtain⟨od,J,hl⟩:=I.look
 exact PySem.W.method_fn X J (PySem.W.plainGet_of hg).1 (PySem.W.plainGet_of hg).2 hf (beq_iff_eq.mp ht) (by show(PySem.W.lookIn name od).map (·.isSome)=some false;rw[hl,hv];rfl) h
theorem set_map {ns:List Str}{Q:Unit->Shared->Prop}(X:K.In s.heap)(I:ObjM s.heap x dx C mA)
  (hs:PySem.W.findIn K (.ref C) "__setattr__" = some (some (.builtin "object.__setattr__")))(hp:PySem.W.plainOver K C=true)(ht:PySem.W.takerIn K C name=some none)(hh:PySem.W.hasDictIn K C=true)
  (hw:PySem.Within mA ns)(hsz:ns.length<=sizeLine)
  (h:∀h',ObjM h' x dx C (λy=>if y=name then some v else mA y)->Heap.SameBut dx s.heap h'->Q () { s with heap:=h',toks:=s.toks+2 }) :
  wpAny (model prog w) A (setAttr (.ref x) name v) Q E s:=by
 obtain⟨od,J,hl⟩:=I.look
 refine PySem.W.set_plain X J hs (PySem.W.osa_open (s:={ s with toks:=s.toks+1 }) (r:=none) X J hp ht λb=>?_)
 obtain⟨cd,hc,hd'⟩:=PySem.W.any_some hh
 have hx:s.heap.get? x=some ⟨.ref C,some dx,.plain,#[]⟩:=I.obj
 refine wpAny_bind (wpAny_pure (wpAny_bind (wpAny_bind (wpAny_loadPart hx (wpAny_bind (PySem.W.Looks.here (s:={ s with toks:=s.toks+1 }) (PySem.W.looks_clsIn X hc) ?_))))))
 rw[hd']
 refine wpAny_pure (a:=some dx) (wpAny_bind (wpAny_pure (wpAny_bind ?_)))
 refine wpAny_nsSet1 (s:={ s with toks:=s.toks+1 }) I.ns λh' hn2 hs2=>?_
 obtain⟨oD,esD,epD,hoD,hdD,hcD⟩:=hn2.count (PySem.Within.cons name v hw)
 refine wpAny_bind (wpAny_lookBehind hoD (by rw[hdD];exact pastItsLine_dict (le_trans hcD (by rw[length_cons];lia))) ?_)
 exact wpAny_pure (h _ ⟨(hs2.2 _ (Ne.symm I.ne)).trans I.obj,hn2,I.ne⟩ hs2)
theorem make_map {R:Result->Shared->Prop}{vs:List Value}{kw:List (Str×Value)}(X:K.In s.heap)(hm:PySem.W.makesIn K C=true)
  (hi:PySem.W.findIn K (.ref C) "__init__" = some (some (.ref f)))(hf:PySem.W.typeIn K (.ref f)=some (.type "function"))
  (h:codeAny (model prog w) (A.under (.builtin "type.__call__" ⟨.ref C::vs,kw⟩)) (.call (.ref f) ⟨.ref (s.heap.objs.size+1)::vs,kw⟩) (PySem.W.InitBack (s.heap.objs.size+1) R)
   { s with heap:=(s.heap.push PySem.W.emptyDict).push (PySem.W.instObj C s.heap.objs.size) }) :
  codeAny (model prog w) A (.call (.ref C) ⟨vs,kw⟩) R s:=by
 obtain⟨hh,g,d,t,os⟩:=s
 exact PySem.W.make_core (PySem.W.makes_of X hm) (PySem.W.looks_findIn X hi) (λself=>PySem.W.bind_fn X self hf) (.inl rfl) h
theorem make_map0 {R:Result->Shared->Prop}(X:K.In s.heap)(hm:PySem.W.makesIn K C=true)
  (hi:PySem.W.findIn K (.ref C) "__init__" = some (some (.builtin "object.__init__")))
  (hb:∀self,PySem.W.Looks (model prog w) s.heap (bindSpecial (.builtin "object.__init__") self) (.builtin "object.__init__",[self]))
  (h:codeAny (model prog w) (A.under (.builtin "type.__call__" ⟨[.ref C],[]⟩)) (.call (.builtin "object.__init__") ⟨[.ref (s.heap.objs.size+1)],[]⟩) (PySem.W.InitBack (s.heap.objs.size+1) R)
   { s with heap:=(s.heap.push PySem.W.emptyDict).push (PySem.W.instObj C s.heap.objs.size) }) :
  codeAny (model prog w) A (.call (.ref C) ⟨[],[]⟩) R s:=by
 obtain⟨hh,g,d,t,os⟩:=s
 exact PySem.W.make_core (PySem.W.makes_of X hm) (PySem.W.looks_findIn X hi) hb (.inr ⟨rfl,rfl⟩) h
end
def putF (f:Str)(v:V):List (Str×V)->List (Str×V)
 | []=>[(f,v)]
 | (g,x)::r=>if g=f then(g,v)::r else(g,x)::putF f v r
theorem Zai (f g:Str)(v:V):∀fs:List (Str×V),(putF f v fs).lookup g=if g=f then some v else fs.lookup g
 | []=>by
  show List.lookup g [(f,v)]=_
  by_cases h:g=f
  ·have hb:(g == f)=true:=beq_iff_eq.mpr h
   simp only[List.lookup,hb,if_pos h]
  have hb:(g == f)=false:=beq_eq_false_iff_ne.mpr h
  simp only[List.lookup,hb,if_neg h]
 | (k,x)::r=>by
  have ih:=Zai f g v r
  rw[show putF f v ((k,x)::r)=(if k=f then(k,v)::r else(k,x)::putF f v r) from rfl]
  by_cases hk:k=f
  ·rw[if_pos hk]
   by_cases h:g=k
   ·have hb:(g == k)=true:=beq_iff_eq.mpr h
    simp only[List.lookup,hb,if_pos (h.trans hk)]
   have hb:(g == k)=false:=beq_eq_false_iff_ne.mpr h
   simp only[List.lookup,hb,if_neg (λe:g=f=>h (e.trans hk.symm))]
  rw[if_neg hk]
  by_cases h:g=k
  ·have hb:(g == k)=true:=beq_iff_eq.mpr h
   simp only[List.lookup,hb,if_neg (λe:g=f=>hk (h.symm.trans e))]
  have hb:(g == k)=false:=beq_eq_false_iff_ne.mpr h
  simp only[List.lookup,hb]
  exact ih
theorem Zgq (f:Str)(v:V):∀fs:List (Str×V),f∈(putF f v fs).map (·.1)/\∀g,g∈fs.map (·.1)->g∈(putF f v fs).map (·.1)
 | []=>⟨by simp[putF],λg h=>by simp at h⟩
 | (k,x)::r=>by
  obtain⟨i1,i2⟩:=Zgq f v r
  rw[show putF f v ((k,x)::r)=(if k=f then(k,v)::r else(k,x)::putF f v r) from rfl]
  by_cases hk:k=f
  ·rw[if_pos hk]
   subst hk
   exact⟨by simp,λg h=>by simpa using h⟩
  rw[if_neg hk]
  refine⟨?_,λg h=>?_⟩
  ·rw[map_cons]
   exact mem_cons_of_mem _ i1
  rw[map_cons]at h ⊢
  rcases(mem_cons.mp h)with e | e
  ·exact mem_cons.mpr (.inl e)
  exact mem_cons_of_mem _ (i2 g e)
theorem Zgo (f:Str)(v:V):∀fs:List (Str×V),(putF f v fs).length<=fs.length+1
 | []=>by simp[putF]
 | (k,x)::r=>by
  have ih:=Zgo f v r
  rw[show putF f v ((k,x)::r)=(if k=f then(k,v)::r else(k,x)::putF f v r) from rfl]
  by_cases hk:k=f
  ·rw[if_pos hk,length_cons,length_cons];lia
  rw[if_neg hk,length_cons,length_cons];lia
theorem RelO.some_of {v:V}{o:Option Value}(r:RelO (some v) o):∃u,o=some u/\RelV v u:=by
 cases o with
 | none=>exact(show False from r).elim
 | some u=>exact⟨u,rfl,r⟩
theorem RelO.none_of {o:Option Value}(r:RelO none o):o=none:=by
 cases o with
 | none=>rfl
 | some u=>exact(show False from r).elim
theorem handed_of {v:V}{u:Value}(r:RelV v u):PySem.W.handedIn u=true:=by
 cases v with
 | non=>cases (show u=Value.none from r);rfl
 | bl b=>cases (show u=Value.bool b from r);rfl
 | int i=>obtain⟨t,e⟩:=(show ∃t,u=Value.int i t from r);cases e;rfl
 | str x=>obtain⟨t,e⟩:=(show ∃t,u=Value.str x t from r);cases e;rfl
 | byt b=>obtain⟨t,e⟩:=(show ∃t,u=Value.bytes b t from r);cases e;rfl
 | flt b=>obtain⟨t,e⟩:=(show ∃t,u=Value.float b t from r);cases e;rfl
 | ref a=>cases (show u=Value.ref a from r);rfl
 | ty n=>cases (show u=Value.type n from r);rfl
section
variable {P:Program}{w:World}{H H':Hp}{h h':Heap}{a C dx:Addr}{fs fs':List (Str×V)}
theorem Ze6 (hok:HOk P w H h)(e:H a=some (.ins C dx fs)):∃mA,ObjM h a dx C mA/\(∀f,RelO (fs.lookup f) (mA f))/\PySem.Within mA (fs.map (·.1))/\fs.length<=1000/\H dx=some (.own a):=by
 obtain⟨d,z,ne,ob,mA,n,r,q⟩:=(show ObjOk P w H h a (.ins C dx fs) from hok a _ e)
 exact⟨mA,⟨ob,n,ne⟩,r,q,z,d⟩
end
structure Cls (K:W.Frag)(C:Addr):Prop where
 pg:PySem.W.plainGet K C Str.empty=true
 hd:PySem.W.hasDictIn K C=true
 po:PySem.W.plainOver K C=true
 sa:PySem.W.findIn K (.ref C) "__setattr__" = some (some (.builtin "object.__setattr__"))
theorem Cls.get {K:W.Frag}{C:Addr}(c:Cls K C)(f:Str):PySem.W.plainGet K C f=true:=c.pg
def NoAttr (K:W.Frag)(C:Addr)(f:Str):Prop:=PySem.W.findIn K (.ref C) f=some none
theorem NoAttr.taker {K:W.Frag}{C:Addr}{f:Str}(n:NoAttr K C f):PySem.W.takerIn K C f=some none:=by
 unfold PySem.W.takerIn
 rw[show PySem.W.findIn K (.ref C) f=some none from n]
 rfl
structure Meth (K:W.Frag)(C:Addr)(m:Str)(f:Addr):Prop where
 at_:PySem.W.findIn K (.ref C) m=some (some (.ref f))
 fn:PySem.W.isFn K (.ref f)=true
 kp:PySem.W.keepIn K (.ref f)=true
section
variable {X:Cx}{pins:List (Addr×Obj)}{σ:St}{H:Hp}{s:Shared}{a C dx:Addr}{fs:List (Str×V)}{f:Str}{v:V}{A:Around}{E:Value->Shared->Prop}
theorem getattr_ok {b:Bool}{Q:Value->Shared->Prop}(I:Inv X pins σ H s)(e:H a=some (.ins C dx fs))(c:Cls X.K C)(n:NoAttr X.K C f)(l:fs.lookup f=some v)
  (h:∀u s',Inv X pins σ H s'->RelV v u->Q u s'):wpAny (model X.prog X.w) A (getAttr (.ref a) f b) Q E s:=by
 obtain⟨mA,O,r,_,_,_⟩:=Ze6 I.hok e
 obtain⟨u,hu,ru⟩:=RelO.some_of (v:=v) (o:=mA f) (by rw[<- l];exact r f)
 exact get_map I.kIn O (c.get f) c.hd n hu (handed_of ru) (h u _ (I.tok _) ru)
theorem Ze7 {m:Str}{g:Addr}{pl:Sem Bool}{Q:Value×List Value->Shared->Prop}(I:Inv X pins σ H s)(e:H a=some (.ins C dx fs))(c:Cls X.K C)(k:Meth X.K C m g)(l:fs.lookup m=none)
  (h:Q (.ref g,[.ref a]) s):wpAny (model X.prog X.w) A (getMethod (.ref a) m pl) Q E s:=by
 obtain⟨mA,O,r,_,_,_⟩:=Ze6 I.hok e
 have hn:mA m=none:=RelO.none_of (by rw[<- l];exact r m)
 exact get_meth I.kIn O (c.get m) k.at_ k.fn hn h
theorem setattr_ok {y:V}{u:Value}{Q:Unit->Shared->Prop}(I:Inv X pins σ H s)(e:H a=some (.ins C dx fs))(c:Cls X.K C)(n:NoAttr X.K C f)(hl:fs.length<1000)(ry:RelV y u)
  (h:∀s',Inv X pins σ (upd H a (.ins C dx (putF f y fs))) s'->Q () s'):wpAny (model X.prog X.w) A (setAttr (.ref a) f u) Q E s:=by
 obtain⟨mA,O,r,wi,_,ho⟩:=Ze6 I.hok e
 have hz:(fs.map (·.1)).length<=sizeLine:=by rw[length_map,sizeLine_eq];lia
 refine set_map I.kIn O c.sa c.po n.taker c.hd wi hz λh' O' sb=>h _ ?_
 have hd:∃o,h'.get? dx=some o:=let ⟨o,_,_,e',_⟩:=O'.ns;⟨o,e'⟩
 refine I.write (x:=a) (e:=dx) (by rw[e];exact True.intro) (.inr ho) (λb q hb z=>(sb.2 b hb).trans z) hd ?_
 refine⟨by rw[Zaj O.ne];exact ho,?_,O.ne,O'.obj,_,O'.ns,λg=>?_,λg hg=>?_⟩
 ·have:=Zgo f y fs;lia
 ·show RelO ((putF f y fs).lookup g) (if g=f then some u else mA g)
  rw[Zai]
  by_cases q:g=f
  ·rw[if_pos q,if_pos q];exact ry
  rw[if_neg q,if_neg q];exact r g
 by_cases q:g=f
 ·rw[q];exact(Zgq f y fs).1
 refine(Zgq f y fs).2 g (wi g λz=>hg ?_)
 show(if g=f then some u else mA g)=none
 rw[if_neg q];exact z
theorem Inv.made (I:Inv X pins σ H s):Inv X pins σ (upd (upd H s.heap.objs.size (.own (s.heap.objs.size+1))) (s.heap.objs.size+1) (.ins C s.heap.objs.size []))
  { s with heap:=(s.heap.push PySem.W.emptyDict).push (PySem.W.instObj C s.heap.objs.size) }:=by
 have e1:(s.heap.push PySem.W.emptyDict).get? s.heap.objs.size=some PySem.W.emptyDict:=Heap.get?_push_size s.heap rfl
 have e2:((s.heap.push PySem.W.emptyDict).push (PySem.W.instObj C s.heap.objs.size)).get? (s.heap.objs.size+1)=some (PySem.W.instObj C s.heap.objs.size):=by
  have:=Heap.get?_push_size (s.heap.push PySem.W.emptyDict) (o:=PySem.W.instObj C s.heap.objs.size) rfl
  rwa [Heap.size_push]at this
 have e3:(s.heap.push PySem.W.emptyDict).Ns s.heap.objs.size (λ_=>none):=⟨PySem.W.emptyDict,#[],_,e1,rfl,(λe he=>absurd he (by simp)),λ_=>rfl⟩
 have I1:=I.laid (a:=s.heap.objs.size) (o:=.own (s.heap.objs.size+1)) (h':=s.heap.push PySem.W.emptyDict) (t':=s.toks) (λb u q=>Heap.get?_push_of_some _ q) (Nat.le_refl _) ⟨_,e1⟩
 refine I1.laid (a:=s.heap.objs.size+1) (o:=.ins C s.heap.objs.size []) (t':=s.toks) (λb u q=>Heap.get?_push_of_some _ q) (le_of_eq (Heap.size_push _ _)) ?_
 have ne:s.heap.objs.size≠s.heap.objs.size+1:=ne_of_lt (lt_succ_self _)
 refine⟨by rw[Zaj ne,Zad],zero_le _,ne,e2,λ_=>none,(Heap.Ns1.of_empty e3).at λo q=>Heap.get?_push_of_some _ q,λ_=>True.intro,λy hy=>absurd rfl hy⟩
theorem attr_of {prog:Program}{w:World}{env:Env}{e:Expr}{f:Str}{pos:Pos}{s:Shared}{Q:Value->Shared->Prop}(hb:attributeBase e f env (eval e env)=eval e env)
  (h:wpAny (model prog w) A (eval e env) (λo s₁=>wpAny (model prog w) A (getAttr o f true) Q E s₁) E s):wpAny (model prog w) A (eval (.Attribute e f pos) env) Q E s:=
 Attribute_any_ h (by rw[arm_eval_Attribute,hb])
end
inductive hasF (K:W.Frag)(f:Str)(Q:VK)(x:V)(H1:Hp):Prop
 | mk (a:_) (C:_) (dx:_) (fs:_) (v:_) (c0:x=.ref a) (c1:H1 a=some (.ins C dx fs)) (c2:Cls K C) (c3:NoAttr K C f) (c4:fs.lookup f=some v) (c5:Q v H1):hasF K f Q x H1
def tFld (K:W.Frag)(ta:TE)(f:Str):TE:=λσ H Q=>ta σ H λx H1=>hasF K f Q x H1
def sFld (K:W.Frag)(ta tv:TE)(f:Str):TS:=λD σ H=>tv σ H λy H1=>ta σ H1 λx H2=>∃a C dx fs,x=.ref a/\H2 a=some (.ins C dx fs)/\Cls K C/\NoAttr K C f/\fs.length<1000 /\
 D.nx σ (upd H2 a (.ins C dx (putF f y fs)))
section
variable {X:Cx}{o e value:Expr}{f:Str}{pos pos' tpos:Pos}{ta tv:TE}
theorem Zbm (he:PE X e ta)(hb:attributeBase e f X.env (eval e X.env)=eval e X.env):PE X (.Attribute e f pos) (tFld X.K ta f):=by
 intro pins s σ H Q I h
 refine attr_of hb (thn (he pins s σ H _ I h) λu s1 hp0=>?_)
 obtain⟨x,H1,I1,rx,a,C,dx,fs,v,ex,ea,c,n,l,q⟩:=hp0
 subst ex
 obtain rfl:u=Value.ref a:=rx
 exact getattr_ok I1 ea c n l λu' s2 I2 ru=>⟨v,H1,I2,ru,q⟩
theorem Zb3 (ha:PE X o ta)(hv:PE X value tv)(hs:swapsWith value (some (.Attribute o f pos')) pos.line X.env=pure false):PS X (.Assign [.Attribute o f pos'] value pos) (sFld X.K ta tv f):=by
 intro pins s σ H D I h
 refine plainObj_wpAny_Assign_Attribute (thn (hv pins s σ H _ I h) λu s1 hp0=>?_) hs
 obtain⟨y,H1,I1,ry,q⟩:=hp0
 refine thn (ha pins s1 σ H1 _ I1 q) λov s2 hp1=>?_
 obtain⟨x,H2,I2,rx,a,C,dx,fs,ex,ea,c,n,l,q2⟩:=hp1
 subst ex
 obtain rfl:ov=Value.ref a:=rx
 exact setattr_ok I2 ea c n l ry λs3 I3=>⟨σ,_,I3,q2⟩
end
structure Room (k:Nat)(A:Around):Prop where
 hd:A.handled=none
 dp:A.depth+3*k+5<recursionLimit
 un:A.units+16*k+200<cLine
theorem Room.mono {j k:Nat}{A:Around}(r:Room k A)(h:j<=k):Room j A:=⟨r.hd,by have:=r.dp;lia,by have:=r.un;lia⟩
theorem Room.deeper {k:Nat}{A:Around}(r:Room (k+1) A)(env:Env):Room k (A.deeper env):=
 ⟨r.hd,by have:=r.dp;show A.depth+1+3*k+5<_;lia,by have:=r.un;show A.units+3+16*k+200<_;lia⟩
theorem make_depth {A:Around}{C:Addr}{us:List Value}{kw:List (Str×Value)}:(A.under (.builtin "type.__call__" ⟨.ref C::us,kw⟩)).depth=A.depth+1:=by
 first | rfl | simp[Around.under,Code.weight,Code.isCreation,Code.isGuard,Code.isCaller,Code.frames,Code.isFrame,guardIds]
theorem make_units {A:Around}{C:Addr}{us:List Value}{kw:List (Str×Value)}:(A.under (.builtin "type.__call__" ⟨.ref C::us,kw⟩)).units=A.units+1:=by
 first | rfl | simp[Around.under,Code.cUnits,Code.frames,Code.isFrame]
theorem Room.make {k:Nat}{A:Around}(r:Room (k+1) A)(C:Addr)(us:List Value)(kw:List (Str×Value)):Room k (A.under (.builtin "type.__call__" ⟨.ref C::us,kw⟩)):=
 ⟨r.hd,by have:=r.dp;rw[make_depth];lia,by have:=r.un;rw[make_units];lia⟩
theorem Room.depth {k:Nat}{A:Around}(r:Room k A):A.depth<recursionLimit:=by have:=r.dp;lia
theorem Room.units {k:Nat}{A:Around}(r:Room k A):A.units+64<cLine:=by have:=r.un;lia
def tNil:TA:=λ_ H Q=>Q [] H
def tCons (ta:TE)(tr:TA):TA:=λσ H Q=>ta σ H λx H1=>tr σ H1 λxs H2=>Q (x::xs) H2
section
variable {X:Cx}{e:Expr}{es:List Expr}{te:TE}{t:TA}{pos:Pos}
theorem Zab:PA X [] tNil:=λ_ _ _ _ H Q I h=>Calls.spliced_nil ⟨[],H,I,.nil,h⟩
theorem Zaa (ha:PE X e te)(hr:PA X es t)(hs:starEach (e::es) X.env=(false,eval e X.env)::starEach es X.env:=by rfl):PA X (e::es) (tCons te t):=by
 intro pos pins s σ H Q I h
 rw[hs]
 show wpAny _ _ (spliced ((false,eval e X.env)::backTo pos (starEach es X.env))) _ _ s
 refine Calls.spliced_cons (thn (ha pins s σ H _ I h) λu s1 hp0=>?_)
 obtain⟨x,H1,I1,r1,q1⟩:=hp0
 exact thn (hr pos pins s1 σ H1 _ I1 q1) λus s2 hp0=>by obtain⟨xs,H2,I2,r2,q2⟩:=hp0;exact⟨x::xs,H2,I2,.cons r1 r2,q2⟩
def tTup (t:TA):TE:=λσ H Q=>t σ H λxs H1=>xs.length<=sizeLine/\∀p,H1 p=none->Q (.ref p) (upd H1 p (.tup xs))
def tLst (t:TA):TE:=λσ H Q=>t σ H λxs H1=>xs.length<=sizeLine/\∀p,H1 p=none->Q (.ref p) (upd H1 p (.lst xs))
theorem Zbb {x1}(h:PA X es t):PE X (.Tuple es x1 pos) (tTup t):=by
 intro pins s σ H Q I hq
 refine wpAny_Tuple_spliced (thn (h pos pins s σ H _ I hq) λus s1 hp0=>?_)
 obtain⟨xs,H1,I1,r,z,q⟩:=hp0
 refine⟨by rw[<- r.length];exact z,?_⟩
 have hf:H1 s1.heap.objs.size=none:=I1.hok.fresh (Nat.le_refl _)
 refine⟨.ref s1.heap.objs.size,upd H1 s1.heap.objs.size (.tup xs),I1.laid (t':=s1.toks) (λb u e=>Heap.get?_push_of_some _ e) (Nat.le_refl _) ?_,rfl,q _ hf⟩
 exact⟨z,us,r,⟨_,Heap.get?_push_size _ rfl,rfl,_,rfl⟩⟩
theorem Zbs (h:PA X es t):PE X (.List es pos) (tLst t):=by
 intro pins s σ H Q I hq
 refine wpAny_List_spliced (thn (h pos pins s σ H _ I hq) λus s1 hp0=>?_)
 obtain⟨xs,H1,I1,r,z,q⟩:=hp0
 refine⟨by rw[<- r.length];exact z,?_⟩
 have hf:H1 s1.heap.objs.size=none:=I1.hok.fresh (Nat.le_refl _)
 refine⟨.ref s1.heap.objs.size,upd H1 s1.heap.objs.size (.lst xs),I1.laid (t':=s1.toks) (λb u e=>Heap.get?_push_of_some _ e) (Nat.le_refl _) ?_,rfl,q _ hf⟩
 exact⟨z,us,0,r,Heap.get?_push_size _ rfl⟩
end
abbrev Sp:=List V->Hp->VK->XK->Prop
abbrev CXT:=List Env->Hp->Shared->XK->Value->Shared->Prop
structure Env0 (P:Program)(w:World)(K:W.Frag)(mg:Str->Option Value)(base:Heap)(A:Around)(outer:List Env)(s:Shared)(H:Hp):Prop where
 frames:A.frames=some outer
 mod:Mod K mg base
 bs:∀b o,base.get? b=some o->s.heap.get? b=some o/\H b=none
 bsz:base.objs.size<=s.heap.objs.size
 funs:s.heap.FunFrames base outer
 frf:∀b∈frs outer,H b=none
 hok:HOk P w H s.heap
 bare:AllBare s.gens
def CE (outer:List Env)(P:Program)(w:World)(H:Hp)(s:Shared)(Q:VK)(u:Value)(s':Shared):Prop:=
 ∃v H',s'.os=s.os/\AllBare s'.gens/\Un (frs outer) [] H H' s.heap s'.heap/\HOk P w H' s'.heap/\RelV v u/\Q v H'
def CR (CX:CXT)(outer:List Env)(P:Program)(w:World)(H:Hp)(s:Shared)(Q:VK)(E:XK)(r:Result)(s':Shared):Prop:=
 match r with
 | .ok (.ret u)=>CE outer P w H s Q u s'
 | .ok _=>False
 | .error e=>CX outer H s E e s'
structure FnOk (P:Program)(w:World)(K:W.Frag)(mg:Str->Option Value)(base:Heap)(CX:CXT)(k:Nat)(f:Addr)(fd:FuncData)(ps:List Str)(sp:Sp):Prop where
 len:∀vs H Q E,sp vs H Q E->vs.length=ps.length
 run:∀(A:Around) (outer:List Env) (s:Shared) (H:Hp) (args:Args) (us:List Value) (vs:List V) (Q:VK) (E:XK),Room k A->Env0 P w K mg base A outer s H->BindsTo s fd args (ps.zip us)->Vals vs us->sp vs H Q E ->
  codeAny (model P w) A (.call (.ref f) args) (CR CX outer P w H s Q E) s
theorem FnOk.imp {P:Program}{w:World}{K:W.Frag}{mg:Str->Option Value}{base:Heap}{CX:CXT}{k:Nat}{f:Addr}{fd:FuncData}{ps:List Str}{sp sp':Sp}(F:FnOk P w K mg base CX k f fd ps sp)
  (h:∀vs H Q E,sp' vs H Q E->sp vs H Q E):FnOk P w K mg base CX k f fd ps sp':=
 ⟨λvs H Q E q=>F.len vs H Q E (h _ _ _ _ q),λA outer s H args us vs Q E hr he hb hv hs=>F.run A outer s H args us vs Q E hr he hb hv (h _ _ _ _ hs)⟩
theorem Env0.make {P:Program}{w:World}{K:W.Frag}{mg:Str->Option Value}{base:Heap}{A:Around}{outer:List Env}{s:Shared}{H:Hp}(e:Env0 P w K mg base A outer s H)(C:Addr)(us:List Value)(kw:List (Str×Value)) :
  Env0 P w K mg base (A.under (.builtin "type.__call__" ⟨.ref C::us,kw⟩)) outer s H:=⟨by first | exact e.frames | (simpa [Around.under,Code.envs,Code.isFrame,pushEnvs] using e.frames),e.mod,e.bs,e.bsz,e.funs,e.frf,e.hok,e.bare⟩
section
variable {X:Cx}{pins:List (Addr×Obj)}{σ:St}{H:Hp}{s s':Shared}
theorem Inv.env0 (I:Inv X pins σ H s):Env0 X.prog X.w X.K X.mg X.base X.A X.stack s H:=
 ⟨I.ok.frames,I.ok.mod,I.bs,le_trans I.ok.bsz I.sz,I.stack,I.stkFree,I.hok,I.bare⟩
theorem Inv.after {Q:VK}{u:Value}(I:Inv X pins σ H s)(h:CE X.stack X.prog X.w H s Q u s'):EP X pins σ Q u s':=by
 obtain⟨v,H',os,bare,un,hok,r,q⟩:=h
 obtain⟨hh,g,d,t,os'⟩:=s'
 obtain rfl:os'=s.os:=os
 exact⟨v,H',I.call (h':=hh) (g':=g) (d':=d) (t':=t) (ch:=[]) un hok bare (λb z=>absurd z (by simp)),r,q⟩
end
def tCall (sp:Sp)(dvs:List V)(E:XK)(t:TA):TE:=λσ H Q=>t σ H λvs H1=>sp (vs++dvs) H1 Q E
inductive isI (C:Addr)(m:Str)(x:V)(H1:Hp)(R:Prop):Prop
 | mk (a:_) (dx:_) (fs:_) (c0:x=.ref a) (c1:H1 a=some (.ins C dx fs)) (c2:fs.lookup m=none) (c3:R):isI C m x H1 R
def tMeth (C:Addr)(m:Str)(sp:Sp)(dvs:List V)(E:XK)(ta:TE)(t:TA):TE:=λσ H Q=>ta σ H λx H1=>isI C m x H1 (t σ H1 λvs H2=>sp (x::(vs++dvs)) H2 Q E)
def tMake (C:Addr)(sp:Sp)(dvs:List V)(E:XK)(t:TA):TE:=λσ H Q=>t σ H λvs H1=>∀x dx,H1 x=none->H1 dx=none->dx≠x ->
 sp (.ref x::(vs++dvs)) (upd (upd H1 dx (.own x)) x (.ins C dx [])) (λv H2=>v=.non/\Q (.ref x) H2) E
def Binds (K:W.Frag)(fd:FuncData)(ps:List Str)(ds:List Value):Prop:=
 ∀(s:Shared) (us:List Value),K.In s.heap->(us++ds).length=ps.length->BindsTo s fd ⟨us,[]⟩ (ps.zip (us++ds))
theorem Binds.all {K:W.Frag}{fd:FuncData}{ps:List Str}(h:∀us:List Value,us.length=ps.length->bindArgs fd ⟨us,[]⟩=pure (ps.zip us)):Binds K fd ps []:=λs us _ hl=>by
 rw[append_nil]at hl ⊢
 exact .of_eq (h us hl)
def Zfi (CX:CXT)(X:Cx)(E:XK):Prop:=∀(pins:List (Addr×Obj)) (σ:St) (H:Hp) (s:Shared) (e:Value) (s':Shared),Inv X pins σ H s->CX X.stack H s E e s'->X.xe e s'
section
variable {X:Cx}{CX:CXT}{k:Nat}{f C:Addr}{fd:FuncData}{ps:List Str}{sp:Sp}{dvs:List V}{ds:List Value}{E:XK}{x m:Str}{p pos apos:Pos}{e o:Expr}{es:List Expr}{ta:TE}{t:TA}
theorem Zkq {pins:List (Addr×Obj)}{σ:St}{H:Hp}{s:Shared}{Q:VK}{us:List Value}{vs:List V}(F:FnOk X.prog X.w X.K X.mg X.base CX k f fd ps sp)(hr:Room k X.A)(hb:Binds X.K fd ps ds)(hd:Vals dvs ds)(hx:Zfi CX X E)
  (I:Inv X pins σ H s)(r:Vals vs us)(h:sp (vs++dvs) H Q E):wpAny (model X.prog X.w) X.A (call (.ref f) us) (EP X pins σ Q) X.xe s:=by
 have r2:Vals (vs++dvs) (us++ds):=r.append hd
 have hl:(us++ds).length=ps.length:=by rw[<- r2.length];exact F.len _ _ _ _ h
 refine wpAny_call (codeAny_mono (F.run X.A X.stack s H ⟨us,[]⟩ (us++ds) (vs++dvs) Q E hr I.env0 (hb s us I.kIn hl) r2 h) λr s' hq=>?_)
 cases r with
 | error e=>exact hx pins σ H s e s' I hq
 | ok fl=>
  cases fl with
  | ret u=>exact I.after hq
  | next=>exact False.elim hq
  | brk=>exact False.elim hq
  | cont=>exact False.elim hq
theorem Za5 (F:FnOk X.prog X.w X.K X.mg X.base CX k f fd ps sp)(hr:Room k X.A)(hg:Gl X x)(hm:X.mg x=some (.ref f))(hk:PySem.W.keepIn X.K (.ref f)=true)(hb:Binds X.K fd ps ds)(hd:Vals dvs ds)(hx:Zfi CX X E)
  (ha:PA X (e::es) t)(hdb:(x == ("__debug__" : Str))=false:=by decide)(he:starEach (e::es) X.env=(false,eval e X.env)::starEach es X.env:=by rfl)(hpl:(backTo pos (starEach es X.env)).any (·.1)=false:=by rfl) :
  PE X (.Call (.Name x p) (e::es) [] pos) (tCall sp dvs E t):=by
 intro pins s σ H Q I h
 refine wpAny_Call_Name_kw (Zgp I hg hm ?_ hdb)
 refine PySem.W.callWith_K (h₀:=X.base) I.ok.mod.kin hk (thn (ha pos pins s σ H _ I h) λus s1 hp0=>?_) he hpl
 obtain⟨vs,H1,I1,r,q⟩:=hp0
 refine⟨I1.kIn,?_⟩
 exact Zkq F hr hb hd hx I1 r q
theorem Zcb {pl:Sem Bool}(he:PE X o ta)(c:Cls X.K C)(hm:Meth X.K C m f)(F:FnOk X.prog X.w X.K X.mg X.base CX k f fd ps sp)(hr:Room k X.A)(hb:Binds X.K fd ps ds)(hd:Vals dvs ds)(hx:Zfi CX X E)(ha:PA X (e::es) t)
  (hst:starEach (e::es) X.env=(false,eval e X.env)::starEach es X.env:=by rfl)(hpl:(backTo pos (starEach es X.env)).any (·.1)=false:=by rfl)
  (ht:eval (.Call (.Attribute o m apos) (e::es) [] pos) X.env=(do
   let ov <- eval o X.env
   standAt apos.atName
   let (f,first) <- holding [ov] (getMethod ov m pl)
   callWith pos f first (backTo pos (starEach (e::es) X.env)) (backToKw pos (keywordEach [] X.env))):=by rfl) :
  PE X (.Call (.Attribute o m apos) (e::es) [] pos) (tMeth C m sp dvs E ta t):=by
 intro pins s σ H Q I h
 refine PySem.W.methodCall_KW (pl:=pl) (thn (he pins s σ H _ I h) λu s1 hp0=>?_) ht
 obtain⟨x,H1,I1,rx,a,dx,fs,ex,ea,l,q⟩:=hp0
 subst ex
 obtain rfl:u=Value.ref a:=rx
 refine Ze7 I1 ea c hm l ?_
 refine PySem.W.callWith_K (first:=[.ref a]) (h₀:=X.base) I.ok.mod.kin hm.kp (thn (ha pos pins s1 σ H1 _ I1 q) λus s2 hp0=>?_) hst hpl
 obtain⟨vs,H2,I2,r,q2⟩:=hp0
 refine⟨I2.kIn,?_⟩
 exact Zkq (us:=.ref a::us) (vs:=.ref a::vs) F hr hb hd hx I2 (.cons rfl r) q2
theorem Zbl {pl:Sem Bool}(he:PE X o ta)(c:Cls X.K C)(hm:Meth X.K C m f)(F:FnOk X.prog X.w X.K X.mg X.base CX k f fd ps sp)(hr:Room k X.A)(hb:Binds X.K fd ps ds)(hd:Vals dvs ds)(hx:Zfi CX X E)
  (ht:eval (.Call (.Attribute o m apos) [] [] pos) X.env=(do
   let ov <- eval o X.env
   standAt apos.atName
   let (f,first) <- holding [ov] (getMethod ov m pl)
   callWith pos f first (backTo pos (starEach [] X.env)) (backToKw pos (keywordEach [] X.env))):=by rfl) :
  PE X (.Call (.Attribute o m apos) [] [] pos) (tMeth C m sp dvs E ta tNil):=by
 intro pins s σ H Q I h
 refine PySem.W.methodCall_KW (pl:=pl) (thn (he pins s σ H _ I h) λu s1 hp0=>?_) ht
 obtain⟨x,H1,I1,rx,a,dx,fs,ex,ea,l,q⟩:=hp0
 subst ex
 obtain rfl:u=Value.ref a:=rx
 refine Ze7 I1 ea c hm l ?_
 exact PySem.W.callWith_K0 (first:=[.ref a]) I1.kIn hm.kp (Zkq (us:=[.ref a]) (vs:=[.ref a]) F hr hb hd hx I1 (.cons rfl .nil) q)
structure Mk (K:W.Frag)(C f:Addr):Prop where
 makes:PySem.W.makesIn K C=true
 init:PySem.W.findIn K (.ref C) "__init__" = some (some (.ref f))
 fn:PySem.W.isFn K (.ref f)=true
 kp:PySem.W.keepIn K (.ref C)=true
theorem run_make {pins:List (Addr×Obj)}{σ:St}{H:Hp}{s:Shared}{Q:VK}{us:List Value}{vs:List V}(M:Mk X.K C f)(F:FnOk X.prog X.w X.K X.mg X.base CX k f fd ps sp)(hr:Room (k+1) X.A)(hb:Binds X.K fd ps ds)(hd:Vals dvs ds)
  (hx:Zfi CX X E)(I:Inv X pins σ H s)(r:Vals vs us)
  (h:∀x dx,H x=none->H dx=none->dx≠x->sp (.ref x::(vs++dvs)) (upd (upd H dx (.own x)) x (.ins C dx [])) (λv H2=>v=.non/\Q (.ref x) H2) E) :
  wpAny (model X.prog X.w) X.A (call (.ref C) us) (EP X pins σ Q) X.xe s:=by
 have hq:=h (s.heap.objs.size+1) s.heap.objs.size (I.hok.fresh (le_succ _)) (I.hok.fresh (Nat.le_refl _)) (ne_of_lt (lt_succ_self _))
 have I2:=Inv.made (C:=C) I
 have r2:Vals (V.ref (s.heap.objs.size+1)::(vs++dvs)) (Value.ref (s.heap.objs.size+1)::(us++ds)):=.cons rfl (r.append hd)
 have hl:(Value.ref (s.heap.objs.size+1)::us++ds).length=ps.length:=by
  have e:=r2.length
  rw[F.len _ _ _ _ hq]at e
  exact e.symm
 refine wpAny_call (make_map (f:=f) I.kIn M.makes M.init (beq_iff_eq.mp M.fn) (codeAny_mono (F.run _ X.stack _ _ ⟨Value.ref (s.heap.objs.size+1)::us,[]⟩ (Value.ref (s.heap.objs.size+1)::(us++ds)) _ _ E (hr.make C us [])
  (I2.env0.make C us []) (hb _ (Value.ref (s.heap.objs.size+1)::us) I2.kIn hl) r2 hq) λr s' hq'=>?_))
 cases r with
 | error e=>exact hx pins σ _ _ e s' I2 hq'
 | ok fl=>
  cases fl with
  | ret u=>
   obtain⟨v,H',I3,rv,ev,q3⟩:=I2.after hq'
   subst ev
   exact⟨rv,⟨V.ref (s.heap.objs.size+1),H',I3,rfl,q3⟩⟩
  | next=>exact False.elim hq'
  | brk=>exact False.elim hq'
  | cont=>exact False.elim hq'
theorem Zgd (M:Mk X.K C f)(F:FnOk X.prog X.w X.K X.mg X.base CX k f fd ps sp)(hr:Room (k+1) X.A)(hg:Gl X x)(hm:X.mg x=some (.ref C))(hb:Binds X.K fd ps ds)(hd:Vals dvs ds)(hx:Zfi CX X E)
  (ha:PA X (e::es) t)(hdb:(x == ("__debug__" : Str))=false:=by decide)(he:starEach (e::es) X.env=(false,eval e X.env)::starEach es X.env:=by rfl)(hpl:(backTo pos (starEach es X.env)).any (·.1)=false:=by rfl) :
  PE X (.Call (.Name x p) (e::es) [] pos) (tMake C sp dvs E t):=by
 intro pins s σ H Q I h
 refine wpAny_Call_Name_kw (Zgp I hg hm ?_ hdb)
 refine PySem.W.callWith_K (h₀:=X.base) I.ok.mod.kin M.kp (thn (ha pos pins s σ H _ I h) λus s1 hp0=>?_) he hpl
 obtain⟨vs,H1,I1,r,q⟩:=hp0
 refine⟨I1.kIn,?_⟩
 exact run_make M F hr hb hd hx I1 r q
end
structure FnScope (N P:List Str)(sc:Scope):Prop where
 kind:sc.kind=.function
 co:sc.isCoroutine=false
 gen:sc.isGenerator=false
 nd:N.Nodup
 pre:N.take P.length=P
 par:∀x∈P,sc.names.lookup x=some .local\/sc.names.lookup x=some .cell
 nofree:∀y∈sc.names,y.2≠.free
theorem Zjn {kindOf:Str->Option NameKind}{x:Str}:∀{binds:List (Str×Value)}{m:Str->Option Value},(∀v,(x,v)∉binds)->bindL kindOf binds m x=m x
 | [],_,_=>rfl
 | (n,v)::r,m,h=>by
  unfold bindL
  rw[Zjn λw hw=>h w (mem_cons_of_mem _ hw)]
  split
  ·have:x≠n:=by rintro rfl;exact h v mem_cons_self
   simp[this]
  rfl
theorem Zjp {kindOf:Str->Option NameKind}{x:Str}:∀{binds:List (Str×Value)}{m:Str->Option Value},(∀v,(x,v)∉binds)->bindC kindOf binds m x=m x
 | [],_,_=>rfl
 | (n,v)::r,m,h=>by
  unfold bindC
  rw[Zjp λw hw=>h w (mem_cons_of_mem _ hw)]
  split
  ·rfl
  have:x≠n:=by rintro rfl;exact h v mem_cons_self
  simp[this]
theorem Zjo {kindOf:Str->Option NameKind}{x:Str}{v:Value}:∀{P:List Str}{vs:List Value}{i:Nat}{m:Str->Option Value},P.Nodup->P[i]? = some x->vs[i]? = some v->kindOf x=some .local ->
  bindL kindOf (P.zip vs) m x=some v
 | [],_,_,_,_,h,_,_=>by simp at h
 | _::_,[],_,_,_,_,h,_=>by simp at h
 | p::P,w::vs,0,m,nd,h1,h2,hk=>by
  simp at h1 h2;subst h1;subst h2
  show bindL kindOf ((p,w)::P.zip vs) m p=_
  unfold bindL
  rw[Zjn λv hv=>(nodup_cons.mp nd).1 (of_mem_zip hv).1,if_pos hk]
  simp
 | p::P,w::vs,i+1,m,nd,h1,h2,hk=>by
  show bindL kindOf ((p,w)::P.zip vs) m x=_
  unfold bindL
  exact Zjo (i:=i) (nodup_cons.mp nd).2 (by simpa using h1) (by simpa using h2) hk
theorem Zjq {kindOf:Str->Option NameKind}{x:Str}{v:Value}:∀{P:List Str}{vs:List Value}{i:Nat}{m:Str->Option Value},P.Nodup->P[i]? = some x->vs[i]? = some v->kindOf x≠some .local ->
  bindC kindOf (P.zip vs) m x=some v
 | [],_,_,_,_,h,_,_=>by simp at h
 | _::_,[],_,_,_,_,h,_=>by simp at h
 | p::P,w::vs,0,m,nd,h1,h2,hk=>by
  simp at h1 h2;subst h1;subst h2
  show bindC kindOf ((p,w)::P.zip vs) m p=_
  unfold bindC
  rw[Zjp λv hv=>(nodup_cons.mp nd).1 (of_mem_zip hv).1,if_neg hk]
  simp
 | p::P,w::vs,i+1,m,nd,h1,h2,hk=>by
  show bindC kindOf ((p,w)::P.zip vs) m x=_
  unfold bindC
  exact Zjq (i:=i) (nodup_cons.mp nd).2 (by simpa using h1) (by simpa using h2) hk
def Zgy (N:List Str)(vs:List V):St:=vs.map some++replicate (N.length-vs.length) none
def cxOf (CX:CXT)(P:Program)(w:World)(K:W.Frag)(mg:Str->Option Value)(base:Heap)(N:List Str)(qual:Str)(scope:Scope)(f:Addr)(cd:Value)(A:Around)(outer:List Env)(s:Shared)(H:Hp)(E:XK):Cx where
 prog:=P
 w:=w
 K:=K
 mg:=mg
 base:=base
 A:=A.deeper (envOfC qual scope s.heap.objs.size f cd)
 N:=N
 s₀:=s
 H₀:=H
 env:=envOfC qual scope s.heap.objs.size f cd
 outer:=outer
 stack:=envOfC qual scope s.heap.objs.size f cd::outer
 ex:=[]
 calm:=true
 fn:=λ_=>true
 pn:=[]
 xe:=λe s'=>wpAny (model P w) (A.deeper (envOfC qual scope s.heap.objs.size f cd)) (leaving (envOfC qual scope s.heap.objs.size f cd) e) (λ_ s''=>CX outer H s E e s'') (λe' s''=>CX outer H s E e' s'') s'
theorem Zlm {sc:Scope}{n:Nat}{x:Str}(h:sc.names.lookup x=some .cell):∃c,(cellsFrom n sc.names []).lookup x=some c:=by
 have q:=PySem.W.cellsFrom_some sc.names n [] (.inl h)
 exact isSome_iff_exists.mp q
theorem inv_start {CX:CXT}{P:Program}{w:World}{K:W.Frag}{mg:Str->Option Value}{base:Heap}{N ps:List Str}{qual:Str}{scope:Scope}{f:Addr}{cd:Value}{A:Around}{outer:List Env}{s s1:Shared}{H:Hp}{E:XK}{us:List Value}{vs:List V}
  (S:FnScope N ps scope)(hd:A.handled=none)(e0:Env0 P w K mg base A outer s H)(hl:vs.length=ps.length)(r:Vals vs us)
  (x:InCallC s s.heap.objs.size (bindL (envOfC qual scope s.heap.objs.size f cd).kindOf (ps.zip us) λ_=>none) (cellsFrom (s.heap.objs.size+1) scope.names []) (bindC (envOfC qual scope s.heap.objs.size f cd).kindOf (ps.zip us) λ_=>none) s1) :
  Inv (cxOf CX P w K mg base N qual scope f cd A outer s H E) [] (Zgy N vs) H s1:=by
 have hpl:ps.length<=N.length:=by have:=congrArg List.length S.pre;rw[length_take]at this;lia
 obtain⟨h1,tk,rfl,hk⟩:=x.done
 have noA:∀b:Addr,b∉(cxOf CX P w K mg base N qual scope f cd A outer s H E).ex:=λb z=>absurd (show b∈([]:List Addr) from z) (by simp)
 refine⟨⟨e0.mod,S.kind,rfl,rfl,Nat.le_refl _,λy z c h1 h2=>?_,λy hy=>?_,λy c _ h=>?_,λ_=>hd,Around.frames_deeper e0.frames,.inr ⟨rfl,rfl⟩,λb z=>absurd z (noA b),e0.bs,e0.bsz,λb _ _=>noA b,λb z=>absurd z (noA b),e0.funs,e0.frf⟩,
  rfl,e0.bare,Un.kept hk,⟨_,x.toInCall.ns,λi y v h1 h2 h3=>?_⟩,λy c h=>⟨_,x.cell y c h⟩,e0.hok.fresh (Nat.le_refl _),λy c h=>?_,λp hp=>absurd (show p∈([]:List (Addr×Obj)) from hp) (by simp),e0.hok.kept hk,?_⟩
 ·exact name_of_addr x.apart (PySem.mem_of_lookup h1) (PySem.mem_of_lookup h2)
 ·have hy:scope.names.lookup y=some .cell\/scope.names.lookup y=some .free:=hy
  rcases hy with hy | hy
  ·exact Zlm hy
  exact absurd rfl (S.nofree _ (PySem.mem_of_lookup hy))
 ·exact le_of_lt (x.above y c (PySem.mem_of_lookup h))
 ·have hi:i<vs.length:=by
   unfold Zgy at h2
   by_cases hi:i<vs.length
   ·exact hi
   rw[getElem?_append_right (by simpa using hi)]at h2
   rw[getElem?_replicate]at h2
   split at h2 <;> cases h2
  have ha:vs[i]? = some v:=by
   unfold Zgy at h2
   rw[getElem?_append_left (by simpa using hi),getElem?_map]at h2
   cases e:vs[i]? with
   | none=>rw[e]at h2;cases h2
   | some a=>rw[e]at h2;cases h2;rfl
  obtain⟨u,hu,rv⟩:=r.get ha
  have hp:ps[i]? = some y:=by
   rw[<- S.pre,getElem?_take_of_lt (by lia)];exact h1
  have ndP:ps.Nodup:=by rw[<- S.pre];exact S.nd.sublist (take_sublist _ _)
  refine⟨u,rv,?_⟩
  rcases S.par y (mem_of_getElem? hp)with k | k
  ·exact .inl ⟨k,Zjo ndP hp hu k⟩
  obtain⟨c,e⟩:=Zlm (n:=s.heap.objs.size+1) k
  refine .inr ⟨.inl k,c,e,?_⟩
  have q:=x.cell y c e
  rw[Zjq ndP hp hu (by show scope.names.lookup y≠_;rw[k];decide)]at q
  exact q
 ·exact e0.hok.fresh (le_of_lt (x.above y c (PySem.mem_of_lookup h)))
 unfold Zgy
 show _=N.length
 rw[length_append,length_map,length_replicate]
 lia
theorem fn_of {CX:CXT}{P:Program}{w:World}{K:W.Frag}{mg:Str->Option Value}{base:Heap}{k:Nat}{f:Addr}{name qual:Str}{params:Arguments}{body:List Stmt}{scope:Scope}{dV kV doc pm cdv ct oc:Value}{an od:Option Addr}
  {osl:Array (Option Value)}{N ps:List Str}{sp:Sp}(lk:K.lookup f=some ⟨oc,od,.func (PySem.W.fnOf name qual params body scope dV kV doc pm an cdv ct),osl⟩)(hcd:PySem.W.codeIn K cdv qual=true)(S:FnScope N ps scope)
  (len:∀vs H Q E,sp vs H Q E->vs.length=ps.length)
  (hbody:∀(A:Around) (outer:List Env) (s:Shared) (H:Hp) (vs:List V) (Q:VK) (E:XK),Room k (A.deeper (envOfC qual scope s.heap.objs.size f cdv))->sp vs H Q E ->
   ∃t,PSs (cxOf CX P w K mg base N qual scope f cdv A outer s H E) body t/\t { nx:=λ_ H'=>Q .non H',rt:=Q } (Zgy N vs) H) :
  FnOk P w K mg base CX (k+1) f (PySem.W.fnOf name qual params body scope dV kV doc pm an cdv ct) ps sp:=by
 refine⟨len,λA outer s H args us vs Q E hr e0 hb r hsp=>?_⟩
 have hl:=len _ _ _ _ hsp
 have KX:K.In s.heap:=e0.mod.kin.keeps λb o e=>(e0.bs b o e).1
 have lim:s.heap.NoLimit:=e0.mod.nolimit.keeps λb o e=>(e0.bs b o e).1
 have hkind:∀y∈ps.zip us,scope.names.lookup y.1=some .local\/(scope.names.lookup y.1=some .cell/\((cellsFrom (s.heap.objs.size+1) scope.names []).lookup y.1).isSome=true):=λ⟨n,v⟩ hy=>by
  rcases S.par n (of_mem_zip hy).1 with q | q
  ·exact .inl q
  exact .inr ⟨q,PySem.W.cellsFrom_some _ _ _ (.inl q)⟩
 refine codeAny_call_function hr.depth (KX _ _ lk) rfl S.co S.gen rfl (PySem.W.codeRec_of KX hcd) (hb _ _ _ _ ?_)
 refine wpAny_newFunctionEnv_cells S.kind hkind λenv he s1 x=>?_
 subst he
 refine⟨lim.keeps x.toInCall.keep,codeAny_func ?_⟩
 obtain⟨t,ht,hq⟩:=hbody A outer s H vs Q E (hr.deeper _) hsp
 have I:Inv (cxOf CX P w K mg base N qual scope f cdv A outer s H E) [] (Zgy N vs) H s1:=inv_start S hr.hd e0 hl r x
 refine wpAny_mono (ht [] s1 (Zgy N vs) H _ I hq) (λfl s' hs=>?_) λe s' hs=>hs
 have fin:∀{σ':St}{H':Hp}{v:V}{u:Value},Inv (cxOf CX P w K mg base N qual scope f cdv A outer s H E) [] σ' H' s'->RelV v u->Q v H'->CE outer P w H s Q u s':=
  λ{σ' H' v u} J rv q=>⟨v,H',J.os,J.bare,J.base,J.hok,rv,q⟩
 cases fl with
 | ret u=>
  obtain⟨v,σ',H',J,rv,q⟩:=hs
  exact fin J rv q
 | next=>
  obtain⟨σ',H',J,q⟩:=hs
  exact fin (v:=V.non) (u:=Value.none) J rfl q
 | brk=>
  obtain⟨_,_,_,q⟩:=hs
  exact False.elim q
 | cont=>
  obtain⟨_,_,_,q⟩:=hs
  exact False.elim q
section
variable {X:Cx}{x:Str}{p pos:Pos}{e:Expr}{es:List Expr}{t:TA}{id T:String}{r:List V->Hp->VK->Prop}
def tCB (r:List V->Hp->VK->Prop)(t:TA):TE:=λσ H Q=>t σ H λvs H1=>r vs H1 Q
theorem Zap (hc:Zcq X (.builtin id) r)(hg:Gl X x)(hm:X.mg x=none)(hv:bootBuiltins x=some (.builtin id))(ha:PA X (e::es) t)(hn:x ≠ "__name__" := by decide)(hdb:(x == ("__debug__" : Str))=false:=by decide)
  (he:starEach (e::es) X.env=(false,eval e X.env)::starEach es X.env:=by rfl)(hpl:(backTo pos (starEach es X.env)).any (·.1)=false:=by rfl):PE X (.Call (.Name x p) (e::es) [] pos) (tCB r t):=by
 intro pins s σ H Q I h
 refine wpAny_Call_Name_kw (Zdt I hg hm hv ?_ hn hdb)
 exact PyProof.Rows.callWith_builtin1 (thn (ha pos pins s σ H _ I h) λus s1 hp0=>by obtain⟨vs,H1,I1,r1,q1⟩:=hp0;exact hc pins s1 σ H1 vs us Q I1 r1 q1) he hpl
theorem Zay (hc:Zcq X (.type T) r)(hg:Gl X x)(hm:X.mg x=none)(hv:bootBuiltins x=some (.type T))(ha:PA X (e::es) t)(hn:x ≠ "__name__" := by decide)(hdb:(x == ("__debug__" : Str))=false:=by decide)
  (he:starEach (e::es) X.env=(false,eval e X.env)::starEach es X.env:=by rfl)(hpl:(backTo pos (starEach es X.env)).any (·.1)=false:=by rfl):PE X (.Call (.Name x p) (e::es) [] pos) (tCB r t):=by
 intro pins s σ H Q I h
 refine wpAny_Call_Name_kw (Zdt I hg hm hv ?_ hn hdb)
 exact PyProof.Rows.callWith_type1 (thn (ha pos pins s σ H _ I h) λus s1 hp0=>by obtain⟨vs,H1,I1,r1,q1⟩:=hp0;exact hc pins s1 σ H1 vs us Q I1 r1 q1) he hpl
end
end L2
namespace HT
open PySem PyProof.Rows
section
open PySem.SeqAt
open PySem.AutoSeq1 (wpAny_loadPart')
open PySem.MeetsSeq PySem.MeetsSeq2 PySem.MeetsSeq3
end
end HT
namespace L2
open PySem PySem.Spec PyProof.Rows
abbrev TO:=St->Hp->(Option Int->Hp->Prop)->Prop
def PO (X:Cx)(e:Option Expr)(t:TO):Prop:=
 ∀(pins:List (Addr×Obj)) (s:Shared) (σ:St) (H:Hp) (Q:Option Int->Hp->Prop),Inv X pins σ H s->t σ H Q ->
  wpAny (model X.prog X.w) X.A (evalPart e X.env) (λu s'=>∃o H',Inv X pins σ H' s'/\IsPart u o/\Q o H') X.xe s
def tNoPart:TO:=λ_ H Q=>Q none H
def tPart (t:TE):TO:=λσ H Q=>t σ H λx H1=>∃i,x=.int i/\Q (some i) H1
section
variable {X:Cx}{e:Expr}{te:TE}{lo hi:Option Expr}{tl th:TO}{pos p2:Pos}
theorem Zl8:PO X none tNoPart:=by
 intro pins s σ H Q I h
 rw[evalPart_none]
 exact wpAny_pure ⟨none,H,I,.none,h⟩
theorem Zl7 (h:PE X e te):PO X (some e) (tPart te):=by
 intro pins s σ H Q I hw
 rw[evalPart_some]
 refine thn (h pins s σ H _ I hw) λu s1 hp0=>?_
 obtain⟨x,H1,I1,r1,q1⟩:=hp0
 obtain⟨i,rfl,q⟩:=q1
 obtain⟨t,rfl⟩:=r1
 exact⟨some i,H1,I1,.int i t,q⟩
def SlR (X:Cx)(r:V->Option Int->Option Int->Hp->VK->Prop):Prop:=
 ∀(pins:List (Addr×Obj)) (s:Shared) (σ:St) (H:Hp) (x:V) (v vl vu:Value) (lo hi:Option Int) (sl:Addr) (Q:VK),Inv X pins σ H s->RelV x v->s.heap.IsSliceOf sl vl vu .none->IsPart vl lo->IsPart vu hi->r x lo hi H Q ->
  ∃T id,typeLookup (.type T) "__getitem__" = pure (some (.builtin id))/\s.TypeIs v T/\wpAny (model X.prog X.w) X.A (getItem v (.ref sl)) (EP X pins σ Q) X.xe s
def tSl (r:V->Option Int->Option Int->Hp->VK->Prop)(te:TE)(tl th:TO):TE:=λσ H Q=>te σ H λx H1=>tl σ H1 λl H2=>th σ H2 λu H3=>r x l u H3 Q
theorem Zkv {r:V->Option Int->Option Int->Hp->VK->Prop}(hr:SlR X r)(he:PE X e te)(hl:PO X lo tl)(hu:PO X hi th):PE X (.Subscript e (.Slice lo hi none p2) pos) (tSl r te tl th):=by
 intro pins s σ H Q I h
 refine Subscript_ (thn (he pins s σ H _ I h) λv s1 hp0=>?_)
 obtain⟨x,H1,I1,r1,q1⟩:=hp0
 refine wpAny_Slice (thn (hl pins s1 σ H1 _ I1 q1) λvl s2 hp0=>?_)
 obtain⟨l,H2,I2,pl,q2⟩:=hp0
 refine thn (hu pins s2 σ H2 _ I2 q2) λvu s3 hp1=>?_
 obtain⟨u,H3,I3,pu,q3⟩:=hp1
 rw[evalPart_none]
 refine wpAny_pure ?_
 have I4:Inv X pins σ H3 { s3 with heap:=s3.heap.push { cls:=.type "slice",data:=.fields #[vl,vu,.none] } }:=I3.kept (t':=s3.toks) λb ob q=>Heap.get?_push_of_some _ q
 obtain⟨T,id,hT,ht,hg⟩:=hr pins { s3 with heap:=s3.heap.push { cls:=.type "slice",data:=.fields #[vl,vu,.none] } } σ H3 x v vl vu l u s3.heap.objs.size Q I4 r1 (Heap.IsSliceOf.new ..) pl pu q3
 show wpAny (model X.prog X.w) X.A (subscriptTail e (.Slice lo hi none p2) v (.ref s3.heap.objs.size)) (EP X pins σ Q) X.xe { s3 with heap:=s3.heap.push { cls:=.type "slice",data:=.fields #[vl,vu,.none] } }
 exact tail_any (ops:=[.ref s3.heap.objs.size,v]) ht hT hg (by with_unfolding_all rfl)
end
def ixN (n:Nat)(i:Int):Option Nat:=if 0<=i then(if i<n then some i.toNat else none)else if -(n:Int)<=i then some (i+n).toNat else none
def atI {α:Type}(xs:List α)(i:Int):Option α:=(ixN xs.length i).bind λj=>xs[j]?
theorem ixN_seq {n:Nat}{i:Int}{j:Nat}(h:ixN n i=some j):seqIndex? i n=some j/\j<n/\-(n:Int)<=i/\i<n:=by
 unfold ixN at h
 by_cases h0:0<=i
 ·rw[if_pos h0]at h
  by_cases h1:i<n
  ·rw[if_pos h1]at h
   have e:i.toNat=j:=Option.some.inj h
   exact⟨by rw[seqIndex_of h0 h1,e],by lia,by lia,h1⟩
  rw[if_neg h1]at h;cases h
 rw[if_neg h0]at h
 by_cases h1:-(n:Int)<=i
 ·rw[if_pos h1]at h
  have e:(i+n).toNat=j:=Option.some.inj h
  exact⟨by rw[seqIndex_neg (by lia) h1,e],by lia,h1,by lia⟩
 rw[if_neg h1]at h;cases h
theorem Zkb {α:Type}{xs:List α}{i:Int}{v:α}(h:atI xs i=some v):∃j,seqIndex? i xs.length=some j/\xs[j]? = some v/\j<xs.length/\-(xs.length:Int)<=i/\i<xs.length:=by
 unfold atI at h
 cases e:ixN xs.length i with
 | none=>rw[e]at h;cases h
 | some j=>
  rw[e]at h
  obtain⟨h1,h2,h3,h4⟩:=ixN_seq e
  exact⟨j,h1,h,h2,h3,h4⟩
theorem Zal {α:Type}{xs:List α}{j:Nat}{v:α}(h:xs[j]? = some v):atI xs (j:Int)=some v:=by
 have hj:j<xs.length:=(List.getElem?_eq_some_iff.mp h).1
 have e:ixN xs.length (j:Int)=some j:=by
  unfold ixN
  rw[if_pos (by lia),if_pos (by lia)];simp
 unfold atI;rw[e];exact h
def PlainIx (b:Expr):Prop:=∀o i,subscripted b false o i=operate [o,i] (getItem o i)
def IxR (X:Cx)(r:R2):Prop:=
 ∀(value slice:Expr) (pins:List (Addr×Obj)) (s:Shared) (σ:St) (H:Hp) (x y:V) (v u:Value) (Q:VK),Inv X pins σ H s->RelV x v->RelV y u->r x y H Q ->
  subscripted slice false v u=operate [v,u] (getItem v u)->wpAny (model X.prog X.w) X.A (subscriptTail value slice v u) (EP X pins σ Q) X.xe s
def MtR (X:Cx)(id:String)(r:V->List V->Hp->VK->Prop):Prop:=
 ∀(pins:List (Addr×Obj)) (s:Shared) (σ:St) (H:Hp) (x:V) (xs:List V) (v:Value) (us:List Value) (Q:VK),Inv X pins σ H s->RelV x v->Vals xs us->r x xs H Q ->
  wpAny (model X.prog X.w) X.A (call (.builtin id) (v::us)) (EP X pins σ Q) X.xe s
section
variable {X:Cx}{a b:Expr}{ta tb:TE}{pos:Pos}
theorem Zas {r:R2}(hr:IxR X r)(ha:PE X a ta)(hb:PE X b tb)(hs:PlainIx b):PE X (.Subscript a b pos) (tOp r ta tb):=by
 intro pins s σ H Q I h
 exact Subscript_ (binT ha hb I h λv u s2 x y H2 I2 rx ry q=>hr a b pins s2 σ H2 x y v u Q I2 rx ry q (hs _ _))
inductive rIxL (K:W.Frag)(x:V)(y:V)(H:Hp)(Q:VK):Prop
 | mk (p:_) (xs:_) (i:_) (v:_) (c0:x=.ref p) (c1:y=.int i) (c2:SqL K H p xs) (c3:atI xs i=some v) (c4:Q v H):rIxL K x y H Q
inductive rIxT (K:W.Frag)(x:V)(y:V)(H:Hp)(Q:VK):Prop
 | mk (p:_) (xs:_) (i:_) (v:_) (c0:x=.ref p) (c1:y=.int i) (c2:SqT K H p xs) (c3:atI xs i=some v) (c4:Q v H):rIxT K x y H Q
def rIxS:R2:=λx y H Q=>∃z i c,x=.str z/\y=.int i/\z.length<=sizeLine/\atI z.cps.toList i=some c/\Q (.str ⟨#[c]⟩) H
theorem Zbj:IxR X (rIxL X.K):=by
 intro value slice pins s σ H x y v u Q I rx ry h hs
 obtain⟨p,xs,i,z,rfl,rfl,hq,he,q⟩:=h
 cases rx
 obtain⟨t,rfl⟩:=ry
 obtain⟨its,r,pl,hz⟩:=I.list hq
 obtain⟨j,h1,h2,h3,h4,h5⟩:=Zkb he
 obtain⟨w,ew,rw'⟩:=r.get h2
 have hl:=r.length
 have hn:=Zi6
 have fin:EP X pins σ Q w s:=⟨z,H,I,rw',q⟩
 by_cases h0:0<=i
 ·have hj:i.toNat=j:=by
   rw[seqIndex_of h0 h5]at h1
   exact Option.some.inj h1
  exact item_listR pl.isList h0 (by lia) (by rw[hj];simpa using ew) fin hs
 have hj:(i+(its.toArray.size:Int)).toNat=j:=by
  rw[seqIndex_neg (by lia) h4]at h1
  rw[size_toArray,<- hl]
  exact Option.some.inj h1
 exact subscriptTail_builtinR (x:=w) pl.isList.typeIs slot_list_getitem.lookup
  (wpAny_getItem_list_neg (Q:=λr s'=>r=w/\EP X pins σ Q r s') pl.isList (by lia) (by rw[size_toArray] <;> lia) (by lia) (by rw[hj];simpa using ew) ⟨rfl,fin⟩) hs
theorem Zat:IxR X (rIxT X.K):=by
 intro value slice pins s σ H x y v u Q I rx ry h hs
 obtain⟨p,xs,i,z,rfl,rfl,hq,he,q⟩:=h
 cases rx
 obtain⟨t,rfl⟩:=ry
 obtain⟨its,r,pl,hz⟩:=I.tuple hq
 obtain⟨j,h1,h2,h3,h4,h5⟩:=Zkb he
 obtain⟨w,ew,rw'⟩:=r.get h2
 have hl:=r.length
 have hn:=Zi6
 have fin:EP X pins σ Q w s:=⟨z,H,I,rw',q⟩
 exact subscriptTail_builtinR (x:=w) pl.typeIs slot_tuple_getitem.lookup
  (getItem_tuple (j:=j) (Q:=λr s'=>r=w/\EP X pins σ Q r s') pl (by lia) (by lia) (by rw[size_toArray,<- hl];exact h1) (by simpa using ew) ⟨rfl,fin⟩) hs
theorem ix_str:IxR X rIxS:=by
 intro value slice pins s σ H x y v u Q I rx ry h hs
 obtain⟨z,i,c,rfl,rfl,hz,he,q⟩:=h
 obtain⟨t,rfl⟩:=rx
 obtain⟨t',rfl⟩:=ry
 obtain⟨j,h1,h2,h3,h4,h5⟩:=Zkb he
 have hl:z.cps.toList.length=z.length:=by simp[Str.length]
 rw[hl]at h1 h4 h5
 have hn:=Zi6
 exact tail_any (typeIs_str s z t) slot_str_getitem.lookup (getItem_str (c:=c) (by
  have e1:decide (i < -(2^63:Int))=false:=decide_eq_false (by lia)
  have e2:decide (i≥2^63)=false:=decide_eq_false (by lia)
  rw[e1,e2,Bool.or_false]) (by rw[h1];simpa using h2) ⟨.str ⟨#[c]⟩,H,I.tok _,⟨_,rfl⟩,q⟩) hs
def Zjb:V->Bool
 | .non=>true
 | .bl _=>true
 | .int _=>true
 | .str _=>true
 | _=>false
def eqV:V->V->Bool
 | .non,.non=>true
 | .bl a,.bl b=>a == b
 | .bl a,.int b=>(if a then 1 else 0) == b
 | .int a,.bl b=>a == (if b then 1 else 0)
 | .int a,.int b=>a == b
 | .str a,.str b=>a == b
 | _,_=>false
theorem eqAt_V {A:Around}{s:Shared}{y x:V}{u v:Value}(ry:RelV y u)(rx:RelV x v)(fy:Zjb y=true)(fx:Zjb x=true):SeqAt.EqAt A s u v (eqV y x):=by
 cases y with
 | non=>
  cases ry
  cases x with
  | non=>cases rx;exact SeqAt.EqAt.same _
  | bl b=>cases rx;exact SeqAt.EqAt.none_bool b
  | int b=>obtain⟨t,rfl⟩:=rx;exact SeqAt.EqAt.none_int b t
  | str b=>obtain⟨t,rfl⟩:=rx;exact SeqAt.EqAt.none_str b t
  | _=>exact absurd (show false=true from fx) Bool.false_ne_true
 | bl a=>
  cases ry
  cases x with
  | non=>cases rx;exact SeqAt.EqAt.bool_none a
  | bl b=>cases rx;exact SeqAt.EqAt.bool_bool a b
  | int b=>obtain⟨t,rfl⟩:=rx;exact SeqAt.EqAt.bool_int a b t
  | str b=>obtain⟨t,rfl⟩:=rx;exact SeqAt.EqAt.bool_str a b t
  | _=>exact absurd (show false=true from fx) Bool.false_ne_true
 | int a=>
  obtain⟨t',rfl⟩:=ry
  cases x with
  | non=>cases rx;exact SeqAt.EqAt.int_none a t'
  | bl b=>cases rx;exact SeqAt.EqAt.int_bool a t' b
  | int b=>obtain⟨t,rfl⟩:=rx;exact SeqAt.EqAt.int_int a t' b t
  | str b=>obtain⟨t,rfl⟩:=rx;exact SeqAt.EqAt.int_str a t' b t
  | _=>exact absurd (show false=true from fx) Bool.false_ne_true
 | str a=>
  obtain⟨t',rfl⟩:=ry
  cases x with
  | non=>cases rx;exact SeqAt.EqAt.str_none a t'
  | bl b=>cases rx;exact SeqAt.EqAt.str_bool a t' b
  | int b=>obtain⟨t,rfl⟩:=rx;exact SeqAt.EqAt.str_int a t' b t
  | str b=>obtain⟨t,rfl⟩:=rx;exact SeqAt.EqAt.str_str a t' b t
  | _=>exact absurd (show false=true from fx) Bool.false_ne_true
 | _=>exact absurd (show false=true from fy) Bool.false_ne_true
def eqU (x:V)(u:Value):Bool:=match u with
 | .none=>eqV .non x
 | .bool b=>eqV (.bl b) x
 | .int i _=>eqV (.int i) x
 | .str z _=>eqV (.str z) x
 | _=>false
theorem Zoe {x y:V}{u:Value}(r:RelV y u)(f:Zjb y=true):eqU x u=eqV y x:=by
 cases y with
 | non=>cases r;rfl
 | bl b=>cases r;rfl
 | int i=>obtain⟨t,rfl⟩:=r;rfl
 | str z=>obtain⟨t,rfl⟩:=r;rfl
 | _=>exact absurd (show false=true from f) Bool.false_ne_true
theorem Zkc {x:V}:∀{xs:List V}{us:List Value},Vals xs us->xs.all Zjb=true->us.any (eqU x)=xs.any λy=>eqV y x
 | _,_,.nil,_=>rfl
 | y::xs,u::us,.cons r t,f=>by
  rw[List.all_cons,and_eq_true]at f
  rw[any_cons,any_cons,Zoe r f.1,Zkc t f.2]
theorem Zia {A:Around}{s:Shared}{x:V}{v:Value}(rx:RelV x v)(fx:Zjb x=true):∀{xs:List V}{us:List Value},Vals xs us->xs.all Zjb=true->∀u∈us,SeqAt.EqAt A s u v (eqU x u)
 | _,_,.nil,_=>λu hu=>by cases hu
 | y::xs,u::us,.cons r t,f=>λu' hu=>by
  rw[List.all_cons,and_eq_true]at f
  rcases(mem_cons.mp hu)with rfl | hu
  ·rw[Zoe r f.1];exact eqAt_V r rx f.1 fx
  exact Zia rx fx t f.2 u' hu
def inV (x:V)(xs:List V):Bool:=xs.any λy=>eqV y x
inductive rIn (K:W.Frag)(neg:Bool)(x:V)(y:V)(H:Hp)(Q:VK):Prop
 | mk (p:_) (xs:_) (c0:y=.ref p) (c1:(SqL K H p xs\/SqT K H p xs)) (c2:Zjb x=true) (c3:xs.all Zjb=true) (c4:Q (.bl (if neg then !inV x xs else inV x xs)) H):rIn K neg x y H Q
theorem op_notIn_seq:OpR X (compareOp .NotIn) (rIn X.K true):=by
 intro pins s σ H x y v u Q I rx ry h
 obtain⟨p,xs,rfl,hq,fx,fs,q⟩:=h
 cases ry
 rcases hq with hq | hq
 ·obtain⟨its,r,pl,hz⟩:=I.list hq
  refine SeqAt.notIn_listAt (eqU x) pl.isList (λw hw=>Zia rx fx r fs w (by simpa using hw)) ⟨.bl _,H,I,rfl,?_⟩
  rw[show its.toArray.any (eqU x)=its.any (eqU x) by simp,Zkc r fs]
  exact q
 obtain⟨its,r,pl,hz⟩:=I.tuple hq
 refine SeqAt.notIn_tupleAt (eqU x) pl (λw hw=>Zia rx fx r fs w (by simpa using hw)) ⟨.bl _,H,I,rfl,?_⟩
 rw[show its.toArray.any (eqU x)=its.any (eqU x) by simp,Zkc r fs]
 exact q
theorem Zbf:Zcq X (.type "list") (λxs H Q=>∃p ys,xs=[.ref p]/\(SqL X.K H p ys\/SqT X.K H p ys)/\∀l,H l=none->Q (.ref l) (upd H l (.lst ys))):=by
 intro pins s σ H xs us Q I r h
 obtain⟨p,ys,rfl,hq,q⟩:=h
 obtain⟨u,rfl,rx⟩:=Zc5 r
 cases rx
 have fin:∀(its:List Value),Vals ys its->ys.length<=sizeLine->∀(h':Heap) (c':Nat),(∀b o',s.heap.get? b=some o'->h'.get? b=some o') ->
   h'.get? s.heap.objs.size=some { cls:=.type "list",dict:=none,data:=.seq its.toArray c',slots:=#[] }->EP X pins σ Q (.ref s.heap.objs.size) { s with heap:=h' }:=λits r' hz h' c' kp e=>
  ⟨.ref s.heap.objs.size,_,I.laid (t':=s.toks) kp (Nat.le_refl _) (show ObjOk X.prog X.w _ h' _ (.lst ys) from ⟨hz,its,c',r',e⟩),rfl,q _ (I.hok.fresh (Nat.le_refl _))⟩
 rcases hq with hq | hq
 ·obtain⟨its,r',pl,hz⟩:=I.list hq
  have hlen:=r'.length
  obtain⟨o,ho,hc,n,hd⟩:=pl.isList
  exact call_list_seq p (.inl rfl) ho hc hd (λh' c' kp e=>fin its r' hz h' c' kp e) (by simp only[size_toArray] <;> lia)
 obtain⟨its,r',pl,hz⟩:=I.tuple hq
 have hlen:=r'.length
 obtain⟨o,ho,hc,n,hd⟩:=pl
 exact call_list_seq p (.inr rfl) ho hc hd (λh' c' kp e=>fin its r' hz h' c' kp e) (by simp only[size_toArray] <;> lia)
theorem Zb5:Zcq X (.type "tuple") (λxs H Q=>∃p ys,xs=[.ref p]/\((SqL X.K H p ys/\∀l,H l=none->Q (.ref l) (upd H l (.tup ys)))\/(SqT X.K H p ys/\Q (.ref p) H))):=by
 intro pins s σ H xs us Q I r h
 obtain⟨p,ys,rfl,h⟩:=h
 obtain⟨u,rfl,rx⟩:=Zc5 r
 cases rx
 rcases h with⟨hq,q⟩ | ⟨hq,q⟩
 ·obtain⟨its,r',pl,hz⟩:=I.list hq
  have hlen:=r'.length
  refine call_tuple_list pl.isList (λh' kp=>?_) (by simp only[size_toArray] <;> lia)
  have I1:Inv X pins σ H { s with heap:=h' }:=I.kept (t':=s.toks) kp
  have I2:Inv X pins σ (upd H h'.objs.size (.tup ys)) { s with heap:=h'.push { cls:=.type "tuple",data:=.seq its.toArray } }:=
   I1.laid (t':=s.toks) (λb o e=>Heap.get?_push_of_some _ e) (Nat.le_refl _) (show ObjOk X.prog X.w _ _ _ (.tup ys) from ⟨hz,its,r',IsTup.new _ _⟩)
  exact⟨.ref h'.objs.size,_,I2,rfl,q _ (I1.hok.fresh (Nat.le_refl _))⟩
 obtain⟨its,r',pl,hz⟩:=I.tuple hq
 exact call_tuple_same pl ⟨.ref p,H,I,rfl,q⟩
def tyV (K:W.Frag)(T:String)(x:V)(H:Hp):Prop:=match x with
 | .str _=>T = "str"
 | .int _=>T = "int"
 | .ref p=>(T = "list" /\ ∃xs,SqL K H p xs)\/(T = "tuple" /\ ∃o,K.lookup p=some o/\o.cls=.type "tuple" /\ o.dict=none) \/
   (T = "dict" /\ ((∃kvs,H p=some (.dK kvs))\/∃kvs,H p=some (.dT kvs)))\/(T = "set" /\ ∃S n,H p=some (.set S n))
 | _=>False
theorem Znu {pins:List (Addr×Obj)}{σ:St}{H:Hp}{s:Shared}{T:String}{x:V}{v:Value}(I:Inv X pins σ H s)(r:RelV x v)(ty:tyV X.K T x H) :
  s.TypeIs v T/\∀a,v=.ref a->∃ob,s.heap.get? a=some ob/\ob.dict=none:=by
 cases x with
 | str z=>
  obtain⟨t,rfl⟩:=r
  cases (show T = "str" from ty)
  exact⟨typeIs_str s z t,λ_ e=>nomatch e⟩
 | int i=>
  obtain⟨t,rfl⟩:=r
  cases (show T = "int" from ty)
  exact⟨typeIs_int s i t,λ_ e=>nomatch e⟩
 | ref p=>
  cases r
  rcases ty with⟨rfl,xs,hq⟩ | ⟨rfl,o,hk,hc,hd⟩ | ⟨rfl,hk⟩ | ⟨rfl,S,n,hk⟩
  ·obtain⟨its,_,pl,_⟩:=I.list hq
   refine⟨pl.isList.typeIs,λa e=>?_⟩
   cases e
   obtain⟨o,n,e,c,hd,_⟩:=pl
   exact⟨o,e,hd⟩
  ·refine⟨⟨o,I.kIn p o hk,hc⟩,λa e=>?_⟩
   cases e
   exact⟨o,I.kIn _ o hk,hd⟩
  ·have z:∃o,s.heap.get? p=some o/\o.ExactDict:=by
    rcases hk with⟨kvs,hk⟩ | ⟨kvs,hk⟩
    ·obtain⟨_,_,_,_,o,_,_,e,ex,_⟩:=I.hok p _ hk
     exact⟨o,e,ex⟩
    obtain⟨_,_,_,_,o,_,_,e,ex,_⟩:=I.hok p _ hk
    exact⟨o,e,ex⟩
   obtain⟨o,e,ex⟩:=z
   refine⟨⟨o,e,ex.1⟩,λa e2=>?_⟩
   cases e2
   exact⟨o,e,ex.2.1⟩
  obtain⟨o,_,_,_,e,ex,_⟩:=I.hok p _ hk
  refine⟨⟨o,e,ex.1⟩,λa e2=>?_⟩
  cases e2
  exact⟨o,e,ex.2.1⟩
 | _=>exact False.elim ty
def tBM0 (K:W.Frag)(T:String)(r:V->List V->Hp->VK->Prop)(to:TE):TE:=λσ H Q=>to σ H λx H1=>tyV K T x H1/\r x [] H1 Q
def tBM (K:W.Frag)(T:String)(r:V->List V->Hp->VK->Prop)(to:TE)(t:TA):TE:=λσ H Q=>to σ H λx H1=>tyV K T x H1/\t σ H1 λxs H2=>r x xs H2 Q
variable {o e:Expr}{es:List Expr}{to:TE}{t:TA}{name:Str}{apos cpos:Pos}{T id:String}{r:V->List V->Hp->VK->Prop}
theorem Zkx (pa:PlainAttrs T)(slot:Slot T name id)(hty:typeOf (.builtin id)=pure (.type "method_descriptor"))(hm:MtR X id r)(ho:PE X o to)
  (hbase:attributeBase o name X.env (eval o X.env)=eval o X.env:=by rfl)(hline:(apos.endLine == cpos.line)=true:=by rfl):PE X (.Call (.Attribute o name apos) [] [] cpos) (tBM0 X.K T r to):=by
 intro pins s σ H Q I h
 refine wpAny_Call_method0_late hbase hline (thn (ho pins s σ H _ I h) λv s1 hp0=>?_)
 obtain⟨x,H1,I1,r1,ty,q1⟩:=hp0
 obtain⟨h1,h2⟩:=Znu I1 r1 ty
 exact⟨T,id,pa,slot,hty,h1,h2,Calls.callWith_builtin rfl (PySem.evalArgs_none (hm pins s1 σ H1 x [] v [] Q I1 r1 .nil q1))⟩
theorem Zds (pa:PlainAttrs T)(slot:Slot T name id)(hty:typeOf (.builtin id)=pure (.type "method_descriptor"))(hm:MtR X id r)(ho:PE X o to)(ha:PA X (e::es) t)
  (hbase:attributeBase o name X.env (eval o X.env)=eval o X.env:=by rfl)
  (hfew:((backTo cpos (starEach (e::es) X.env)).all (λx=>!x.1) && (backToKw cpos (keywordEach [] X.env)).all (λx=>x.1.isSome)
   && decide ((e::es).length+([]:List Keyword).length+(if ([]:List Keyword).isEmpty then 0 else 1)<30))=true:=by rfl)
  (hline:(apos.endLine == cpos.line)=true:=by rfl)(hs:starEach (e::es) X.env=(false,eval e X.env)::starEach es X.env:=by rfl)(hplain:(backTo cpos (starEach es X.env)).any (·.1)=false:=by rfl) :
  PE X (.Call (.Attribute o name apos) (e::es) [] cpos) (tBM X.K T r to t):=by
 intro pins s σ H Q I h
 refine wpAny_Call_method_late hbase hfew hline rfl (thn (ho pins s σ H _ I h) λv s1 hp0=>?_)
 obtain⟨x,H1,I1,r1,ty,q1⟩:=hp0
 obtain⟨h1,h2⟩:=Znu I1 r1 ty
 refine⟨T,id,pa,slot,hty,h1,h2,?_⟩
 have hA:=ha cpos pins s1 σ H1 _ I1 q1
 rw[hs]at hA ⊢
 refine Calls.callWith_builtin (by show(false || (backTo cpos (starEach es X.env)).any (·.1))=false;rw[hplain] <;> rfl) (Calls.evalArgs_plain ?_)
 exact thn hA λus s2 hp0=>by obtain⟨vs,H2,I2,r2,q2⟩:=hp0;exact hm pins s2 σ H2 x vs v us Q I2 r1 r2 q2
end
def MtM (X:Cx)(id:String)(r:V->List V->Hp->VK->Prop):Prop:=
 ∀(pins:List (Addr×Obj)) (s:Shared) (σ:St) (H:Hp) (x:V) (xs:List V) (v:Value) (us:List Value) (Q:VK),Inv X pins σ H s->RelV x v->Vals xs us->r x xs H Q ->
  wpAny (model X.prog X.w) X.A (call (.builtin id) (v::us)) (EP X pins σ Q) X.xe s
theorem Vals.one:∀{x:V}{us:List Value},Vals [x] us->∃u,us=[u]/\RelV x u
 | _,_,.cons r .nil=>⟨_,rfl,r⟩
theorem Vals.zero:∀{us:List Value},Vals [] us->us=[]
 | _,.nil=>rfl
theorem Vals.dropLast {xs:List V}{us:List Value}(h:Vals xs us):Vals xs.dropLast us.dropLast:=by
 induction h with
 | nil=>exact .nil
 | cons r t ih=>
  cases t with
  | nil=>exact .nil
  | cons q t'=>exact .cons r ih
theorem erase_last {α:Type}(l:List α):l.eraseIdx (l.length-1)=l.dropLast:=by
 induction l with
 | nil=>rfl
 | cons a r ih=>
  cases r with
  | nil=>rfl
  | cons b r=>
   have e:(a::b::r).length-1=((b::r).length-1)+1:=by
    have h1:(a::b::r).length=r.length+2:=rfl
    have h2:(b::r).length=r.length+1:=rfl
    lia
   rw[e,List.eraseIdx_cons_succ,ih]
   all_goals rfl
section
variable {X:Cx}{pins:List (Addr×Obj)}{σ:St}{H:Hp}{s:Shared}{l b:Addr}{xs ys zs:List V}
theorem Inv.lset {its its':List Value}{n:Nat}{f:Array Value->Array Value}{t':Nat}(I:Inv X pins σ H s)(hH:H l=some (.lst xs))
  (e:s.heap.get? l=some { cls:=.type "list",data:=.seq its.toArray n })(hf:f its.toArray=its'.toArray)(hv:Vals ys its')(hz:ys.length<=sizeLine) :
  Inv X pins σ (upd H l (.lst ys)) { s with heap:=s.heap.update l (Obj.mapSeq f),toks:=t' }:=by
 have q:=PySem.IsL.update e f
 rw[hf]at q
 refine I.write (x:=l) (e:=l) (by rw[hH];exact trivial) (.inl rfl) (λb' u hb hu=>(Heap.get?_update_other s.heap (Obj.mapSeq f) (Ne.symm hb)).trans hu) ⟨_,q⟩ ?_
 exact⟨hz,its',_,hv,q⟩
theorem Inv.lnew {its:List Value}{t':Nat}(I:Inv X pins σ H s)(hv:Vals ys its)(hz:ys.length<=sizeLine) :
  Inv X pins σ (upd H s.heap.objs.size (.lst ys)) { s with heap:=s.heap.push { cls:=.type "list",data:=.seq its.toArray },toks:=t' }:=
 I.laid (λ_ _ q=>Heap.get?_push_of_some _ q) (Nat.le_refl _) ⟨hz,its,0,hv,Heap.get?_push_size _ rfl⟩
theorem Inv.fresh (I:Inv X pins σ H s):H s.heap.objs.size=none:=I.hok.fresh (Nat.le_refl _)
theorem Inv.lstM (I:Inv X pins σ H s)(hH:H l=some (.lst xs)):xs.length<=sizeLine/\∃(its:List Value) (n:Nat),Vals xs its/\xs.length=its.length/\s.heap.get? l=some { cls:=.type "list",data:=.seq its.toArray n }:=by
 obtain⟨z,its,n,r,e⟩:=I.hok l _ hH
 exact⟨z,its,n,r,r.length,e⟩
end
section
variable {X:Cx}
def rAppend:V->List V->Hp->VK->Prop:=λx vs H Q=>∃l xs y,x=.ref l/\vs=[y]/\H l=some (.lst xs)/\xs.length<sizeLine/\Q .non (upd H l (.lst (xs++[y])))
theorem Za7:MtM X "list.append" rAppend:=by
 intro pins s σ H x vs v us Q I rx rv h
 obtain⟨l,xs,y,rfl,rfl,hH,hz,q⟩:=h
 cases rx
 obtain⟨u,rfl,ru⟩:=rv.one
 obtain⟨z,its,n,r,hl,e⟩:=I.lstM hH
 refine call_meets F.slot_list_append ⟨_,e,rfl⟩ F.entry_list_append (F.args_list_append_2 _ _) (PySem.list_append l its.toArray n u (by rw[size_toArray];lia)) ⟨e,?_⟩
 refine⟨.non,_,I.lset (its':=its++[u]) hH e (by simp) (r.append (.cons ru .nil)) ?_,rfl,q⟩
 rw[length_append,length_singleton]
 lia
def rPop:V->List V->Hp->VK->Prop:=λx vs H Q=>∃l xs y,x=.ref l/\vs=[]/\H l=some (.lst xs)/\xs[xs.length-1]? = some y/\Q y (upd H l (.lst xs.dropLast))
theorem mt_pop:MtM X "list.pop" rPop:=by
 intro pins s σ H x vs v us Q I rx rv h
 obtain⟨l,xs,y,rfl,rfl,hH,hy,q⟩:=h
 cases rx
 have hus:=rv.zero
 subst hus
 obtain⟨z,its,n,r,hl,e⟩:=I.lstM hH
 obtain⟨u,hu,ru⟩:=r.get hy
 have hy':its.toArray[its.toArray.size-1]? = some u:=by
  show its.toArray[its.length-1]? = some u
  rw[<- Array.getElem?_toList,<- hl]
  exact hu
 refine call_meets F.slot_list_pop ⟨_,e,rfl⟩ F.entry_list_pop (F.args_list_pop_1 _) (MeetsSeq.list_pop_last l its.toArray n u hy' (by rw[size_toArray];lia)) ⟨e,?_⟩
 refine⟨y,_,I.lset (its':=its.dropLast) hH e ?_ r.dropLast ?_,ru,q⟩
 ·show its.toArray.eraseIdxIfInBounds (its.toArray.size-1)=its.dropLast.toArray
  rw[size_toArray,List.eraseIdxIfInBounds_toArray,erase_last]
 rw[List.length_dropLast]
 lia
def rCat:R2:=λx y H Q=>∃l b xs zs,x=.ref l/\y=.ref b/\H l=some (.lst xs)/\H b=some (.lst zs)/\xs.length+zs.length<=sizeLine/\∀p,H p=none->Q (.ref p) (upd H p (.lst (xs++zs)))
theorem Zmp:OpR X (binaryOp .Add) rCat:=by
 intro pins s σ H x y v u Q I rx ry h
 obtain⟨l,b,xs,zs,rfl,rfl,hH,hB,hz,q⟩:=h
 cases rx
 cases ry
 obtain⟨z,its,n,r,hl,e⟩:=I.lstM hH
 obtain⟨z2,its2,n2,r2,hl2,e2⟩:=I.lstM hB
 refine PySem.P.add_list e e2 ?_ (by rw[size_toArray,size_toArray];lia)
 have ea:its.toArray++its2.toArray=(its++its2).toArray:=by simp
 rw[ea]
 exact⟨.ref _,_,I.lnew (t':=s.toks) (r.append r2) (by rw[length_append];lia),rfl,q _ I.fresh⟩
end
section
variable {κ:Type} [DecidableEq κ]
def valV (kvs:List (κ×V))(k:κ):Option V:=(kvs.find? λkv=>decide (kv.1=k)).map (·.2)
def putK (kvs:List (κ×V))(k:κ)(v:V):List (κ×V):=
 if (kvs.any λkv=>decide (kv.1=k))=true then kvs.map (λkv=>if kv.1=k then(kv.1,v)else kv)else kvs++[(k,v)]
theorem Zfl {p:κ×V}{r:List (κ×V)}{k:κ}(e:p.1=k):valV (p::r) k=some p.2:=by simp[valV,find?_cons,e]
theorem Zfm {p:κ×V}{r:List (κ×V)}{k:κ}(e:¬p.1=k):valV (p::r) k=valV r k:=by simp[valV,find?_cons,e]
theorem Zed (k:κ):∀kvs:List (κ×V),(kvs.any λkv=>decide (kv.1=k))=(valV kvs k).isSome
 | []=>rfl
 | p::r=>by
  rw[any_cons]
  by_cases e:p.1=k
  ·simp only[Zfl e,decide_eq_true e,Bool.true_or,Option.isSome_some]
  rw[Zfm e,decide_eq_false e,Bool.false_or];exact Zed k r
theorem Zeb (kvs:List (κ×V))(k:κ)(v:V):(putK kvs k v).length<=kvs.length+1:=by
 unfold putK
 split
 ·rw[length_map];lia
 rw[length_append,length_cons,length_nil];lia
theorem Zdk {kvs:List (κ×V)}{k:κ}(v:V)(h:valV kvs k=none):putK kvs k v=kvs++[(k,v)]:=by
 unfold putK
 rw[Zed,h]
 exact if_neg (by decide)
theorem RelO.isSome_eq {o:Option V}{u:Option Value}(r:RelO o u):o.isSome=u.isSome:=by
 cases o with
 | none=>cases u with
  | none=>rfl
  | some _=>exact(show False from r).elim
 | some _=>cases u with
  | none=>exact(show False from r).elim
  | some _=>rfl
theorem RelO.getD {o:Option V}{u:Option Value}{d:V}{d':Value}(r:RelO o u)(rd:RelV d d'):RelV (o.getD d) (u.getD d'):=by
 cases o with
 | none=>cases u with
  | none=>exact rd
  | some _=>exact(show False from r).elim
 | some _=>cases u with
  | none=>exact(show False from r).elim
  | some _=>exact r
theorem KV.val {kvs:List (κ×V)}{vs:List (κ×Value)}(r:KV kvs vs)(k:κ):RelO (valV kvs k) (valueAt vs k):=by
 unfold KV at r
 induction r with
 | nil=>exact True.intro
 | @cons p q ps qs h t ih=>
  obtain⟨h1,h2⟩:=h
  by_cases e:p.1=k
  ·have e':q.1=k:=h1.symm.trans e
   have b:valueAt (q::qs) k=some q.2:=by simp[valueAt,find?_cons,e']
   rw[Zfl e,b];exact h2
  have e':¬q.1=k:=λz=>e (h1.trans z)
  have b:valueAt (q::qs) k=valueAt qs k:=by simp[valueAt,find?_cons,e']
  rw[Zfm e,b];exact ih
theorem KV.any {kvs:List (κ×V)}{vs:List (κ×Value)}(r:KV kvs vs)(k:κ):(kvs.any λkv=>decide (kv.1=k))=vs.any λkv=>decide (kv.1=k):=by
 unfold KV at r
 induction r with
 | nil=>rfl
 | cons h t ih=>rw[any_cons,any_cons,ih,h.1]
theorem KV.repl {kvs:List (κ×V)}{vs:List (κ×Value)}(r:KV kvs vs)(k:κ){y:V}{u:Value}(ry:RelV y u) :
  KV (kvs.map λkv=>if kv.1=k then(kv.1,y)else kv) (vs.map λkv=>if kv.1=k then(kv.1,u)else kv):=by
 unfold KV at r ⊢
 induction r with
 | nil=>exact .nil
 | @cons p q ps qs h t ih=>
  rw[map_cons,map_cons]
  refine .cons ?_ ih
  obtain⟨h1,h2⟩:=h
  by_cases e:p.1=k
  ·rw[if_pos e,if_pos (h1.symm.trans e)];exact⟨h1,ry⟩
  rw[if_neg e,if_neg (λz=>e (h1.trans z))];exact⟨h1,h2⟩
theorem KV.put {kvs:List (κ×V)}{vs:List (κ×Value)}(r:KV kvs vs)(k:κ){y:V}{u:Value}(ry:RelV y u):KV (putK kvs k y) (stored vs k u):=by
 unfold putK stored
 rw[r.any k]
 by_cases e:(vs.any λkv=>decide (kv.1=k))=true
 ·rw[if_pos e,if_pos e];exact r.repl k ry
 rw[if_neg e,if_neg e];exact Paired.snoc r ⟨rfl,ry⟩
theorem KV.keys {kvs:List (κ×V)}{vs:List (κ×Value)}(r:KV kvs vs):kvs.map (·.1)=vs.map (·.1):=by
 unfold KV at r
 induction r with
 | nil=>rfl
 | cons h t ih=>rw[map_cons,map_cons,ih,h.1]
theorem KV.length {kvs:List (κ×V)}{vs:List (κ×Value)}(r:KV kvs vs):kvs.length=vs.length:=Paired.length r
end
theorem Zib {P:Program}{w:World}{k:Key}{u:Value}(r:RelV (kV k) u):(Za0 P w).is k u=true:=by
 cases k with
 | inl i=>obtain⟨t,e⟩:=(show ∃t,u=Value.int i t from r);subst e;exact mixKind_int P w i t
 | inr x=>obtain⟨t,e⟩:=(show ∃t,u=Value.str x t from r);subst e;exact mixKind_str P w x t
theorem Zi7 {P:Program}{w:World}:∀{ks:List Key}{us:List Value},Vals (ks.map kV) us->ItemsAre (Za0 P w) ks us
 | [],_,r=>by rw[map_nil]at r;cases r;exact .nil
 | k::ks,_,r=>by
  rw[map_cons]at r
  cases r with
  | cons h t=>exact .cons (Zib h) (Zi7 t)
abbrev KT (H:Hp):List (List Key×V)->List (List Key×Addr×Value)->Prop:=Paired λp q=>p.1=q.1/\H q.2.1=some (.tup (p.1.map kV))/\RelV p.2 q.2.2
theorem KT.val {H:Hp}{kvs:List (List Key×V)}{xs:List (List Key×Addr×Value)}(r:KT H kvs xs)(k:List Key):RelO (valV kvs k) ((atKey xs k).map (·.2)):=by
 induction r with
 | nil=>exact True.intro
 | @cons p q ps qs h t ih=>
  obtain⟨h1,_,h2⟩:=h
  by_cases e:p.1=k
  ·have e':q.1=k:=h1.symm.trans e
   have b:atKey (q::qs) k=some q.2:=by simp[atKey,find?_cons,e']
   rw[Zfl e,b];exact h2
  have e':¬q.1=k:=λz=>e (h1.trans z)
  have b:atKey (q::qs) k=atKey qs k:=by simp[atKey,find?_cons,e']
  rw[Zfm e,b];exact ih
theorem KT.repl {H:Hp}{kvs:List (List Key×V)}{xs:List (List Key×Addr×Value)}(r:KT H kvs xs)(k:List Key){y:V}{u:Value}(ry:RelV y u) :
  KT H (kvs.map λkv=>if kv.1=k then(kv.1,y)else kv) (xs.map (putAt k u)):=by
 induction r with
 | nil=>exact .nil
 | @cons p q ps qs h t ih=>
  rw[map_cons,map_cons]
  refine .cons ?_ ih
  obtain⟨h1,h2,h3⟩:=h
  unfold putAt
  by_cases e:p.1=k
  ·rw[if_pos e,if_pos (h1.symm.trans e)];exact⟨h1,h2,ry⟩
  rw[if_neg e,if_neg (λz=>e (h1.trans z))];exact⟨h1,h2,h3⟩
theorem KT.put {H:Hp}{kvs:List (List Key×V)}{xs:List (List Key×Addr×Value)}(r:KT H kvs xs)(k:List Key){b:Addr}{y:V}{u:Value}(hb:H b=some (.tup (k.map kV)))(ry:RelV y u) :
  KT H (putK kvs k y) (storedH xs k b u):=by
 have e:(kvs.any λkv=>decide (kv.1=k))=(atKey xs k).isSome:=by
  rw[Zed,(r.val k).isSome_eq,isSome_map]
 unfold putK storedH
 rw[e]
 by_cases q:(atKey xs k).isSome=true
 ·rw[if_pos q,if_pos q];exact r.repl k ry
 rw[if_neg q,if_neg q];exact Paired.snoc r ⟨rfl,hb,ry⟩
theorem KT.keeps {H H':Hp}{kvs:List (List Key×V)}{xs:List (List Key×Addr×Value)}(r:KT H kvs xs)(ht:∀b ys,H b=some (.tup ys)->H' b=some (.tup ys)):KT H' kvs xs:=
 Paired.mapP r λ_ _ z=>⟨z.1,ht _ _ z.2.1,z.2.2⟩
section
variable {P:Program}{w:World}{H:Hp}{h:Heap}{a:Addr}
theorem rd_of {u:HO}(ok:HOk P w H h)(e:Rd H a u):ObjOk P w H h a u:=e.ok ok
theorem Zje {kvs:List (Key×V)}(ok:HOk P w H h)(e:Rd H a (.dK kvs)):kvs.length<=sizeLine/\(a == sysModules)=false/\∃vs,KV kvs vs/\h.DictOf (Za0 P w) a vs:=
 show ObjOk P w H h a (.dK kvs) from rd_of ok e
theorem Znt {kvs:List (Key×V)}(ok:HOk P w H h)(e:H a=some (.dK kvs)):kvs.length<=sizeLine/\(a == sysModules)=false/\∃vs,KV kvs vs/\h.DictOf (Za0 P w) a vs:=Zje ok (.inl e)
theorem Zhg {ks:List Key}(ok:HOk P w H h)(e:H a=some (.tup (ks.map kV))):(tupleKind (Za0 P w)).is h ks a:=by
 obtain⟨_,its,r,o,h1,h2,n,h3⟩:=(show ObjOk P w H h a (.tup (ks.map kV)) from ok a _ e)
 exact⟨o,its.toArray,n,h1,h2,h3,by simpa using Zi7 r⟩
theorem Zj8 {kvs:List (List Key×V)}(ok:HOk P w H h)(e:Rd H a (.dT kvs)):kvs.length<=sizeLine/\(a == sysModules)=false /\
  ∃xs,KT H kvs xs/\h.DictOfH (tupleKind (Za0 P w)) a xs:=by
 obtain⟨z,y,xs,r,o,es,ep,h1,h2,h3,h4,h5⟩:=(show ObjOk P w H h a (.dT kvs) from rd_of ok e)
 refine⟨z,y,xs,r,o,es,ep,h1,h2,h3,h4,λx hx=>?_,h5⟩
 have all:∀{l:List (List Key×V)}{m:List (List Key×Addr×Value)},KT H l m->∀x∈m,(tupleKind (Za0 P w)).is h x.1 x.2.1:=by
  intro l m q
  induction q with
  | nil=>intro x hx;exact nomatch hx
  | @cons p q ps qs hq t ih=>
   intro x hx
   rcases(mem_cons.mp hx)with e | hx
   ·subst e
    exact Zhg ok (by rw[<- hq.1];exact hq.2.1)
   exact ih x hx
 exact all r x hx
theorem dt_of {kvs:List (List Key×V)}(ok:HOk P w H h)(e:H a=some (.dT kvs)):kvs.length<=sizeLine/\(a == sysModules)=false /\
  ∃xs,KT H kvs xs/\h.DictOfH (tupleKind (Za0 P w)) a xs:=Zj8 ok (.inl e)
end
def DGet (H:Hp)(a:Addr)(y:V)(r:Option V):Prop:=
 (∃kvs k,Rd H a (.dK kvs)/\y=kV k/\r=valV kvs k)\/∃kvs k b,Rd H a (.dT kvs)/\y=.ref b/\H b=some (.tup (k.map kV))/\r=valV kvs k
def DPut (H:Hp)(a:Addr)(y v:V)(H':Hp):Prop:=
 (∃kvs k,H a=some (.dK kvs)/\y=kV k/\kvs.length<sizeLine/\H'=upd H a (.dK (putK kvs k v))) \/
 ∃kvs k b,H a=some (.dT kvs)/\y=.ref b/\H b=some (.tup (k.map kV))/\kvs.length<sizeLine/\H'=upd H a (.dT (putK kvs k v))
theorem DGet.k {H:Hp}{a:Addr}{kvs:List (Key×V)}{k:Key}(e:H a=some (.dK kvs)):DGet H a (kV k) (valV kvs k):=.inl ⟨kvs,k,.inl e,rfl,rfl⟩
theorem DPut.k {H:Hp}{a:Addr}{kvs:List (Key×V)}{k:Key}{v:V}(e:H a=some (.dK kvs))(hl:kvs.length<sizeLine):DPut H a (kV k) v (upd H a (.dK (putK kvs k v))):=.inl ⟨kvs,k,e,rfl,hl,rfl⟩
section
variable {X:Cx}{pins:List (Addr×Obj)}{σ:St}{H:Hp}{s:Shared}{a:Addr}{y v:V}{u r:Value}{o:Option V}{A:Around}{E:Value->Shared->Prop}
theorem Inv.big (I:Inv X pins σ H s):sysModules<s.heap.objs.size:=by
 have h:mainGlobals<s.heap.objs.size:=(I.mod.glob.keeps I.bk).lt
 exact lt_trans (by decide) h
theorem d_getItem {Q:Value->Shared->Prop}(hu:A.units+1<cLine)(I:Inv X pins σ H s)(g:DGet H a y (some v))(ry:RelV y u)(h:∀w' s',Inv X pins σ H s'->RelV v w'->Q w' s') :
  wpAny (model X.prog X.w) A (getItem (.ref a) u) Q E s:=by
 rcases g with⟨kvs,k,e,ey,l⟩ | ⟨kvs,k,b,e,ey,eb,l⟩
 ·subst ey
  obtain⟨z,hd,vs,rel,dd⟩:=Zje I.hok e
  obtain⟨w',hw,rw'⟩:=RelO.some_of (v:=v) (o:=valueAt vs k) (by rw[l];exact rel.val k)
  exact wpAny_getItem_of (Zib ry) dd.mapOf hw (h w' _ (I.tok _) rw')
 subst ey
 cases (show u=Value.ref b from ry)
 obtain⟨z,hd,xs,rel,dd⟩:=Zj8 I.hok e
 obtain⟨w',hw,rw'⟩:=RelO.some_of (v:=v) (o:=(atKey xs k).map (·.2)) (by rw[l];exact rel.val k)
 obtain⟨p,hp,hp2⟩:=map_eq_some_iff.mp hw
 refine wpAny_getItem_heap (tupleKind_room_in1 hu) (Zhg I.hok eb) dd hp ?_
 rw[hp2]
 exact h w' _ (I.tok _) rw'
theorem d_in {Q:Value->Shared->Prop}(hu:A.units+1<cLine)(I:Inv X pins σ H s)(g:DGet H a y o)(ry:RelV y u)(h:∀s',Inv X pins σ H s'->Q (.bool o.isSome) s') :
  wpAny (model X.prog X.w) A (compareOp .In u (.ref a)) Q E s:=by
 rcases g with⟨kvs,k,e,ey,l⟩ | ⟨kvs,k,b,e,ey,eb,l⟩
 ·subst ey
  obtain⟨z,hd,vs,rel,dd⟩:=Zje I.hok e
  refine wpAny_in_of (Zib ry) hd dd.mapOf ?_
  rw[<- (rel.val k).isSome_eq,<- l]
  exact h _ (I.tok _)
 subst ey
 cases (show u=Value.ref b from ry)
 obtain⟨z,hd,xs,rel,dd⟩:=Zj8 I.hok e
 refine wpAny_in_heap (tupleKind_room_in1 hu) (Zhg I.hok eb) hd dd ?_
 have q:=(rel.val k).isSome_eq
 rw[isSome_map]at q
 rw[<- q,<- l]
 exact h _ (I.tok _)
theorem d_notIn {Q:Value->Shared->Prop}(hu:A.units+1<cLine)(I:Inv X pins σ H s)(g:DGet H a y o)(ry:RelV y u)(h:∀s',Inv X pins σ H s'->Q (.bool (!o.isSome)) s') :
  wpAny (model X.prog X.w) A (compareOp .NotIn u (.ref a)) Q E s:=by
 rcases g with⟨kvs,k,e,ey,l⟩ | ⟨kvs,k,b,e,ey,eb,l⟩
 ·subst ey
  obtain⟨z,hd,vs,rel,dd⟩:=Zje I.hok e
  refine wpAny_notIn_of (Zib ry) hd dd.mapOf ?_
  rw[<- (rel.val k).isSome_eq,<- l]
  exact h _ (I.tok _)
 subst ey
 cases (show u=Value.ref b from ry)
 obtain⟨z,hd,xs,rel,dd⟩:=Zj8 I.hok e
 refine wpAny_notIn_heap (tupleKind_room_in1 hu) (Zhg I.hok eb) hd dd ?_
 have q:=(rel.val k).isSome_eq
 rw[isSome_map]at q
 rw[<- q,<- l]
 exact h _ (I.tok _)
theorem Zm8 {h':Heap}{t':Nat}{ob:HO}(I:Inv X pins σ H s)(mu:Mut (H a))(hs:Heap.SameBut a s.heap h')(he:∃q,h'.get? a=some q)(new:ObjOk X.prog X.w (upd H a ob) h' a ob) :
  Inv X pins σ (upd H a ob) { s with heap:=h',toks:=t' }:=
 I.write (x:=a) (e:=a) mu (.inl rfl) (λb q hb z=>(hs.2 b hb).trans z) he new
theorem dk_new {P:Program}{w:World}{H':Hp}{h':Heap}{kvs:List (Key×V)}{vs:List (Key×Value)}(z:kvs.length<=sizeLine)(hd:(a == sysModules)=false)(rel:KV kvs vs)(dd:h'.DictOf (Za0 P w) a vs) :
  ObjOk P w H' h' a (.dK kvs):=⟨z,hd,vs,rel,dd⟩
theorem d_setItem {H':Hp}{Q:Unit->Shared->Prop}(hu:A.units+1<cLine)(I:Inv X pins σ H s)(g:DPut H a y v H')(ry:RelV y u)(rv:RelV v r)(h:∀s',Inv X pins σ H' s'->Q () s') :
  wpAny (model X.prog X.w) A (setItem (.ref a) u r) Q E s:=by
 rcases g with⟨kvs,k,e,ey,l,eH⟩ | ⟨kvs,k,b,e,ey,eb,l,eH⟩
 ·subst ey eH
  obtain⟨z,hd,vs,rel,dd⟩:=Znt I.hok e
  have hz:vs.length<=sizeLine:=by rw[<- rel.length];exact z
  have hl:(putK kvs k v).length<=sizeLine:=by have:=Zeb kvs k v;lia
  refine wpAny_setItem_pairs (hsz:=hz) (Zib ry) dd λh' dd' hs=>h _ ?_
  have he:∃q,h'.get? a=some q:=let ⟨q,_,_,hq,_⟩:=dd';⟨q,hq⟩
  exact Zm8 I (by rw[e];exact True.intro) hs he (dk_new hl hd (rel.put k rv) dd')
 subst ey eH
 cases (show u=Value.ref b from ry)
 obtain⟨z,hd,xs,rel,dd⟩:=dt_of I.hok e
 have hz:xs.length<=sizeLine:=by rw[<- Paired.length rel];exact z
 have hl:(putK kvs k v).length<=sizeLine:=by have:=Zeb kvs k v;lia
 refine wpAny_setItem_heap (hsz:=hz) (tupleKind_room_in1 hu) (Zhg I.hok eb) dd λh' dd' hs=>h _ ?_
 obtain⟨q,es,ep,hq,h2,h3,h4,_,h5⟩:=dd'
 refine Zm8 I (by rw[e];exact True.intro) hs ⟨q,hq⟩ ⟨hl,hd,_,(rel.put k eb rv).keeps λc ys ec=>?_,q,es,ep,hq,h2,h3,h4,h5⟩
 rw[Zaj (Zbg ec e (λz=>nomatch z))]
 exact ec
end
def NoSl (i:Expr):Prop:=∀ov iv,subscripted i false ov iv=operate [ov,iv] (getItem ov iv)
theorem subD_of {prog:Program}{w:World}{A:Around}{E:Value->Shared->Prop}{s:Shared}{env:Env}{value slice:Expr}{pos:Pos}{T id:String}{Q:Value->Shared->Prop}
  (hl:typeLookup (.type T) "__getitem__" = pure (some (.builtin id)))(hs:NoSl slice)
  (h:wpAny (model prog w) A (eval value env) (λo s₁=>wpAny (model prog w) A (eval slice env) (λi s₂=>s₂.TypeIs o T/\wpAny (model prog w) A (getItem o i) Q E s₂) E s₁) E s) :
  wpAny (model prog w) A (eval (.Subscript value slice pos) env) Q E s:=by
 refine Subscript_ (wpAny_mono h (λo s₁ h₁=>wpAny_mono h₁ (λi s₂ h₂=>?_) λ_ _ x=>x) λ_ _ x=>x)
 obtain⟨hT,h₂⟩:=h₂
 unfold subscriptTail
 refine wpAny_bind ?_
 rw[getitemInPython_of_ne hT.not_modules]
 refine wpAny_bind (wpAny_specialOf hT hl ?_)
 have fin:wpAny (model prog w) A (subscripted slice false o i) (λr s₃=>wpAny (model prog w) A (letTemporaryGo value o r >>= λ_=>pure r) Q E s₃) E s₂:=by
  rw[hs o i]
  exact wpAny_operating (wpAny_mono h₂ (λr s₃ h₃=>wpAny_bind (wpAny_letTemporaryGo (wpAny_pure h₃))) λ_ _ x=>x)
 first
  | exact wpAny_pure (wpAny_bind fin)
  | exact wpAny_bind (wpAny_pure (wpAny_bind fin))
  | exact wpAny_bind fin
theorem dict_typeIs {X:Cx}{pins:List (Addr×Obj)}{σ:St}{H:Hp}{s:Shared}{a:Addr}{y:V}{o:Option V}(I:Inv X pins σ H s)(g:DGet H a y o):s.TypeIs (.ref a) "dict" := by
 rcases g with⟨kvs,k,e,_,_⟩ | ⟨kvs,k,b,e,_,_,_⟩
 ·obtain⟨_,_,vs,_,dd⟩:=Zje I.hok e
  exact dd.typeIs
 obtain⟨_,_,xs,_,dd⟩:=Zj8 I.hok e
 exact dd.typeIs
inductive hasD (Q:VK)(x y:V)(H2:Hp):Prop
 | mk (a:_) (v:_) (c0:x=.ref a) (c1:DGet H2 a y (some v)) (c2:Q v H2):hasD Q x y H2
def tDGet (td ty:TE):TE:=λσ H Q=>td σ H λx H1=>ty σ H1 λy H2=>hasD Q x y H2
inductive inD (Q:VK)(x y:V)(H2:Hp):Prop
 | mk (a:_) (o:_) (c0:x=.ref a) (c1:DGet H2 a y o) (c2:Q (.bl o.isSome) H2):inD Q x y H2
def tDIn (ty td:TE):TE:=λσ H Q=>ty σ H λy H1=>td σ H1 λx H2=>inD Q x y H2
def tDNotIn (ty td:TE):TE:=λσ H Q=>ty σ H λy H1=>td σ H1 λx H2=>∃a o,x=.ref a/\DGet H2 a y o/\Q (.bl (!o.isSome)) H2
def sDPut (td ty tv:TE):TS:=λD σ H=>tv σ H λv H1=>td σ H1 λx H2=>ty σ H2 λy H3=>∃a H4,x=.ref a/\DPut H3 a y v H4/\D.nx σ H4
section
variable {X:Cx}{o i e value:Expr}{pos pos' tpos:Pos}{td ty tv:TE}
theorem Zjz (hu:X.A.units+1<cLine)(ho:PE X o td)(hi:PE X i ty)(hs:NoSl i):PE X (.Subscript o i pos) (tDGet td ty):=by
 intro pins s σ H Q I h
 refine subD_of PySem.F.slot_dict_getitem.lookup hs (thn (ho pins s σ H _ I h) λu s1 hp0=>?_)
 obtain⟨x,H1,I1,rx,q1⟩:=hp0
 refine thn (hi pins s1 σ H1 _ I1 q1) λiv s2 hp1=>?_
 obtain⟨y,H2,I2,ry,a,v,ex,g,q2⟩:=hp1
 subst ex
 obtain rfl:u=Value.ref a:=rx
 exact⟨dict_typeIs I2 g,d_getItem hu I2 g ry λw' s3 I3 rw'=>⟨v,H2,I3,rw',q2⟩⟩
theorem pc_din (hu:X.A.units+1<cLine)(hi:PE X i ty)(ho:PE X o td):PC X .In i o (tDIn ty td):=by
 intro pins s σ H Q I h
 refine thn (hi pins s σ H _ I h) λiv s1 hp0=>?_
 obtain⟨y,H1,I1,ry,q1⟩:=hp0
 refine thn (ho pins s1 σ H1 _ I1 q1) λu s2 hp1=>?_
 obtain⟨x,H2,I2,rx,a,ov,ex,g,q2⟩:=hp1
 subst ex
 obtain rfl:u=Value.ref a:=rx
 exact d_in hu I2 g ry λs3 I3=>⟨.bl ov.isSome,H2,I3,rfl,q2⟩
theorem Zgf (hu:X.A.units+1<cLine)(hi:PE X i ty)(ho:PE X o td):PC X .NotIn i o (tDNotIn ty td):=by
 intro pins s σ H Q I h
 refine thn (hi pins s σ H _ I h) λiv s1 hp0=>?_
 obtain⟨y,H1,I1,ry,q1⟩:=hp0
 refine thn (ho pins s1 σ H1 _ I1 q1) λu s2 hp1=>?_
 obtain⟨x,H2,I2,rx,a,ov,ex,g,q2⟩:=hp1
 subst ex
 obtain rfl:u=Value.ref a:=rx
 exact d_notIn hu I2 g ry λs3 I3=>⟨.bl (!ov.isSome),H2,I3,rfl,q2⟩
theorem Zgb (hu:X.A.units+1<cLine)(ho:PE X o td)(hi:PE X i ty)(hv:PE X value tv)(hs:swapsWith value (some (.Subscript o i pos')) pos.line X.env=pure false) :
  PS X (.Assign [.Subscript o i pos'] value pos) (sDPut td ty tv):=by
 intro pins s σ H D I h
 refine wpAny_Assign_Subscript (thn (hv pins s σ H _ I h) λr s1 hp0=>?_) hs
 obtain⟨v,H1,I1,rv,q1⟩:=hp0
 refine thn (ho pins s1 σ H1 _ I1 q1) λu s2 hp1=>?_
 obtain⟨x,H2,I2,rx,q2⟩:=hp1
 refine thn (hi pins s2 σ H2 _ I2 q2) λiv s3 hp2=>?_
 obtain⟨y,H3,I3,ry,a,H4,ex,g,q3⟩:=hp2
 subst ex
 obtain rfl:u=Value.ref a:=rx
 exact d_setItem hu I3 g ry rv λs4 I4=>⟨σ,H4,I4,q3⟩
end
theorem dk_empty {P:Program}{w:World}{H:Hp}(h:Heap)(hb:sysModules<h.objs.size):ObjOk P w H (h.push { cls:=.type "dict",data:=.dict #[] }) h.objs.size (.dK []):=
 ⟨zero_le _,beq_eq_false_iff_ne.mpr (Ne.symm (ne_of_lt hb)),[],.nil,Heap.DictOf.new h⟩
def tDNewK:TE:=λ_ H Q=>∀p,H p=none->Q (.ref p) (upd H p (.dK []))
section
variable {X:Cx}{pos:Pos}
theorem Zfs:PE X (.Dict [] [] pos) tDNewK:=λpins s σ H Q I h=>
 wpAny_Dict_empty ⟨.ref s.heap.objs.size,_,I.laid (a:=s.heap.objs.size) (o:=.dK []) (t':=s.toks) (λ_ _ q=>Heap.get?_push_of_some _ q) (Nat.le_refl _) (dk_empty s.heap I.big),rfl,h _ (I.hok.fresh (Nat.le_refl _))⟩
end
structure M2 (X:Cx)(o:Expr)(m:Str)(apos:Pos)(e f:Expr)(cpos:Pos):Prop where
 base:attributeBase o m X.env (eval o X.env)=eval o X.env
 few:((backTo cpos (starEach [e,f] X.env)).all (λx=>!x.1) && (backToKw cpos (keywordEach [] X.env)).all (λx=>x.1.isSome)
  && decide (([e,f]:List Expr).length+([]:List Keyword).length+(if ([]:List Keyword).isEmpty then 0 else 1)<30))=true
 line:(apos.endLine == cpos.line)=true
 trees:backTo cpos (starEach [e,f] X.env)=[(false,eval e X.env),(false,eval f X.env)]
def IsD (H:Hp)(a:Addr):Prop:=(∃kvs,Rd H a (.dK kvs))\/∃kvs,Rd H a (.dT kvs)
theorem Zoc {X:Cx}{pins:List (Addr×Obj)}{σ:St}{H:Hp}{s:Shared}{a:Addr}(I:Inv X pins σ H s)(d:IsD H a) :
  s.TypeIs (.ref a) "dict" /\ (∀b,Value.ref a=.ref b->∃ob,s.heap.get? b=some ob/\ob.dict=none)/\(a == sysModules)=false:=by
 rcases d with⟨kvs,e⟩ | ⟨kvs,e⟩
 ·obtain⟨_,hd,vs,_,dd⟩:=Zje I.hok e
  refine⟨dd.typeIs,λb q=>?_,hd⟩
  cases q
  obtain⟨ob,_,_,h1,h2,_⟩:=dd
  exact⟨ob,h1,h2.2.1⟩
 obtain⟨_,hd,xs,_,dd⟩:=Zj8 I.hok e
 refine⟨dd.typeIs,λb q=>?_,hd⟩
 cases q
 obtain⟨ob,_,_,h1,h2,_⟩:=dd
 exact⟨ob,h1,h2.2.1⟩
section
variable {X:Cx}{pins:List (Addr×Obj)}{σ:St}{H:Hp}{s:Shared}{a:Addr}{y d:V}{u r:Value}{o:Option V}{A:Around}{E:Value->Shared->Prop}
theorem d_get2 {Q:Value->Shared->Prop}(hu:A.units+1<cLine)(I:Inv X pins σ H s)(g:DGet H a y o)(ry:RelV y u)(rd:RelV d r)(h:∀w' s',Inv X pins σ H s'->RelV (o.getD d) w'->Q w' s') :
  wpAny (model X.prog X.w) A (call (.builtin "dict.get") [.ref a,u,r]) Q E s:=by
 rcases g with⟨kvs,k,e,ey,l⟩ | ⟨kvs,k,b,e,ey,eb,l⟩
 ·subst ey
  obtain⟨z,hd,vs,rel,dd⟩:=Zje I.hok e
  refine call_meetsIn PySem.F.slot_dict_get dd.typeIs PySem.F.entry_dict_get (PySem.F.args_dict_get_3 _ _ _) (meets_dict_get_default (Za0 X.prog X.w) a (Zib ry) hd r) ⟨_,dd.mapOf,h _ _ (I.tok _) ?_⟩
  rw[l]
  exact(rel.val k).getD rd
 subst ey
 cases (show u=Value.ref b from ry)
 obtain⟨z,hd,xs,rel,dd⟩:=Zj8 I.hok e
 refine call_meetsIn PySem.F.slot_dict_get dd.typeIs PySem.F.entry_dict_get (PySem.F.args_dict_get_3 _ _ _) (meetsH_dict_get_default (tupleKind (Za0 X.prog X.w)) a b hd r) ⟨tupleKind_room_in1 hu,k,xs,Zhg I.hok eb,dd,h _ _ (I.tok _) ?_⟩
 rw[l]
 exact(rel.val k).getD rd
end
def tDGet2 (td ty tx:TE):TE:=λσ H Q=>td σ H λx H1=>∃a,x=.ref a/\IsD H1 a/\ty σ H1 λy H2=>tx σ H2 λz H3=>∃o,DGet H3 a y o/\Q (o.getD z) H3
section
variable {X:Cx}{o e f:Expr}{apos cpos:Pos}{td ty tx:TE}
theorem Zkw (hu:X.A.units+1<cLine)(ho:PE X o td)(he:PE X e ty)(hf:PE X f tx)(m:M2 X o "get" apos e f cpos):PE X (.Call (.Attribute o "get" apos) [e,f] [] cpos) (tDGet2 td ty tx):=by
 intro pins s σ H Q I h
 refine wpAny_Call_method m.base m.few m.line PySem.F.plainAttrs_dict PySem.F.slot_dict_get PySem.F.type_dict_get (thn (ho pins s σ H _ I h) λu s1 hp0=>?_)
 obtain⟨x,H1,I1,rx,a,ex,d,q1⟩:=hp0
 subst ex
 obtain rfl:u=Value.ref a:=rx
 obtain⟨t1,t2,_⟩:=Zoc I1 d
 refine⟨t1,t2,?_⟩
 rw[m.trees]
 refine Calls.callWith_builtin rfl (Calls.evalArgs_plain (Calls.spliced_cons (thn (he pins s1 σ H1 _ I1 q1) λiv s2 ⟨y,H2,I2,ry,q2⟩=>
  Calls.spliced_cons (thn (hf pins s2 σ H2 _ I2 q2) λfv s3 ⟨z,H3,I3,rz,ov,g,q3⟩=>Calls.spliced_nil ?_))))
 exact d_get2 hu I3 g ry rz λw' s4 I4 rw'=>⟨_,H3,I4,rw',q3⟩
end
end L2
namespace Att
open PySem PySem.W PySem.Calls PyProof.Rows
theorem ints_of_wellAll {P:Params}{h:Heap}:∀(ns:List Int) (vs:List Value),WellAll P h vs (ns.map WData.int)->IntsAre vs ns:=by
 intro ns
 induction ns with
 | nil=>
  intro vs w
  rw[map_nil]at w
  cases w
  exact .nil
 | cons n ns ih=>
  intro vs w
  rw[map_cons]at w
  cases w with
  | cons a b=>
   cases a
   exact .cons _ _ (ih _ b)
theorem script_of {l:OpenLaw}{n:Nat}(hn:l.most=some n){P:Params}{h:Heap}{args:List WData}{vals:List Value}
  (hpre:l.row.toRowW.claim.pre args=true)(hwl:WellAll P h vals args) :
  ∃a vs ns,vals=[Value.ref a]/\args=[WData.list (ns.map WData.int)]/\h.get? a=some { cls:=.type "list",data:=.seq vs.toArray }/\IntsAre vs ns/\ns.length<=n:=by
 have hsh:WShape.hasAll [] args [.list .int]=true:=(pre_splitW hpre).1
 have hc:l.pre.holds [] { args:=args } = true:=(pre_splitW hpre).2
 obtain⟨d,r,rfl,h1,h2⟩:=hasAllW_cons hsh
 obtain rfl:=hasAllW_nil h2
 obtain⟨xs,rfl,h3⟩:=hasW_list h1
 obtain⟨ns,rfl⟩:=items_int h3
 have hlen:ns.length<=n:=by
  unfold OpenLaw.pre at hc
  have h4:(WTm.not (.lt (.lit (.int (n:Int))) (.len (.arg 0)))).holds [] { args:=[.list (ns.map .int)] } = true:=by
   have h4:=(holds_andW hc).1
   rw[hn]at h4
   exact h4
  have h5:=condW_of h4 (w_not (w_lt w_lit (w_len_list (w_arg rfl))))
  rw[length_map]at h5
  refine le_of_not_lt λq=>?_
  have q':(n:Int)<((ns.length:Nat):Int):=by lia
  first
   | (rw[decide_eq_true q']at h5;exact absurd h5 (by decide))
   | (simp at h5;lia)
 cases hwl with
 | cons w1 w2=>
  cases w2
  cases w1 with
  | list ho hall=>exact⟨_,_,ns,rfl,rfl,ho,ints_of_wellAll ns _ hall,hlen⟩
theorem post_true (l:OpenLaw)(args:List WData):l.row.toRowW.claim.post args (.bool true) args=true:=
 postW_of (r:=l.row.toRowW) (X:=(true == true))
  (show WShape.has [] (.bool true) .bool=true by first | rfl | decide | simp[WShape.has,WShape.arms,WShape.armsAll])
  (show(WTm.eq .res (.lit (.bool true))).value [] { args:=args,res:=some (.bool true),after:=args } = some (.bool (true == true)) from w_eq_bool (w_res rfl) w_lit) rfl
theorem attach_call {l:OpenLaw}{n:Nat}{q:Program}{loose:List Str}{XP:(Str->Option Value)->Heap->Prop}{YP:World->Heap->Prop}{d:DefRec}
  (hn:l.most=some n)(hdf:d.params.defaults=[])
  (call:∀(w:World) (s₀ s₁:Shared) (mg mb:Str->Option Value) (fa:Addr) (o:Obj) (pm cd doc:Value) (a:Addr) (vs:List Value) (ns:List Int),
   Ground q loose [] XP w s₀ mg mb s₁.heap->YP w s₁.heap ->
   s₁.heap.get? fa=some o->o.data=.func (docDef d.name d.params d.body d.scope pm cd doc)->s₁.heap.CodeRec cd d.name->mg d.name=some (.ref fa) ->
   s₁.heap.get? a=some { cls:=.type "list",data:=.seq vs.toArray }->IntsAre vs ns->ns.length<=n->s₁.gens=#[] ->
   codeAny (model l.prog w) callerA (.call (.ref fa) ⟨[.ref a],[]⟩) (λr s'=>r=.ok (.ret (.bool true))/\OldK s₁.heap s'.heap/\s'.os=s₁.os/\AllBare s'.gens) s₁) :
  WalkO q loose XP YP l.row.toRowW d [] (λf vs=>PySem.call f vs):=by
 intro w s₀ s₁ mg mb G Y fa o pm cd doc dV kV ho hd hcd hD hmg hg args vals as hpre hlay hrd hwl hlo
 obtain rfl:dV=.none:=Dflts.none hD hdf
 obtain rfl:kV=.none:=Dflts.noKw hD
 obtain⟨a,vs,ns,rfl,rfl,hobj,hints,hlen⟩:=script_of hn hpre hwl
 refine enter_call (codeAny_mono (call w s₀ s₁ mg mb fa o pm cd doc a vs ns G Y ho (fd_plain hd) hcd hmg hobj hints hlen hg) λr s' hq=>?_)
 obtain⟨rfl,h2,h3,h4⟩:=hq
 exact⟨.inl ⟨.bool true,.bool true,[],rfl,λ_=>rfl,.bool true,post_true l _,λ_=>⟨List.Pairwise.nil,λ_ hm=>(nomatch hm)⟩⟩,h2,h3,h4⟩
end Att
namespace L2
open PySem PySem.Spec PyProof.Rows
theorem Zio:∀{vs:List Value}{ns:List Int},IntsAre vs ns->Vals (ns.map V.int) vs
 | _,_,.nil=>.nil
 | _,_,.cons n t h=>.cons ⟨t,rfl⟩ (Zio h)
def Only (H:Hp):Prop:=∀b,H b=none\/∃o xs,H b=some (.frz o (.lst xs))
theorem law_call {P:Program}{w:World}{K:W.Frag}{mg mb:Str->Option Value}{CX:CXT}{k:Nat}{fa a:Addr}{fd:FuncData}{x:Str}{sp:Sp}{s₁:Shared}{vs:List Value}{ns:List Int}
  (KX:K.In s₁.heap)(hns:s₁.heap.Ns mainGlobals mg)(hb:s₁.heap.Ns builtinsNs mb)(hbb:∀x:Str,x ≠ "__name__" -> mb x=bootBuiltins x)(hlim:s₁.heap.NoLimit)(hg:s₁.gens=#[])
  (ha:s₁.heap.get? a=some { cls:=.type "list",data:=.seq vs.toArray })(hi:IntsAre vs ns)(hl:ns.length<=sizeLine)(hr:Room k callerA)
  (F:∀base:Heap,K.In base->base.Ns mainGlobals mg->FnOk P w K mg base CX k fa fd [x] sp)(hbind:∀(s:Shared) (u:Value),BindsTo s fd ⟨[u],[]⟩ [(x,u)])
  (hsp:∀H:Hp,Only H->SqL K H a (ns.map V.int)->sp [.ref a] H (λv _=>v=.bl true) λ_ _ _=>False)
  (hCX:∀H e s',CX [] H s₁ (λ_ _ _=>False) e s'->False) :
  codeAny (model P w) callerA (.call (.ref fa) ⟨[.ref a],[]⟩) (λr s'=>r=.ok (.ret (.bool true))/\OldK s₁.heap s'.heap/\s'.os=s₁.os/\AllBare s'.gens) s₁:=by
 have rv:=Zio hi
 have lenV:=hi.length
 -- from an abstract heap in which nothing but the script may be tracked
 have core:∀H:Hp,Only H->SqL K H a (ns.map V.int)->HOk P w H s₁.heap->(∀b,H b≠none->b=a)->(H a≠none->K.lookup a=none) ->
   codeAny (model P w) callerA (.call (.ref fa) ⟨[.ref a],[]⟩) (λr s'=>r=.ok (.ret (.bool true))/\OldK s₁.heap s'.heap/\s'.os=s₁.os/\AllBare s'.gens) s₁:=by
  intro H hO hS hok hA hK
  have base_of:∀{b:Addr}{o:Obj},s₁.heap.get? b=some o->H b=none->(hidT s₁.heap H).get? b=some o:=λe n=>hidT_get e n
  have noA:∀{b:Addr}{o:Obj}{es:Array DictEntry}{ep:Nat},s₁.heap.get? b=some o->o.data=.dict es ep->H b=none:=λ{b o es ep} e d=>by
   cases q:H b with
   | none=>rfl
   | some u=>
    have e':b=a:=hA b (by rw[q];simp)
    subst e'
    rw[ha]at e;cases e
    have d':Data.seq vs.toArray _=Data.dict es ep:=d
    cases d'
  have nsK:∀{b:Addr}{m:Str->Option Value},s₁.heap.Ns b m->(hidT s₁.heap H).Ns b m:=λ{b m} ⟨o,es,ep,e,d,r⟩=>⟨o,es,ep,base_of e (noA e d),d,r⟩
  have hKb:K.In (hidT s₁.heap H):=λb o e=>base_of (KX b o e) (by
   cases q:H b with
   | none=>rfl
   | some u=>
    have e':b=a:=hA b (by rw[q];simp)
    subst e'
    rw[hK (by rw[q];simp)]at e;cases e)
  have hM:Mod K mg (hidT s₁.heap H):=⟨hKb,nsK hns,⟨mb,nsK hb,hbb⟩,let ⟨mc,h1,h2⟩:=hlim;⟨mc,nsK h1,h2⟩⟩
  have e0:Env0 P w K mg (hidT s₁.heap H) callerA [] s₁ H:=⟨rfl,hM,λb o e=>of_hidT e,le_of_eq (hidT_size _ _),trivial,λb hb=>absurd (show b∈([]:List Addr) from hb) (by simp),hok,.of_eq hg⟩
  refine codeAny_mono ((F _ hKb (nsK hns)).run callerA [] s₁ H ⟨[.ref a],[]⟩ [.ref a] [.ref a] _ _ hr e0 (hbind s₁ (.ref a)) (.cons rfl .nil) (hsp H hO hS)) λr s' h=>?_
  cases r with
  | error e=>exact(hCX H e s' h).elim
  | ok fl=>
   cases fl with
   | next=>exact False.elim h
   | brk=>exact False.elim h
   | cont=>exact False.elim h
   | ret u=>
    obtain⟨v,H',os,bare,un,hok',r',q⟩:=h
    have q':v=.bl true:=q
    subst q'
    obtain rfl:u=Value.bool true:=r'
    refine⟨rfl,OldK.of_keep λb o e=>?_,os,bare⟩
    cases q:H b with
    | none=>exact un.keep b o e q (by intro z;exact absurd (show b∈([]:List Addr) from z) (by simp)) (by simp)
    | some u=>
     rcases hO b with z | ⟨ob,xs,z⟩
     ·rw[q]at z;cases z
     have z2:=un.frzs b ob _ z
     obtain⟨e1,_⟩:=hok b _ z
     obtain⟨e2,_⟩:=hok' b _ z2
     rw[e]at e1;cases e1
     exact e2
 cases hk:K.lookup a with
 | some o=>
  -- the script is one of the module's own objects
  have e:=KX a o hk
  rw[ha]at e
  cases e
  refine core (λ_=>none) (λ_=>.inl rfl) (.inr ⟨_,vs.toArray,_,hk,rfl,rfl,rfl,by rw[size_toArray,lenV];exact hl,by simpa using rv⟩) (λb u z=>by have z':(none:Option HO)=some u:=z;cases z') (λb z=>absurd rfl z) λz=>absurd rfl z
 | none=>
  refine core (λb=>if b=a then some (.frz { cls:=.type "list",data:=.seq vs.toArray } (.lst (ns.map V.int)))else none) (λb=>?_) (.inl (.inr ⟨{ cls:=.type "list",data:=.seq vs.toArray },if_pos rfl⟩)) (λb u z=>?_) (λb z=>?_) λ_=>hk
  ·by_cases hb:b=a
   ·exact .inr ⟨_,_,if_pos hb⟩
   exact .inl (if_neg hb)
  ·by_cases hb:b=a
   ·have z':=(if_pos hb).symm.trans z
    cases z'
    subst hb
    exact⟨ha,by rw[length_map];exact hl,vs,_,rv,ha⟩
   have z':=(if_neg hb).symm.trans z
   cases z'
  by_cases hb:b=a
  ·exact hb
  exact absurd (if_neg hb) z
theorem walk_of {l:PySem.W.OpenLaw}{n k:Nat}{q:Program}{loose:List Str}{XP:(Str->Option Value)->Heap->Prop}{YP:World->Heap->Prop}{d:DefRec}{K:Params->W.Frag}{CX:World->CXT}{sp:World->Sp}{x:Str}
  (hn:l.most=some n)(hn2:n<=sizeLine)(hdf:d.params.defaults=[])(hr:Room k callerA)
  (hY:∀(w:World) (h:Heap),YP w h->(K w.params).In h)
  (F:∀(w:World) (mg:Str->Option Value) (fa:Addr) (h:Heap),(K w.params).In h->h.Ns mainGlobals mg->mg d.name=some (.ref fa) ->
   ∃fd:FuncData,(∀(s:Shared) (u:Value),BindsTo s fd ⟨[u],[]⟩ [(x,u)]) /\
    ∀base:Heap,(K w.params).In base->base.Ns mainGlobals mg->FnOk l.prog w (K w.params) mg base (CX w) k fa fd [x] (sp w))
  (hsp:∀(w:World) (H:Hp) (a:Addr) (ns:List Int),ns.length<=n->Only H->SqL (K w.params) H a (ns.map V.int)->sp w [.ref a] H (λv _=>v=.bl true) λ_ _ _=>False)
  (hCX:∀(w:World) (H:Hp) (s:Shared) (e:Value) (s':Shared),CX w [] H s (λ_ _ _=>False) e s'->False) :
  PySem.W.WalkO q loose XP YP l.row.toRowW d [] (λf vs=>PySem.call f vs):=by
 refine Att.attach_call hn hdf λw s₀ s₁ mg mb fa o pm cd doc a vs ns G Y ho hd hcd hmg hobj hints hlen hg=>?_
 have KX:=hY w _ Y
 obtain⟨fd,hb,hF⟩:=F w mg fa _ KX G.T.g hmg
 exact law_call KX G.T.g G.T.b G.T.builtins G.T.nolimit hg hobj hints (le_trans hlen hn2) hr hF hb (λH hO hS=>hsp w H a ns hlen hO hS) λH e s'=>hCX w H s₁ e s'
def Zbi (s:Stmt)(j:Nat):Stmt:=match s with
 | .ClassDef _ _ _ body _ _ _ _ _ _ _=>body.getD j (.Pass ⟨0,0,0,0⟩)
 | _=>.Pass ⟨0,0,0,0⟩
def Zbk (s:Stmt):Arguments:=match s with
 | .FunctionDef _ a _ _ _ _ _ _ _ _=>a
 | _=>{ posonlyargs:=[],args:=[],vararg:=none,kwonlyargs:=[],kw_defaults:=[],kwarg:=none,defaults:=[] }
def Zbe (s:Stmt):List Stmt:=match s with
 | .FunctionDef _ _ b _ _ _ _ _ _ _=>b
 | _=>[]
def Zaf (s:Stmt):Scope:=match s with
 | .FunctionDef _ _ _ _ _ _ sc _ _ _=>sc
 | _=>{ kind:=.function,names:=[],isGenerator:=false,isCoroutine:=false }
abbrev CX0:CXT:=λ_ _ _ _ _ _=>False
abbrev E0:XK:=λ_ _ _=>False
theorem Zak {X:Cx}:Zfi CX0 X E0:=λ_ _ _ _ _ _ _ h=>h.elim
structure Fun (K:W.Frag)(x qual:Str)(st:Stmt)(f:Addr)(fd:FuncData):Prop where
 ex:∃(oc:Value) (od:Option Addr) (kV doc pm:Value) (an:Option Addr) (cdv ct:Value) (osl:Array (Option Value)),
  fd=PySem.W.fnOf x qual (Zbk st) (Zbe st) (Zaf st) .none kV doc pm an cdv ct/\K.lookup f=some ⟨oc,od,.func fd,osl⟩/\PySem.W.codeIn K cdv qual=true
 kp:PySem.W.keepIn K (.ref f)=true
section
variable {P:Program}{w:World}{K:W.Frag}{mg:Str->Option Value}{base:Heap}
theorem Fun.ok {x qual:Str}{st:Stmt}{f:Addr}{fd:FuncData}{N ps:List Str}{k:Nat}{sp:Sp}(F:Fun K x qual st f fd)(S:FnScope N ps (Zaf st))(len:∀vs H Q E,sp vs H Q E->vs.length=ps.length)
  (hbody:∀(cdv:Value) (A:Around) (outer:List Env) (s:Shared) (H:Hp) (vs:List V) (Q:VK) (E:XK),Room k (A.deeper (envOfC qual (Zaf st) s.heap.objs.size f cdv))->sp vs H Q E ->
   ∃t,PSs (cxOf CX0 P w K mg base N qual (Zaf st) f cdv A outer s H E).nox (Zbe st) t/\t { nx:=λ_ H'=>Q .non H',rt:=Q } (Zgy N vs) H):FnOk P w K mg base CX0 (k+1) f fd ps sp:=by
 obtain⟨oc,od,kV,doc,pm,an,cdv,ct,osl,rfl,lk,hcd⟩:=F.ex
 refine fn_of lk hcd S len λA outer s H vs Q E hr hsp=>?_
 obtain⟨t,h,q⟩:=hbody cdv A outer s H vs Q E hr hsp
 exact⟨t,h.nox,q⟩
theorem Fun.binds {x qual:Str}{st:Stmt}{f:Addr}{fd:FuncData}{ps:List Str}(F:Fun K x qual st f fd)
  (h:∀(kV doc pm:Value) (an:Option Addr) (cdv ct:Value) (us:List Value),us.length=ps.length->bindArgs (PySem.W.fnOf x qual (Zbk st) (Zbe st) (Zaf st) .none kV doc pm an cdv ct) ⟨us,[]⟩=pure (ps.zip us)):Binds K fd ps []:=by
 obtain⟨oc,od,kV,doc,pm,an,cdv,ct,osl,rfl,lk,hcd⟩:=F.ex
 exact .all (h kV doc pm an cdv ct)
theorem Zi9 {x qual:Str}{st:Stmt}{f:Addr}{oc:Value}{od an:Option Addr}{osl:Array (Option Value)}{kV doc pm cdv ct:Value}(l:K.lookup f=some ⟨oc,od,.func (PySem.W.fnOf x qual (Zbk st) (Zbe st) (Zaf st) .none kV doc pm an cdv ct),osl⟩)
  (c:PySem.W.codeIn K cdv qual=true)(k:PySem.W.keepIn K (.ref f)=true):Fun K x qual st f (PySem.W.fnOf x qual (Zbk st) (Zbe st) (Zaf st) .none kV doc pm an cdv ct):=⟨⟨oc,od,kV,doc,pm,an,cdv,ct,osl,rfl,l,c⟩,k⟩
end
theorem Zfk {A:Around}{k:Nat}(hr:Room k A):A.units+1<cLine:=lt_of_le_of_lt (Nat.add_le_add_left (by decide:1<=64) _) hr.units
section
variable {X:Cx}
theorem pv (i:Nat){x:Str}{pos:Pos}(hN:X.N[i]? = some x:=by rfl)(hv:Vis X.env.scope x:=by first | exact Or.inl rfl | exact Or.inr (Or.inl rfl) | exact Or.inr (Or.inr rfl))(hd:(x == ("__debug__" : Str))=false:=by decide)
  (hcd:(x == ("__classdict__" : Str))=false:=by decide):PE X (.Name x pos) (tVar i):=pe_var hN hv hd hcd
end
theorem iteF {A B:Prop}(h:B):if false=true then A else B:=by
 rw[if_neg Bool.false_ne_true]
 exact h
theorem iteT {A B:Prop}(h:A):if true=true then A else B:=by
 rw[if_pos rfl]
 exact h
theorem ite2 {c A B:Prop}[Decidable c](h1:c->A)(h2:¬c->B):if c then A else B:=by
 by_cases h:c
 ·rw[if_pos h]
  exact h1 h
 rw[if_neg h]
 exact h2 h
def Same (H H':Hp):Prop:=∀b o,H b=some o->H' b=some o
theorem Same.refl (H:Hp):Same H H:=λ_ _ h=>h
theorem Same.trans {H H1 H2:Hp}(a:Same H H1)(b:Same H1 H2):Same H H2:=λc o h=>b c o (a c o h)
theorem Same.free {H H':Hp}(e:Same H H'){l:Addr}(h:H' l=Option.none):H l=Option.none:=by
 cases q:H l with
 | none=>rfl
 | some o=>
  rw[e l o q]at h
  cases h
theorem Same.seq {K:W.Frag}{H H':Hp}{a:Addr}{xs:List V}(e:Same H H')(h:SqL K H a xs):SqL K H' a xs:=by
 rcases h with(h | ⟨o,h⟩) | h
 ·exact .inl (.inl (e _ _ h))
 ·exact .inl (.inr ⟨o,e _ _ h⟩)
 exact .inr h
section
variable {κ:Type} [DecidableEq κ]
theorem Zhk {kvs:List (κ×V)}{k:κ}{v:V}(h:valV kvs k=some v):k∈kvs.map (·.1):=by
 have q:(kvs.any λkv=>decide (kv.1=k))=true:=by
  rw[Zed,h]
  all_goals rfl
 obtain⟨p,hp,e⟩:=any_eq_true.mp q
 exact mem_map.mpr ⟨p,hp,of_decide_eq_true e⟩
theorem Zh9:∀{l:List κ}{k:κ},l.Nodup->¬k∈l->(l++[k]).Nodup
 | [],k,_,_=>by simp
 | a::r,k,h,hk=>by
  obtain⟨h1,h2⟩:=nodup_cons.mp h
  show(a::(r++[k])).Nodup
  refine nodup_cons.mpr ⟨λm=>?_,Zh9 h2 λm=>hk (mem_cons.mpr (Or.inr m))⟩
  rcases(mem_append.mp m)with q | q
  ·exact h1 q
  exact hk (mem_cons.mpr (Or.inl (mem_singleton.mp q).symm))
end
def clos (cells:List (Str×Addr)):List (Str×NameKind)->List (Str×Addr)->List (Str×Addr)
 | [],cs=>cs
 | (n,k)::r,cs=>clos cells r (if k == NameKind.free then(n,(cells.lookup n).getD 0)::cs else cs)
theorem Zm9 {env:Env}:∀(ns:List (Str×NameKind)) (cs:List (Str×Addr)),(∀y∈ns,y.2=NameKind.free->(env.cells.lookup y.1).isSome=true) ->
  (forIn ns cs λ(p:Str×NameKind) (r:List (Str×Addr))=>
   if (p.2 == NameKind.free)=true then(do let a <- cellOf env p.1;pure (ForInStep.yield ((p.1,a)::r)):Sem _)else pure (ForInStep.yield r))=(pure (clos env.cells ns cs):Sem _)
 | [],cs,_=>by simp[clos]
 | (n,k)::r,cs,h=>by
  have ih:=λcs'=>Zm9 r cs' λy hy=>h y (mem_cons_of_mem _ hy)
  rw[List.forIn_cons]
  by_cases hk:k=NameKind.free
  ·subst hk
   have hs:=h (n,NameKind.free) mem_cons_self rfl
   cases e:env.cells.lookup n with
   | none=>rw[e]at hs;cases hs
   | some c=>
    have e1:cellOf env n=pure c:=by unfold cellOf;rw[e]
    have e2:clos env.cells ((n,NameKind.free)::r) cs=clos env.cells r ((n,c)::cs):=by simp[clos,e]
    rw[e2,<- ih ((n,c)::cs)]
    (simp only[beq_self_eq_true,if_true])
    rw[e1]
    rfl
  have hb:(k == NameKind.free)=false:=by simpa using hk
  have e2:clos env.cells ((n,k)::r) cs=clos env.cells r cs:=by simp[clos,hb]
  rw[e2,<- ih cs]
  (simp only[hb,false_eq_true,if_false])
  rfl
theorem Zer {scope:Scope}{env:Env}(h:∀y∈scope.names,y.2=NameKind.free->(env.cells.lookup y.1).isSome=true):closureFor scope env=pure (clos env.cells scope.names []):=by
 have e:=Zm9 (env:=env) scope.names [] h
 unfold closureFor
 simp only[bind_pure]
 exact e
theorem Zll {cells:List (Str×Addr)}{x:Str}{c:Addr}:∀{ns:List (Str×NameKind)}{cs:List (Str×Addr)},(∀y∈ns,y.2=NameKind.free->(cells.lookup y.1).isSome=true)->(cs.lookup x=some c->cells.lookup x=some c) ->
  (clos cells ns cs).lookup x=some c->cells.lookup x=some c
 | [],_,_,h,e=>h e
 | (n,k)::r,cs,hn,h,e=>by
  refine Zll (ns:=r) (λy hy=>hn y (mem_cons_of_mem _ hy)) ?_ e
  by_cases hk:k=NameKind.free
  ·subst hk
   (simp only[beq_self_eq_true,if_true])
   intro q
   rw[lookup_cons]at q
   by_cases hx:x=n
   ·subst hx
    have hs:=hn (x,NameKind.free) mem_cons_self rfl
    simp only[beq_self_eq_true]at q
    cases e1:cells.lookup x with
    | none=>rw[e1]at hs;cases hs
    | some d=>rw[e1]at q;exact q
   have hb:(x == n)=false:=by simpa using hx
   rw[hb]at q
   exact h q
  have hb:(k == NameKind.free)=false:=by simpa using hk
  (simp only[hb,false_eq_true,if_false])
  exact h
theorem Zjh {cells:List (Str×Addr)}{x:Str}:∀{ns:List (Str×NameKind)}{cs:List (Str×Addr)},(cs.lookup x).isSome=true->((clos cells ns cs).lookup x).isSome=true
 | [],_,h=>h
 | (n,k)::r,cs,h=>by
  refine Zjh (ns:=r) ?_
  split
  ·rw[lookup_cons]
   split
   ·rfl
   exact h
  exact h
theorem Zih {cells:List (Str×Addr)}{x:Str}:∀{ns:List (Str×NameKind)}{cs:List (Str×Addr)},(x,NameKind.free)∈ns->((clos cells ns cs).lookup x).isSome=true
 | [],_,h=>nomatch h
 | (n,k)::r,cs,h=>by
  rcases(mem_cons.mp h)with e | e
  ·cases e
   refine Zjh (ns:=r) ?_
   simp
  exact Zih (ns:=r) e
theorem Zdj {env:Env}{x:Str}{k:NameKind}:∀{ns:List (Str×NameKind)},(∀y∈ns,y.2≠NameKind.cell)->k=NameKind.cell\/k=NameKind.free ->
  (ns.map λ(p:Str×NameKind)=>if (p.2 == NameKind.free && env.scope.kind == .function && env.kindOf p.1 == some .cell)then(p.1,NameKind.cell)else(p.1,p.2)).lookup x=some k->(x,NameKind.free)∈ns
 | [],_,_,e=>by simp at e
 | (n,j)::r,hn,hk,e=>by
  rw[map_cons]at e
  by_cases hx:x=n
  ·subst hx
   have hj:j=NameKind.free:=by
    by_cases hc:(j == NameKind.free && env.scope.kind == .function && env.kindOf x == some .cell)=true
    ·simp only[and_eq_true,beq_iff_eq]at hc
     exact hc.1.1
    simp only[hc]at e
    simp at e
    subst e
    rcases hk with q | q
    ·exact absurd q (hn (x,j) mem_cons_self)
    exact q
   subst hj
   exact mem_cons_self
  refine mem_cons_of_mem _ (Zdj (env:=env) (λy hy=>hn y (mem_cons_of_mem _ hy)) hk ?_)
  by_cases hc:(j == NameKind.free && env.scope.kind == .function && env.kindOf n == some .cell)=true
  ·simp only[hc,if_true]at e
   rw[lookup_cons]at e
   have hb:(x == n)=false:=by simpa using hx
   rw[hb]at e
   exact e
  simp only[hc]at e
  simp at e
  rw[lookup_cons]at e
  have hb:(x == n)=false:=by simpa using hx
  rw[hb]at e
  simpa using e
def lcCx (X:Cx)(N:List Str)(scope:Scope)(C:Addr)(s:Shared)(H:Hp)(fp:List Addr):Cx where
 prog:=X.prog
 w:=X.w
 K:=X.K
 mg:=X.mg
 base:=X.base
 A:=X.A
 N:=N
 s₀:=s
 H₀:=H
 env:=compEnvC scope (clos X.env.cells scope.names []) C X.env
 outer:=X.stack
 stack:=X.stack
 ex:=fp
 fn:=λ_=>false
 calm:=X.calm
 pn:=[]
 xe:=λ_ _=>False
def caps (n:Nat)(js:List Nat)(σ:St):St:=replicate n none++js.map λj=>(σ[j]?).getD none
structure LcOk (X:Cx)(N:List Str)(sc scope:Scope)(own:List Str)(fr:List Str)(js:List Nat):Prop where
 around:X.env.scope=sc
 names:N=own++fr
 kind:scope.kind=.function
 okind:sc.kind=.function
 nocell:∀y∈scope.names,y.2≠NameKind.cell
 free:∀y∈scope.names,y.2=NameKind.free->sc.names.lookup y.1=some NameKind.cell
 loc:∀y∈scope.names,y.2=NameKind.local->scope.names.lookup y.1=some NameKind.local
 at':js.map (λj=>X.N[j]?)=fr.map some
 cap:∀x∈fr,sc.names.lookup x=some NameKind.cell/\scope.names.lookup x=some NameKind.free
theorem Zhc {env:Env}{x:Str}(hk:env.scope.kind=.function)(hx:env.kindOf x=some NameKind.cell):∀{ns:List (Str×NameKind)},ns.lookup x=some NameKind.free ->
  (ns.map λ(p:Str×NameKind)=>if (p.2 == NameKind.free && env.scope.kind == .function && env.kindOf p.1 == some .cell)then(p.1,NameKind.cell)else(p.1,p.2)).lookup x=some NameKind.cell
 | [],e=>by simp at e
 | (n,j)::r,e=>by
  rw[map_cons]
  rw[lookup_cons]at e
  by_cases hn:x=n
  ·subst hn
   simp only[beq_self_eq_true]at e
   cases e
   have hc:(NameKind.free == NameKind.free && env.scope.kind == .function && env.kindOf x == some .cell)=true:=by rw[hk,hx];rfl
   simp only[hc,if_true]
   rw[lookup_cons]
   simp
  have hb:(x == n)=false:=by simpa using hn
  rw[hb]at e
  have ih:=Zhc hk hx (ns:=r) e
  by_cases hc:(j == NameKind.free && env.scope.kind == .function && env.kindOf n == some .cell)=true
  ·simp only[hc,if_true]
   rw[lookup_cons,hb]
   exact ih
  rw[if_neg hc,lookup_cons,hb]
  exact ih
theorem LcOk.cellAt {X:Cx}{N:List Str}{sc scope:Scope}{own fr:List Str}{js:List Nat}(L:LcOk X N sc scope own fr js)(ok:X.Ok):∀y∈scope.names,y.2=NameKind.free->(X.env.cells.lookup y.1).isSome=true:=λy hy hf=>by
 obtain⟨c,e⟩:=ok.has y.1 (.inl (show X.env.scope.names.lookup y.1=_ by rw[L.around];exact L.free y hy hf))
 rw[e]
 rfl
theorem LcOk.sub {X:Cx}{N:List Str}{sc scope:Scope}{own fr:List Str}{js:List Nat}(L:LcOk X N sc scope own fr js)(ok:X.Ok){x:Str}{c:Addr}(e:(clos X.env.cells scope.names []).lookup x=some c):X.env.cells.lookup x=some c:=
 Zll (L.cellAt ok) (λz=>by simp at z) e
theorem LcOk.len {X:Cx}{N:List Str}{sc scope:Scope}{own fr:List Str}{js:List Nat}(L:LcOk X N sc scope own fr js):js.length=fr.length:=by
 have:=congrArg List.length L.at'
 simpa using this
theorem lc_ctx {X:Cx}{N:List Str}{sc scope:Scope}{own fr:List Str}{js:List Nat}{pins:List (Addr×Obj)}{σ:St}{H:Hp}{s:Shared}{fp:List Addr}(L:LcOk X N sc scope own fr js)(I:Inv X pins σ H s)(hf:∀b∈fp,FpOk X pins H b)
  (ho:∀b∈fp,b<s.heap.objs.size){C:Addr}(hC:s.heap.objs.size<=C):(lcCx X N scope C s H fp).Ok where
 mod:=I.mod
 kind:=L.kind
 glob:=I.ok.glob
 blt:=I.ok.blt
 above:=hC
 inj:=λx y c e1 e2=>I.ok.inj x y c (L.sub I.ok e1) (L.sub I.ok e2)
 has:=λx hx=>by
  have hm:(x,NameKind.free)∈scope.names:=by
   rcases hx with q | q
   ·exact Zdj L.nocell (.inl rfl) q
   exact Zdj L.nocell (.inr rfl) q
  have:=Zih (cells:=X.env.cells) (cs:=[]) hm
  cases e:(clos X.env.cells scope.names []).lookup x with
  | none=>rw[e]at this;cases this
  | some c=>exact⟨c,e⟩
 cab:=λ_ _ z _=>nomatch z
 hd:=I.ok.hd
 frames:=I.ok.frames
 stk:=.inl rfl
 exf:=λb hb=>⟨ne_of_lt (lt_of_lt_of_le (ho b hb) hC),λx c e=>(hf b hb).2.2.2.2.1 x c (L.sub I.ok e)⟩
 bs:=I.bs
 bsz:=le_trans I.ok.bsz I.sz
 noex:=λb o e hb=>by
  rcases(hf b hb).2.2.2.1 with q | q
  ·exact I.ok.noex b o e q
  exact absurd (lt_of_lt_of_le (Heap.lt_size (I.ok.bs b o e).1) q) (lt_irrefl _)
 exfs:=λb hb hs=>by
  rcases mem_cons.mp (I.stkSub b hs)with q | q
  ·exact(hf b hb).2.1 q
  exact(hf b hb).2.2.1 q
 funs:=I.stack
 frf:=I.stkFree
theorem getD_none {o:Option (Option V)}{v:V}(h:o.getD none=some v):o=some (some v):=by
 cases o with
 | none=>cases h
 | some u=>cases u with
  | none=>cases h
  | some w=>cases h;rfl
theorem caps_get {n:Nat}{js:List Nat}{σ:St}{i:Nat}{v:V}(e:(caps n js σ)[i]? = some (some v)):∃k j,i=n+k/\js[k]? = some j/\σ[j]? = some (some v):=by
 unfold caps at e
 by_cases hi:i<n
 ·rw[getElem?_append_left (by simpa using hi)]at e
  rw[getElem?_replicate]at e
  split at e <;> cases e
 rw[getElem?_append_right (by simpa using hi)]at e
 simp only[length_replicate,getElem?_map]at e
 cases q:js[i-n]? with
 | none=>rw[q]at e;cases e
 | some j=>
  rw[q]at e
  exact⟨i-n,j,by lia,q,getD_none (Option.some.inj e)⟩
theorem lc_start {X:Cx}{N:List Str}{sc scope:Scope}{own fr:List Str}{js:List Nat}{pins:List (Addr×Obj)}{σ:St}{H:Hp}{s:Shared}{fp:List Addr}(L:LcOk X N sc scope own fr js)(I:Inv X pins σ H s)(hf:∀b∈fp,FpOk X pins H b)
  (ho:∀b∈fp,b<s.heap.objs.size){h':Heap}{m:Str->Option Value}{tk:Nat}(hn:h'.Ns (s.heap.objs.size+1) m)(hk:∀b o,s.heap.get? b=some o->h'.get? b=some o)
  (hl:h'.get? s.heap.objs.size=some { cls:=.type "list",data:=.seq ([]:List Value).toArray }) :
  Inv (lcCx X N scope (s.heap.objs.size+1) s H fp) [] (caps own.length js σ) (upd H s.heap.objs.size (.lst [])) { s with heap:=h',toks:=tk }:=by
 have fresh:∀a,s.heap.objs.size<=a->H a=none:=λa ha=>I.hok.fresh ha
 have cellAt:∀x c,(clos X.env.cells scope.names []).lookup x=some c->∃v,s.heap.IsCell c v:=λx c e=>I.cell x c (L.sub I.ok e)
 refine⟨lc_ctx L I hf ho (le_succ _),rfl,I.bare,Un.laid hk (Nat.le_refl _) (fresh _ (Nat.le_refl _)),⟨m,hn,λi x v e1 e2 e3=>?_⟩,λx c e=>?_,?_,λx c e=>?_,λp hp=>?_,I.hok.laid hk (Nat.le_refl _) ?_,?_⟩
 ·obtain⟨k,j,rfl,hj,hv⟩:=caps_get e2
  have hN:(own++fr)[own.length+k]? = some x:=by
   have e1':N[own.length+k]? = some x:=e1
   rw[L.names]at e1'
   exact e1'
  rw[getElem?_append_right (by lia),Nat.add_sub_cancel_left]at hN
  have hx:x∈fr:=mem_of_getElem? hN
  have hjx:X.N[j]? = some x:=by
   have:=congrArg (λl=>l[k]?) L.at'
   simp only[getElem?_map,hj,hN,map_some]at this
   exact Option.some.inj this
  obtain⟨kc',kr'⟩:=L.cap x hx
  have kc:X.env.kindOf x=some NameKind.cell:=by show X.env.scope.names.lookup x=_;rw[L.around];exact kc'
  have kr:(relabel scope X.env).names.lookup x=some NameKind.cell:=Zhc (by rw[L.around];exact L.okind) kc kr'
  obtain⟨m0,_,hl0⟩:=I.loc
  obtain⟨u,r,l⟩:=hl0 j x v hjx hv (.inr (.inl kc))
  refine⟨u,r,.inr ⟨.inl kr,?_⟩⟩
  rcases l with⟨kk,_⟩ | ⟨_,c,hc,z⟩
  ·rw[kc]at kk;cases kk
  have hs:((clos X.env.cells scope.names []).lookup x).isSome=true:=Zih (Zdj L.nocell (.inl rfl) kr)
  cases e:(clos X.env.cells scope.names []).lookup x with
  | none=>rw[e]at hs;cases hs
  | some d=>
   have ed:=L.sub I.ok e
   rw[hc]at ed
   cases ed
   obtain⟨o,ho',hd⟩:=z
   exact⟨c,e,o,hk c o ho',hd⟩
 ·obtain⟨v,o,ho',hd⟩:=cellAt x c e
  exact⟨v,o,hk c o ho',hd⟩
 ·show upd H s.heap.objs.size _ (s.heap.objs.size+1)=none
  rw[Zaj (Nat.succ_ne_self _)]
  exact fresh _ (le_succ _)
 ·obtain⟨v,o,ho',hd⟩:=cellAt x c e
  rw[Zaj (ne_of_lt (Heap.lt_size ho'))]
  exact I.freeC x c (L.sub I.ok e)
 ·exact nomatch hp
 ·exact⟨zero_le _,[],0,.nil,hl⟩
 show(caps own.length js σ).length=N.length
 rw[L.names]
 simp[caps,L.len]
def PIf (X:Cx)(ifs:List Expr)(t:TT):Prop:=
 ∀(pins:List (Addr×Obj)) (s:Shared) (σ:St) (H:Hp) (Q:Bool->Hp->Prop),Inv X pins σ H s->t σ H Q ->
  wpAny (model X.prog X.w) X.A (forIn ifs true λc r=>if r=true then do let ok <- isTrue c X.env (eval c X.env);pure (ForInStep.yield ok)else pure (ForInStep.yield r)) (TP X pins σ Q) X.xe s
def tYes:TT:=λ_ H Q=>Q true H
theorem Zbn {X:Cx}:PIf X [] tYes:=λ_ _ _ H _ I h=>wpAny_tests_nil ⟨H,I,h⟩
theorem Zcv {X:Cx}{c:Expr}{t:TT}(h:PT X c t):PIf X [c] t:=λpins s σ H Q I q=>wpAny_tests_one (h pins s σ H Q I q)
theorem lc_loop {prog:Program}{w:World}{A:Around}{R:Result->Shared->Prop}{s:Shared}{elt tg iter:Expr}{ifs:List Expr}{scope:Scope}{pos:Pos}{it acc:Value}{env:Env}(J:Nat->Shared->Prop)
  (turn:∀n s,J n s->wpAny (model prog w) A (pyNext it) (λr s1=>match r with
   | none=>R (.ok .next) s1
   | some v=>wpAny (model prog w) A (letOwnedTupleGo tg it v) (λ_ s2=>wpAny (model prog w) A (assign tg env v) (λ_ s3=>
     wpAny (model prog w) A (forIn ifs true λc r=>if r=true then do let ok <- isTrue c env (eval c env);pure (ForInStep.yield ok)else pure (ForInStep.yield r)) (λok s4=>
      if ok=true then wpAny (model prog w) A (eval elt env) (λx s5=>wpAny (model prog w) A (call (.builtin "list.append") [acc,x]) (λ_ s6=>∃m,m<n/\J m s6) (λ_ _=>False) s5) (λ_ _=>False) s4
      else ∃m,m<n/\J m s4) (λ_ _=>False) s3) (λ_ _=>False) s2) (λ_ _=>False) s1) (λ_ _=>False) s)
  (n:Nat)(h:J n s):codeAny (model prog w) A (.compLoop (.ListComp elt [⟨tg,iter,ifs,0⟩] scope pos) 0 it acc env) R s:=by
 refine codeAny_loop rfl J (λn s hJ=>?_) n h
 show wpAny _ A ((compTurn (.ListComp elt [⟨tg,iter,ifs,0⟩] scope pos) 0 it acc env).onRaise (λx=>do noteFrame x env;theTreesLotGoes x)) _ _ s
 refine wpAny_noted ?_
 rw[compTurn_list]
 refine wpAny_bind (wpAny_standAt (wpAny_bind (wpAny_mono (turn n s hJ) (λr s1 h1=>?_) λ_ _ f=>f.elim)))
 cases r with
 | none=>exact wpAny_pure h1
 | some v=>
  refine wpAny_bind (wpAny_mono h1 (λ_ s2 h2=>wpAny_bind (wpAny_mono h2 (λ_ s3 h3=>wpAny_bind (wpAny_mono h3 (λok s4 h4=>?_) λ_ _ f=>f.elim)) λ_ _ f=>f.elim)) λ_ _ f=>f.elim)
  cases ok with
  | false=>exact wpAny_pure ⟨rfl,h4⟩
  | true=>
   exact wpAny_bind (wpAny_bind (wpAny_mono h4 (λx s5 h5=>wpAny_bind (wpAny_mono h5 (λ_ s6 h6=>wpAny_pure (wpAny_pure ⟨rfl,h6⟩)) λ_ _ f=>f.elim)) λ_ _ f=>f.elim))
def tLcB (J:It)(D:Addr)(σ0:St)(g:TG)(tc:TT)(te:TE)(fin:Hp->Prop)(W:Nat->Nat->List V->Hp->Prop):Prop:=
 ∀i m ys H,W i m ys H->(J.stop i H/\fin H)\/(J.go i H/\∃N:List V->Hp->Prop,(∀ys' H',N ys' H'->∃m',m'<m/\W (i+1) m' ys' H') /\
  ∀x H1,J.yld i H x H1->g x σ0 H1 λσ2 H2=>(σ2.length=σ0.length/\∀(i:Nat) v,σ0[i]? = some (some v)->σ2[i]? = some (some v)) /\
   tc σ2 H2 λb H3=>if b=true then te σ2 H3 λy H4=>∃zs,H4 D=some (.lst zs)/\zs.length<sizeLine/\N (zs++[y]) (upd H4 D (.lst (zs++[y])))else N ys H3)
theorem Zla {X:Cx}{N:List Str}{sc scope:Scope}{own fr:List Str}{js:List Nat}{pins:List (Addr×Obj)}{σ:St}{H:Hp}{s:Shared}{fp:List Addr}{tg iter elt:Expr}{ifs:List Expr}{pos:Pos}{J:It}{it:Addr}{tn:Nat->Heap->Prop}
  {g:TG}{tc:TT}{te:TE}{RR:Value->Addr->Result->Shared->Prop}{E:Value->Shared->Prop}{fin:Addr->Hp->Prop}
  (L:LcOk X N sc scope own fr js)(hc:X.calm=true)(I:Inv X pins σ H s)(T:Turn X.prog X.w X.K tg J fp it tn)(st:tn 0 s.heap)(hf:∀b∈fp,FpOk X pins H b)
  (hg:∀C s H fp,PG (lcCx X N scope C s H fp) tg g)(hi:∀C s H fp,PIf (lcCx X N scope C s H fp) ifs tc)(he:∀C s H fp,PE (lcCx X N scope C s H fp) elt te)
  (h:∀D,H D=none->∃W:Nat->Nat->List V->Hp->Prop,(∃m,W 0 m [] (upd H D (.lst [])))/\tLcB J D (caps own.length js σ) g tc te (fin D) W)
  (hRR:∀D C s' H',(∃m,s'.heap.Ns C m)->Inv X pins σ H' s'->FpOk X pins H' C->fin D H'->RR (.ref D) C (.ok .next) s') :
  wpAny (model X.prog X.w) X.A (newList []) (λacc s3=>wpAny (model X.prog X.w) X.A (newFunctionEnv scope X.env.globals (clos X.env.cells scope.names []) [] X.env.qual none .none (some X.env)) (λcenv s4=>
   codeAny (model X.prog X.w) X.A (.compStart (.ListComp elt [⟨tg,iter,ifs,0⟩] scope pos) 0 (.ref it) acc { cenv with scope:=relabel scope X.env }) (RR acc cenv.locals) s4) E s3) E s:=by
 have hlt:∀b∈fp,b<s.heap.objs.size:=λb hb=>by
  obtain⟨o,e,_⟩:=T.obj 0 _ st b hb
  exact Heap.lt_size e
 refine wpAny_newObj_type (wpAny_newFunctionEnv L.nocell (λ_ z=>nomatch z) (λh1 n1 b1=>?_) L.kind)
 dsimp only at n1 b1 ⊢
 have hsz:(s.heap.push { cls:=.type "list",dict:=none,data:=.seq ([]:List Value).toArray }).objs.size=s.heap.objs.size+1:=Heap.size_push ..
 rw[hsz]at n1 b1
 rw[hsz]
 have kept:∀b o,s.heap.get? b=some o->h1.get? b=some o:=λb o e=>b1.extBut b o (ne_of_lt (lt_succ_of_lt (Heap.lt_size e))) (Heap.get?_push_of_some _ (Heap.get?_push_of_some _ e))
 have isl:h1.get? s.heap.objs.size=some { cls:=.type "list",data:=.seq ([]:List Value).toArray }:=b1.extBut _ _ (ne_of_lt (lt_succ_self _)) (Heap.get?_push_of_some _ (Heap.get?_push_size _ rfl))
 have IY:=lc_start (tk:=s.toks+([]:List (Str×Value)).length) L I hf hlt n1 kept isl
 have fresh:H s.heap.objs.size=none:=I.hok.fresh (Nat.le_refl _)
 obtain⟨W,⟨m0,w0⟩,turn⟩:=h s.heap.objs.size fresh
 -- the iterator's records through the loop
 have stat:∀{H':Hp},(∀b∈fp,H' b=none)->∀b∈fp,FpOk (lcCx X N scope (s.heap.objs.size+1) s H fp) [] H' b:=λhn b hb=>
  ⟨hn b hb,ne_of_lt (lt_succ_of_lt (hlt b hb)),λz=>by
   rcases mem_cons.mp (I.stkSub b z)with q | q
   ·exact(hf b hb).2.1 q
   exact(hf b hb).2.2.1 q,.inl hb,λx c e=>(hf b hb).2.2.2.2.1 x c (L.sub I.ok e),λ_ z=>nomatch z⟩
 have st1:tn 0 h1:=T.keep 0 _ _ st λb _ o e=>kept b o e
 have loop:∀s2:Shared,s2={ s with heap:=h1,toks:=s.toks+([]:List (Str×Value)).length } ->
   codeAny (model X.prog X.w) X.A (.compLoop (.ListComp elt [⟨tg,iter,ifs,0⟩] scope pos) 0 (.ref it) (.ref s.heap.objs.size) (lcCx X N scope (s.heap.objs.size+1) s H fp).env) (RR (.ref s.heap.objs.size) (s.heap.objs.size+1)) s2:=by
  rintro s2 rfl
  refine lc_loop (λn s'=>∃i ys H',Inv (lcCx X N scope (s.heap.objs.size+1) s H fp) [] (caps own.length js σ) H' s'/\tn i s'.heap/\(∀b∈fp,H' b=none)/\W i n ys H') ?_ m0
   ⟨0,[],_,IY,st1,λb hb=>by rw[Zaj (ne_of_lt (hlt b hb))];exact(hf b hb).1,w0⟩
  rintro n s3 ⟨i,ys,H3,I3,st3,fr3,w3⟩
  rcases turn i n ys H3 w3 with⟨stop,qn⟩ | ⟨go,Nx,hN,step⟩
  ·refine thn (T.done (lcCx X N scope (s.heap.objs.size+1) s H fp) rfl rfl rfl hc i [] s3 _ H3 _ I3 (stat fr3) st3 stop) λr s4 hp0=>?_
   obtain⟨hr,I4⟩:=hp0
   subst hr
   have IX:Inv X pins σ H3 s4:=I.call' (ch:=fp) I4.os I4.base I4.hok I4.bare λb hb=>⟨(hf b hb).2.2.2.1,(hf b hb).2.1,(hf b hb).2.2.2.2.1,(hf b hb).2.2.2.2.2⟩
   obtain⟨m,hm,_⟩:=I4.loc
   exact hRR _ _ s4 H3 ⟨m,hm⟩ IX (I.fpOk (le_succ _) I4.free) qn
  refine thn (T.item (lcCx X N scope (s.heap.objs.size+1) s H fp) rfl rfl rfl hc i [] s3 _ H3 _ I3 (stat fr3) st3 go) λr s4 hp0=>?_
  obtain⟨u,hr,h4⟩:=hp0
  subst hr
  refine thn h4 λ_ s5 hp0=>?_
  obtain⟨x,H5,I5,r5,y5,st5,fr5⟩:=hp0
  have I5':=I5.pinned (stat fr5) (T.obj _ _ st5)
  refine thn (hg _ _ _ _ _ s5 _ H5 x u _ I5' r5 (step x H5 y5)) λ_ s6 hp0=>?_
  obtain⟨σ6,H6,I6,⟨hl6,hs6⟩,q6⟩:=hp0
  have next:∀{s7:Shared}{H7:Hp}{zs:List V},Inv (lcCx X N scope (s.heap.objs.size+1) s H fp) ([]++Zix fp s5.heap) σ6 H7 s7->Nx zs H7 ->
    ∃m,m<n/\∃i ys H',Inv (lcCx X N scope (s.heap.objs.size+1) s H fp) [] (caps own.length js σ) H' s7/\tn i s7.heap/\(∀b∈fp,H' b=none)/\W i m ys H':=λ{s7 H7 zs} I7 n7=>by
   obtain⟨m',hm,w7⟩:=hN zs H7 n7
   refine⟨m',hm,i+1,zs,H7,I7.unpinned.weak hl6.symm hs6,T.keep _ _ _ st5 λb hb o e=>(I7.pin (b,o) (mem_append_right _ (mem_append_right _ (Zdq hb e)))).1,λb hb=>?_,w7⟩
   obtain⟨o,e,d⟩:=T.obj _ _ st5 b hb
   exact(I7.pin (b,o) (mem_append_right _ (mem_append_right _ (Zdq hb e)))).2.1
  refine thn (hi _ _ _ _ _ s6 σ6 H6 _ I6 q6) λok s7 hp0=>?_
  obtain⟨H7,I7,q7⟩:=hp0
  cases ok with
  | false=>
   rw[if_neg Bool.false_ne_true]at q7
   exact next I7 q7
  | true=>
   rw[if_pos rfl]at q7
   rw[if_pos rfl]
   refine thn (he _ _ _ _ _ s7 σ6 H7 _ I7 q7) λy s8 hp0=>?_
   obtain⟨v8,H8,I8,r8,zs,hz,hzl,q8⟩:=hp0
   refine thn (Za7 _ s8 σ6 H8 (.ref s.heap.objs.size) [v8] _ [y] (λ_ H9=>Nx (zs++[v8]) H9) I8 rfl (.cons r8 .nil) ⟨_,zs,v8,rfl,rfl,hz,hzl,q8⟩) λ_ s9 hp0=>?_
   obtain⟨_,H9,I9,_,q9⟩:=hp0
   exact next I9 q9
 exact codeAny_compStart_list (loop _ rfl) (T.self X.A 0 _ _ _ st1 (loop _ rfl))
def tLc (wi:TI)(n:Nat)(js:List Nat)(g:TG)(tc:TT)(te:TE):TE:=λσ H Q=>wi σ H λJ H1=>∀D,H1 D=none ->
 ∃W:Nat->Nat->List V->Hp->Prop,(∃m,W 0 m [] (upd H1 D (.lst [])))/\tLcB J D (caps n js σ) g tc te (λH2=>Q (.ref D) H2) W
theorem Zcw {X:Cx}{N:List Str}{sc scope:Scope}{own fr:List Str}{js:List Nat}{tg iter elt:Expr}{ifs:List Expr}{pos:Pos}{wi:TI}{g:TG}{tc:TT}{te:TE}
  (L:LcOk X N sc scope own fr js)(hc:X.calm=true)(hI:PI X tg iter wi)
  (hg:∀C s H fp,PG (lcCx X N scope C s H fp) tg g)(hi:∀C s H fp,PIf (lcCx X N scope C s H fp) ifs tc)(he:∀C s H fp,PE (lcCx X N scope C s H fp) elt te)
  (hs:∀x,foldedSetIterable iter X.env x=pure x:=by intro _;rfl):PE X (.ListComp elt [⟨tg,iter,ifs,0⟩] scope pos) (tLc wi own.length js g tc te):=by
 intro pins s σ H Q I h
 rw[eval_ListComp]
 refine wpAny_comprehension_free (use:=none) rfl hs (Zer (L.cellAt I.ok)) L.kind L.loc ?_
 refine thn (hI pins s σ H _ I h) λv s1 h1=>thn h1 λitv s2 h2=>?_
 obtain⟨it,fp,tn,J,H2,e,I2,T,st,f2,q⟩:=h2
 subst e
 refine Zla (RR:=λacc C=>compPost (model X.prog X.w) X.A X.xe none (EP X pins σ Q) acc C) (fin:=λD H'=>Q (.ref D) H') L hc I2 T st f2 hg hi he q ?_
 intro D C s' H' hm IX fC q'
 obtain⟨m,hm⟩:=hm
 obtain⟨f0,f1,_,f3,f4,f5⟩:=fC
 exact⟨m,hm,λh' sb=>⟨.ref D,H',IX.turned (t':=s'.toks) (λb o hb e=>(sb.2 b hb).trans e) f0 f1 f3 f4 f5,rfl,q'⟩⟩
def tLcS (i:Nat)(wi:TI)(n:Nat)(js:List Nat)(g:TG)(tc:TT)(te:TE):TS:=λE σ H=>wi σ H λJ H1=>∀D,H1 D=none ->
 ∃W:Nat->Nat->List V->Hp->Prop,(∃m,W 0 m [] (upd H1 D (.lst [])))/\tLcB J D (caps n js σ) g tc te (λH2=>E.nx (σ.set i (some (.ref D))) H2) W
theorem Zlt {X:Cx}{N:List Str}{sc scope:Scope}{own fr:List Str}{js:List Nat}{tg iter elt:Expr}{ifs:List Expr}{pos spos py:Pos}{wi:TI}{g:TG}{tc:TT}{te:TE}{i:Nat}{y:Str}
  (hN:X.N.Nodup)(hy:X.N[i]? = some y)(hl:X.env.scope.names.lookup y=some .local)
  (L:LcOk X N sc scope own fr js)(hc:X.calm=true)(hI:PI X tg iter wi)
  (hg:∀C s H fp,PG (lcCx X N scope C s H fp) tg g)(hi:∀C s H fp,PIf (lcCx X N scope C s H fp) ifs tc)(he:∀C s H fp,PE (lcCx X N scope C s H fp) elt te)
  (hw:swapsWith (.ListComp elt [⟨tg,iter,ifs,0⟩] scope pos) (some (.Name y py)) spos.line X.env=pure true:=by rfl)
  (hs:∀x,foldedSetIterable iter X.env x=pure x:=by intro _;rfl):PS X (.Assign [.Name y py] (.ListComp elt [⟨tg,iter,ifs,0⟩] scope pos) spos) (tLcS i wi own.length js g tc te):=by
 intro pins s σ H E I h
 rw[exec_Assign_Name_used _ _ _ _ hw]
 (refine wpAny_bind (wpAny_standAt (wpAny_bind ?_)))
 show wpAny _ X.A (do let _ <- comprehension (.ListComp elt [⟨tg,iter,ifs,0⟩] scope pos) scope X.env _ (newList []) false (eval iter X.env) (some (assign (.Name y py) X.env))) _ _ s
 refine wpAny_bind (wpAny_mono (wpAny_comprehension_free (use:=some (assign (.Name y py) X.env)) (Q:=λ_ s'=>SP X pins E .next s') rfl hs (Zer (L.cellAt I.ok)) L.kind L.loc ?_) (λ_ s' q=>wpAny_pure (wpAny_pure q)) λ_ _ e=>e)
 refine thn (hI pins s σ H _ I h) λv s1 h1=>thn h1 λitv s2 h2=>?_
 obtain⟨it,fp,tn,J,H2,e,I2,T,st,f2,q⟩:=h2
 subst e
 refine Zla (RR:=λacc C=>compPost (model X.prog X.w) X.A X.xe (some (assign (.Name y py) X.env)) (λ_ s'=>SP X pins E .next s') acc C) (fin:=λD H'=>E.nx (σ.set i (some (.ref D))) H') L hc I2 T st f2 hg hi he q ?_
 intro D C s' H' hm IX fC q'
 obtain⟨m,hm⟩:=hm
 obtain⟨f0,f1,_,f3,f4,f5⟩:=fC
 show wpAny _ X.A (assign (.Name y py) X.env (.ref D)) _ _ s'
 refine wpAny_assign_Name (Ziq IX hN hy (.inl hl) (v:=.ref D) rfl (λs3 I3 ha=>?_) (.inr hl))
 obtain⟨a,sb,ha⟩:=ha
 have hCa:C≠a:=by
  rcases ha with z | z
  ·rw[z];exact f1
  exact λq=>f4 y a z q.symm
 refine⟨m,hm.sameBut sb hCa,λh' sb'=>⟨_,H',I3.turned (t':=s3.toks) (λb o hb e=>(sb'.2 b hb).trans e) f0 f1 f3 f4 f5,q'⟩⟩
section
variable {X:Cx}
theorem Zln:Zcq X (.builtin "isinstance") (λxs H Q=>∃i T,xs=[.int i,.ty T]/\((T = "int" /\ Q (.bl true) H)\/(T = "bool" /\ Q (.bl false) H))):=by
 intro pins s σ H xs us Q I r h
 obtain⟨i,T,rfl,h⟩:=h
 obtain⟨u1,u2,rfl,⟨t,rfl⟩,r2⟩:=Zlr r
 cases r2
 rcases h with⟨rfl,q⟩ | ⟨rfl,q⟩
 ·exact PySem.IsiPair.int_int ⟨.bl true,H,I,rfl,q⟩
 exact PySem.IsiPair.int_bool ⟨.bl false,H,I.tok _,rfl,q⟩
end
mutual
inductive RdV (H:Hp):V->PyData->Prop
 | non:RdV H .non .none
 | int (i:Int):RdV H (.int i) (.int i)
 | str (x:Str):RdV H (.str x) (.str x)
 | tup {a:Addr}{xs:List V}{ds:List PyData}:H a=some (.tup xs)->RdVs H xs ds->RdV H (.ref a) (.tuple ds)
inductive RdVs (H:Hp):List V->List PyData->Prop
 | nil:RdVs H [] []
 | cons {x:V}{d:PyData}{xs:List V}{ds:List PyData}:RdV H x d->RdVs H xs ds->RdVs H (x::xs) (d::ds)
end
mutual
theorem RdV.reads {P:Program}{w:World}{H:Hp}{h:Heap}(ok:HOk P w H h):∀{x:V}{d:PyData}{u:Value},RdV H x d->RelV x u->∃as,Reads h u d as
 | _,_,_,.non,r=>by cases r;exact⟨_,.none⟩
 | _,_,_,.int i,r=>by obtain⟨t,rfl⟩:=r;exact⟨_,.int i t⟩
 | _,_,_,.str x,r=>by obtain⟨t,rfl⟩:=r;exact⟨_,.str x t⟩
 | _,_,_,.tup (a:=a) e rs,r=>by
  cases r
  obtain⟨z,its,rv,o,ho,hc,n,hd⟩:=ok a _ e
  obtain⟨as,ra⟩:=RdVs.reads ok rs rv
  exact⟨as,.tuple ho hc hd (by simpa using ra)⟩
theorem RdVs.reads {P:Program}{w:World}{H:Hp}{h:Heap}(ok:HOk P w H h):∀{xs:List V}{ds:List PyData}{us:List Value},RdVs H xs ds->Vals xs us->∃as,ReadsAll h us ds as
 | _,_,_,.nil,r=>by cases r;exact⟨_,.nil⟩
 | _,_,_,.cons a b,r=>by
  cases r with
  | cons r1 r2=>
   obtain⟨as,h1⟩:=RdV.reads ok a r1
   obtain⟨bs,h2⟩:=RdVs.reads ok b r2
   exact⟨_,.cons h1 h2⟩
end
end L2
namespace ZT
open PySem PyProof.Rows
section
variable {prog:Program}{w:World}{A:Around}{E:Value->Shared->Prop}{s:Shared}
theorem next_item {p t:Addr}{k:Nat}{items:Array Value}{v:Value}{Q:Value->Shared->Prop}(hp:s.heap.IsTupleIter p t k)(ht:s.heap.IsTuple t items)(hv:items[k]? = some v)
  (q:∀h',h'.IsTupleIter p t (k+1)->Heap.SameBut p s.heap h'->Q v { s with heap:=h' }):wpAny (model prog w) A (Builtin.SmallTypes.nextOf (.ref p)) Q E s:=by
 obtain⟨o,ho,c1,c2⟩:=id hp
 obtain⟨ot,hot,_,nt,dt⟩:=ht
 (unfold Builtin.SmallTypes.nextOf)
 refine wpAny_bind (wpAny_callSpecial?_slot (name:=Str.ofString "__next__") hp.typeIs F.slot_tuple_iterator_next (wpAny_call_entry F.slot_tuple_iterator_next hp.typeIs F.entry_tuple_iterator_next ?_ (F.args_tuple_iterator_next_1 _)))
 show wpAny _ _ (field (.ref p) 0 >>= _) _ _ s
 refine wpAny_bind (wpAny_field ho c2 (x:=.ref t) rfl ?_)
 (show wpAny _ _ (if (Value.ref t == Value.none)=true then _ else _) _ _ s)
 rw[if_neg (by exact Bool.false_ne_true)]
 show wpAny _ _ (field (.ref p) 1 >>= _) _ _ s
 refine wpAny_bind (wpAny_field ho c2 (x:=.int k 0) rfl ?_)
 (show wpAny _ _ (seqItems? (.ref t) >>= _) _ _ s)
 refine wpAny_bind (wpAny_seqItems hot dt ?_)
 simp only[toNat_natCast,hv]
 refine wpAny_bind (wpAny_setField ho c2 (by simp) (wpAny_pure ⟨v,rfl,wpAny_pure (q _ ?_ (Heap.SameBut.update ..))⟩))
 refine⟨_,Heap.get?_update_self _ ho (Obj.isFreed_of_fields (Obj.data_mapFields c2 _)),(Obj.cls_mapFields ..).trans c1,?_⟩
 rw[Obj.data_mapFields c2]
 simp[rawInt]
theorem next_end {p t:Addr}{k:Nat}{items:Array Value}{Q:Value->Shared->Prop}(hh:A.handled=none)(hp:s.heap.IsTupleIter p t k)(ht:s.heap.IsTuple t items)(hv:items[k]? = none)
  (q:∀h' e,Heap.ExtBut p s.heap h'->(∃o,h'.get? e=some o/\o.cls=.type "StopIteration")->E (.ref e) { s with heap:=h' }):wpAny (model prog w) A (Builtin.SmallTypes.nextOf (.ref p)) Q E s:=by
 obtain⟨o,ho,c1,c2⟩:=id hp
 obtain⟨ot,hot,_,nt,dt⟩:=ht
 (unfold Builtin.SmallTypes.nextOf)
 refine wpAny_bind (wpAny_callSpecial?_slot (name:=Str.ofString "__next__") hp.typeIs F.slot_tuple_iterator_next (wpAny_call_entry F.slot_tuple_iterator_next hp.typeIs F.entry_tuple_iterator_next ?_ (F.args_tuple_iterator_next_1 _)))
 show wpAny _ _ (field (.ref p) 0 >>= _) _ _ s
 refine wpAny_bind (wpAny_field ho c2 (x:=.ref t) rfl ?_)
 (show wpAny _ _ (if (Value.ref t == Value.none)=true then _ else _) _ _ s)
 rw[if_neg (by exact Bool.false_ne_true)]
 show wpAny _ _ (field (.ref p) 1 >>= _) _ _ s
 refine wpAny_bind (wpAny_field ho c2 (x:=.int k 0) rfl ?_)
 (show wpAny _ _ (seqItems? (.ref t) >>= _) _ _ s)
 refine wpAny_bind (wpAny_seqItems hot dt ?_)
 simp only[toNat_natCast,hv]
 refine wpAny_bind (wpAny_rule (wpAny_bind (wpAny_setField ho c2 (by simp) ?_)))
 (show wpAny _ _ (newExc (.type "StopIteration") [] >>= _) _ _ _)
 refine wpAny_bind ?_
 simp only[newExc,newTuple]
 (refine wpAny_bind (wpAny_newObj_type ?_ (by size_fits)))
 (refine wpAny_bind (m:=firstArgMember _ _) (wpAny_of_eq (a:=Value.none) (by first | rfl | (simp only[firstArgMember];rfl)) ?_))
 (refine wpAny_newObj_type ?_ (by size_fits))
 simp only[raiseNew]
 (refine wpAny_bind (wpAny_handled ?_))
 (first | rw[show A.in1.handled=none from hh] | rw[hh])
 (refine wpAny_bind (wpAny_pure (wpAny_throw ?_)))
 exact q _ _ (((Heap.SameBut.update ..).extBut.push _).push _) ⟨_,Heap.get?_push_size _ rfl,rfl⟩
end
abbrev zI (t:Addr):Obj:={ cls:=.type "tuple_iterator",data:=.fields #[.ref t,.int 0 0] }
end ZT
namespace L2
open PySem PySem.Spec PyProof.Rows
section
variable {X:Cx}{pins:List (Addr×Obj)}{σ:St}{H:Hp}{s:Shared}{h':Heap}
theorem FpOk.not {ch:List Addr}(hf:∀b∈ch,FpOk X pins H b){b:Addr}{o:HO}(e:H b=some o):b∉ch:=λz=>by
 have:=(hf b z).1
 rw[e]at this
 cases this
theorem Inv.fpT {t:Addr}{zs:List V}(I:Inv X pins σ H s)(ht:SqT X.K H t zs)(f:FpOk X pins H t):False:=by
 rcases ht with hr | ⟨o,_,_,hk,_⟩
 ·rcases hr with hr | ⟨o,hr⟩
  ·rw[f.1]at hr;cases hr
  rw[f.1]at hr;cases hr
 have e:=I.mod.kin t o hk
 rcases f.2.2.2.1 with q | q
 ·exact I.ok.noex t o e q
 exact absurd (lt_of_lt_of_le (Heap.lt_size (I.ok.bs t o e).1) q) (lt_irrefl _)
theorem Inv.stepL {t':Nat}{ch:List Addr}(I:Inv X pins σ H s)(hf:∀b∈ch,FpOk X pins H b)(k:∀b o,b∉ch->s.heap.get? b=some o->h'.get? b=some o):Inv X pins σ H { s with heap:=h',toks:=t' }:=by
 refine I.step (g':=s.gens) (d':=s.drawn) (ch:=ch) (λb hb=>⟨(hf b hb).2.2.2.1,(hf b hb).2.1,(hf b hb).2.2.2.2.1,(hf b hb).2.2.2.2.2⟩) (λb o _ _ hc e _=>k b o hc e) (λb o _ _ hc e _=>⟨o.slots,k b o hc e⟩) (λ_ _ _ _ n=>n)
  (λb o hc e=>⟨o,k b o hc e⟩) (λ_ _ e=>e) (λ_ _ _ e=>e) (λb ps e=>⟨#[],by rw[e];simp⟩) (λm hm=>?_) (λb u e=>?_) I.bare
 ·obtain⟨o,es,ep,ho,r⟩:=hm
  exact⟨o,es,ep,k _ o (λz=>(hf _ z).2.1 rfl) ho,r⟩
 refine(I.hok b u e).stay (λc v hc q=>k c v ?_ q) (λ_ q=>q) λ_ _ q=>q
 rcases hc with z | z
 ·rw[z];exact FpOk.not hf e
 exact FpOk.not hf z
theorem Inv.stepN {t':Nat}{ch:List Addr}{ob:HO}(I:Inv X pins σ H s)(hf:∀b∈ch,FpOk X pins H b)(k:∀b o,b∉ch->s.heap.get? b=some o->h'.get? b=some o)
  (new:ObjOk X.prog X.w (upd H s.heap.objs.size ob) h' s.heap.objs.size ob):Inv X pins σ (upd H s.heap.objs.size ob) { s with heap:=h',toks:=t' }:=by
 have fr:H s.heap.objs.size=none:=I.hok.fresh (Nat.le_refl _)
 have fz:FpOk X pins H s.heap.objs.size:=I.fpOk (Nat.le_refl _) fr
 have hf':∀b∈s.heap.objs.size::ch,FpOk X pins H b:=λb hb=>by
  rcases(mem_cons.mp hb)with e | e
  ·rw[e];exact fz
  exact hf b e
 have k':∀b o,b∉s.heap.objs.size::ch->s.heap.get? b=some o->h'.get? b=some o:=λb o hb e=>k b o (λz=>hb (mem_cons_of_mem _ z)) e
 have ne:∀b o,s.heap.get? b=some o->b≠s.heap.objs.size:=λb o e=>ne_of_lt (Heap.lt_size e)
 refine I.step (g':=s.gens) (d':=s.drawn) (ch:=s.heap.objs.size::ch) (λb hb=>⟨(hf' b hb).2.2.2.1,(hf' b hb).2.1,(hf' b hb).2.2.2.2.1,(hf' b hb).2.2.2.2.2⟩) (λb o _ _ hc e _=>k' b o hc e) (λb o _ _ hc e _=>⟨o.slots,k' b o hc e⟩)
  (λb o _ e n=>by rw[Zaj (ne b o e)];exact n) (λb o hc e=>⟨o,k' b o hc e⟩) (λb xs e=>by rw[Zaj (Zah e fr)];exact e) (λb o xs e=>by rw[Zaj (Zah e fr)];exact e)
  (λb ps e=>⟨#[],by rw[Zaj (Zah e fr),e];simp⟩) (λm hm=>?_) (λb u e=>?_) I.bare
 ·obtain⟨o,es,ep,ho,r⟩:=hm
  exact⟨o,es,ep,k _ o (λz=>(hf _ z).2.1 rfl) ho,r⟩
 by_cases hb:b=s.heap.objs.size
 ·subst hb
  rw[Zad]at e
  cases e
  exact new
 rw[Zaj hb]at e
 refine(I.hok b u e).stay (λc v hc q=>k c v ?_ q) (λc q=>by rw[Zaj (Zah q fr)];exact q) λc xs q=>by rw[Zaj (Zah q fr)];exact q
 rcases hc with z | z
 ·rw[z];exact FpOk.not hf e
 exact FpOk.not hf z
end
theorem Same.new {H:Hp}{l:Addr}{o:HO}(h:H l=none):Same H (upd H l o):=λb u e=>by
 rw[Zaj (Zah e h)]
 exact e
theorem Same.put {H H':Hp}{l:Addr}{o:HO}(s:Same H H')(h:H l=none):Same H (upd H' l o):=λb u e=>by
 rw[Zaj (Zah e h)]
 exact s b u e
structure Df (K:W.Frag)(mg:Str->Option Value)(x:Str)(st:Stmt)(ps:List Str)(f:Addr)(fd:FuncData):Prop where
 F:Fun K x x st f fd
 m:mg x=some (.ref f)
 b:Binds K fd ps []
theorem lcJ {J:It}{n:Nat}{D:Addr}{ρ:St}{tc:TT}{te:TE}{fin:Hp->Prop}{H0:Hp}(Pv:Nat->List V->Hp->Prop)(h0:Pv 0 [] (upd H0 D (.lst [])))
  (go:∀i ys H,i<n->Pv i ys H->J.go i H)(stop:∀ys H,Pv n ys H->J.stop n H)
  (hs:∀i ys H x H1,i<n->Pv i ys H->J.yld i H x H1->tc (some x::ρ) H1 λb H3=>if b=true then te (some x::ρ) H3 λy H4=>∃zs,H4 D=some (.lst zs)/\zs.length<sizeLine/\Pv (i+1) (zs++[y]) (upd H4 D (.lst (zs++[y])))else Pv (i+1) ys H3)
  (hd:∀ys H,Pv n ys H->fin H):∃W:Nat->Nat->List V->Hp->Prop,(∃m,W 0 m [] (upd H0 D (.lst [])))/\tLcB J D (none::ρ) (Zgt 0) tc te fin W:=by
 refine⟨λi m ys H=>m=n-i/\i<=n/\Pv i ys H,⟨n,rfl,zero_le _,h0⟩,?_⟩
 rintro i m ys H ⟨rfl,hi,p⟩
 by_cases hlt:i<n
 ·refine .inr ⟨go i ys H hlt p,Pv (i+1),λys' H' p'=>⟨n-(i+1),by lia,rfl,hlt,p'⟩,λx H1 y=>⟨⟨rfl,λj v e=>?_⟩,hs i ys H x H1 hlt p y⟩⟩
  cases j with
  | zero=>cases e
  | succ j=>exact e
 have e:i=n:=by lia
 subst e
 exact .inl ⟨stop ys H p,hd ys H p⟩
theorem Zbu {σ:St}{H:Hp}{A B:Hp->Prop}(h:A H):tYes σ H λb H3=>if b=true then A H3 else B H3:=by
 show if true=true then A H else B H
 rw[if_pos rfl]
 exact h
theorem sub_nones {ρ:St}{x y:V}:(some x::some y::ρ:St).length=(none::none::ρ:St).length/\∀(i:Nat) v,(none::none::ρ:St)[i]? = some (some v)->(some x::some y::ρ:St)[i]? = some (some v):=
 ⟨rfl,λj v e=>by
  match j,e with
  | 0,e=>cases e
  | 1,e=>cases e
  | j+2,e=>exact e⟩
section
variable {X:Cx}
theorem Zlc (K:W.Frag)(h:X.K=K):IxR X (rIxL K):=by
 subst h
 exact Zbj
theorem Zb2 (K:W.Frag)(h:X.K=K):IxR X (rIxT K):=by
 subst h
 exact Zat
theorem call_tupK (K:W.Frag)(h:X.K=K):Zcq X (.type "tuple") (λxs H Q=>∃p ys,xs=[.ref p]/\((SqL K H p ys/\∀l,H l=none->Q (.ref l) (upd H l (.tup ys)))\/(SqT K H p ys/\Q (.ref p) H))):=by
 subst h
 exact Zb5
theorem Zmu {e:Expr}{n:Nat}{t:TGs}(K:W.Frag)(h:X.K=K)(hp:PG X e (gTup X.K n t)):PG X e (gTup K n t):=by
 subst h
 exact hp
end
theorem Zes:bootBuiltins "tuple" = some (.type "tuple"):=by decide +kernel
theorem bt_int:bootBuiltins "int" = some (.type "int"):=by decide +kernel
theorem bt_bool:bootBuiltins "bool" = some (.type "bool"):=by decide +kernel
theorem Zdb:bootBuiltins "isinstance" = some (.builtin "isinstance"):=by decide +kernel
end L2
namespace Tx
open PySem L2 PyProof.Rows
open PySem.PyData (strOk)
theorem ok_of {x:Str}(h:∀c∈x.cps.toList,c<0x110000):strOk x=true:=by
 unfold strOk
 rw[Array.all_eq_true']
 intro c hc
 exact decide_eq_true (h c (by simpa using hc))
end Tx
namespace Rk
open PySem
def cs (x:Str):List Nat:=x.cps.toList
theorem Zjg (x y:Str):cs (x++y)=cs x++cs y:=by
 show(x.cps++y.cps).toList=_
 rw[Array.toList_append]
 rfl
theorem Zoi {x y:Str}(h:cs x=cs y):x=y:=by
 cases x with | mk a=>
 cases y with | mk b=>
 have:a=b:=Array.toList_inj.mp h
 rw[this]
theorem Zlj (x:Str):(cs x).length=x.length:=by
 show x.cps.toList.length=x.cps.size
 exact Array.length_toList
end Rk
namespace Rk
open PySem PyProof.Rows L2 Tx
theorem Zld (x:Str):∀ys:List Str,inV (.str x) (ys.map V.str)=decide (x∈ys)
 | []=>rfl
 | y::ys=>by
  show(eqV (.str y) (.str x) || inV (.str x) (ys.map V.str))=_
  rw[Zld x ys]
  by_cases h:y=x
  ·subst h
   simp[eqV]
  have h':¬x=y:=λe=>h e.symm
  simp[eqV,h,h']
end Rk
namespace Rk
open PySem PySem.Spec PyProof.Rows L2 Tx
end Rk
namespace SK
open PySem PyProof.Rows
def dd {κ:Type}[DecidableEq κ](val:Nat->κ):Nat->List κ
 | 0=>[]
 | i+1=>if val i∈dd val i then dd val i else dd val i++[val i]
section
variable {κ:Type} [DecidableEq κ] {val:Nat->κ}
theorem dd_le:∀i:Nat,(dd val i).length<=i
 | 0=>Nat.le_refl _
 | i+1=>by
  have ih:=dd_le i
  show(if val i∈dd val i then dd val i else dd val i++[val i]).length<=i+1
  split
  ·lia
  rw[length_append]
  show(dd val i).length+1<=i+1
  lia
theorem Zm6:∀{i:Nat}{x:κ},x∈dd val i->∃j,j<i/\x=val j
 | 0,_,h=>nomatch h
 | i+1,x,h=>by
  have h':x∈(if val i∈dd val i then dd val i else dd val i++[val i]):=h
  split at h'
  ·obtain⟨j,hj,e⟩:=Zm6 h'
   exact⟨j,by lia,e⟩
  rcases mem_append.mp h' with z | z
  ·obtain⟨j,hj,e⟩:=Zm6 z
   exact⟨j,by lia,e⟩
  exact⟨i,by lia,mem_singleton.mp z⟩
theorem dd_full {n:Nat}(inj:∀i j,i<n->j<n->val i=val j->i=j):∀i:Nat,i<=n->(dd val i).length=i
 | 0,_=>rfl
 | i+1,h=>by
  have ih:=dd_full inj i (by lia)
  show(if val i∈dd val i then dd val i else dd val i++[val i]).length=i+1
  rw[if_neg,length_append,ih]
  ·rfl
  intro z
  obtain⟨j,hj,e⟩:=Zm6 z
  have:=inj i j (by lia) (by lia) e
  lia
theorem dd_step (i:Nat)(x:κ):decide (x∈dd val (i+1))=(decide (x∈dd val i) || decide (x=val i)):=by
 show decide (x∈(if val i∈dd val i then dd val i else dd val i++[val i]))=_
 by_cases h:val i∈dd val i
 ·rw[if_pos h]
  by_cases e:x=val i
  ·subst e;simp[h]
  simp[e]
 rw[if_neg h]
 simp[mem_append]
theorem dd_size (i:Nat):(dd val (i+1)).length=if decide (val i∈dd val i)=true then(dd val i).length else(dd val i).length+1:=by
 show(if val i∈dd val i then dd val i else dd val i++[val i]).length=_
 by_cases h:val i∈dd val i
 ·rw[if_pos h,if_pos (decide_eq_true h)]
 rw[if_neg h,if_neg (by simpa using h),length_append]
 rfl
end
section
variable {prog:Program}{w:World}{κ:Type} [DecidableEq κ] {knd:KeyKind prog w κ}{A:Around}{R:Result->Shared->Prop}{I:Addr}{fp wr:List Addr}{G:Array GenState->Array GenState->Prop}{n:Nat}{P:Nat->Value->Prop}{St:Nat->Shared->Prop}
theorem kept {S:Addr}{h h':Heap}{f:κ->Bool}{m:Nat}(q:h.SetOf knd S f m)(e:∀o,h.get? S=some o->h'.get? S=some o):h'.SetOf knd S f m:=by
 obtain⟨o,es,ep,t,ho,r⟩:=q
 exact⟨o,es,ep,t,e o ho,r⟩
theorem Zlk {S:Addr}{h:Heap}{f g:κ->Bool}{m k:Nat}(q:h.SetOf knd S f m)(e:∀x,f x=g x)(em:m=k):h.SetOf knd S g k:=by
 have:f=g:=funext e
 subst this em
 exact q
theorem fill (W:WalksS prog w A.in1 I fp wr G n P St)(S:Addr)(nS:S∉fp)(val:Nat->κ)(hv:∀i v,P i v->knd.is (val i) v=true/\v.scannable=true)(hb:n+1<scanBound) :
  ∀(k i:Nat) (s:Shared),n-i=k->i<=n->St i s->s.heap.SetOf knd S (λx=>decide (x∈dd val i)) (dd val i).length ->
   (∀s',Moved (S::wr) G s s'->s'.heap.SetOf knd S (λx=>decide (x∈dd val n)) (dd val n).length->R (.ok (.ret .none)) s') ->
   (codeAny (model prog w) A (.builtin "set.update.loop" ⟨[.ref S,.ref I],[]⟩) R s):=by
 have nw:S∉wr:=λh=>nS (W.sub _ h)
 have sub:∀b∈wr,b∈S::wr:=λb z=>mem_cons_of_mem _ z
 intro k
 induction k with
 | zero=>
  intro i s hk hi st hS fin
  obtain rfl:i=n:=by lia
  refine codeAny_builtin PyProof.Rows.F.entry_set_update_loop ?_
  rw[Around.under_plainId PyProof.Rows.F.plain_set_update_loop _]
  refine wpAny_bind (m:=pyNext (.ref I)) (W.done s _ _ st λs1 hm=>?_)
  exact wpAny_pure (fin s1 (hm.mono sub) (kept hS λo e=>hm.heap S o nw e))
 | succ k ih=>
  intro i s hk hi st hS fin
  have lt:i<n:=by lia
  refine codeAny_builtin PyProof.Rows.F.entry_set_update_loop ?_
  rw[Around.under_plainId PyProof.Rows.F.plain_set_update_loop _]
  refine wpAny_bind (m:=pyNext (.ref I)) (W.item i s _ _ lt st λv s1 hP st1 hm=>?_)
  obtain⟨key,sc⟩:=hv i v hP
  refine wpAny_bind (m:=holding [v] (setAdd S v)) (wpAny_holding ?_)
  unfold setAdd
  refine wpAny_holding (wpAny_bind (knd.pyHash (k:=val i) key ?_))
  have room:(dd val i).length+1<scanBound:=by have:=dd_le (val:=val) i;lia
  refine wpAny_setAddHashed_of (knd:=knd) (s:={ s1 with toks:=s1.toks+1 }) key sc (kept hS λo e=>hm.heap S o nw e) room λh2 sb hS2=>?_
  have hS3:h2.SetOf knd S (λx=>decide (x∈dd val (i+1))) (dd val (i+1)).length:=Zlk hS2 (λx=>(dd_step i x).symm) (dd_size i).symm
  have oth:∀b o,b≠S->s1.heap.get? b=some o->h2.get? b=some o:=λb o z e=>(sb.2 b z).trans e
  refine wpAny_pure ⟨plainId_quiet PyProof.Rows.F.plain_set_update_loop _,ih (i+1) _ (by lia) lt (W.frame _ s1 h2 (s1.toks+1) st1 (le_succ _) λb hb o e=>oth b o (λz=>nS (z ▸ hb)) e) hS3 λs2 hm2 q=>?_⟩
  refine fin s2 (Moved.trans W.gtrans ((hm.mono sub).then_heap (le_succ _) λb o hb e=>oth b o (λz=>hb (z ▸ mem_cons_self)) e) hm2) q
end
section
variable {prog:Program}{w:World}{κ:Type} [DecidableEq κ] {knd:KeyKind prog w κ}{A:Around}{E:Value->Shared->Prop}{s:Shared}
abbrev fset (led:Bool):Obj:={ cls:=.type "set",dict:=none,data:=.set #[] 0 (.fresh 0 0 led) }
set_option maxHeartbeats 3300000 in
theorem make {l:Addr}{items:Array Value}{val:Nat->κ}{Q:Value->Shared->Prop}(hh:A.handled=none)(hl:s.heap.IsList l items)(hv:∀i v,items[i]? = some v->knd.is (val i) v=true/\v.scannable=true)(hb:items.size+1<scanBound)
  (q:∀(h':Heap) (tk:Nat),h'.SetOf knd s.heap.objs.size (λx=>decide (x∈dd val items.size)) (dd val items.size).length->(∀b o,s.heap.get? b=some o->h'.get? b=some o)->Q (.ref s.heap.objs.size) { s with heap:=h',toks:=tk }) :
  (wpAny (model prog w) A (call (.type "set") [.ref l]) Q E s):=by
 obtain⟨c,tl,hmro⟩:=PySem.F.called_set.mro
 have hmade:=PySem.F.called_set.made
 have hsub:=PySem.F.called_set.sub
 refine wpAny_call (codeAny_of_tree (show wpAny _ _ (callAny (.type "set") _) _ _ _ from ?_))
 refine wpAny_pure ⟨Code.quiet_builtin _ (by decide +kernel),codeAny_builtin PySem.F.entry_type_call ?_⟩
 (rw[Around.under_plain (weight_type_call_type "set" [.ref l] []) rfl])
 have h1:=PySem.F.called_set.notType
 have h2:=PySem.F.called_set.canCreate
 have hct:=PySem.F.typeCall_set_1 (.ref l)
 (repeat (any_goals (first | assumption | wp_step)))
 refine codeAny_mono (code_set_new_1 (.ref l) (E:=E) (Q₁:=λob s1=>∃led:Bool,ob=.ref s.heap.objs.size/\s1={ s with heap:=s.heap.push { cls:=.type "set",dict:=none,data:=.set #[] 0 (.fresh 0 0 led) } }) λled=>⟨led,rfl,rfl⟩) λr s1 hr=>?_
 cases r with
 | error e=>exact hr
 | ok fl=>
  cases fl with
  | ret ob=>
   obtain⟨led,rfl,rfl⟩:=hr
   have hS:(s.heap.push (fset led)).get? s.heap.objs.size=some (fset led):=Heap.get?_push_size _ rfl
   have hT:Shared.TypeIs { s with heap:=s.heap.push (fset led) } (.ref s.heap.objs.size) "set" := ⟨_,hS,rfl⟩
   have hli:=PySem.F.called_set.init.lookup
   have hbi:=PySem.F.called_set.init.bind (.ref s.heap.objs.size)
   (repeat (any_goals (first | assumption | wp_step)))
   refine codeAny_mono (codeAny_call_builtin (R:=wants (λr s2=>r=.none/\∃h' tk,s2={ s with heap:=h',toks:=tk }/\h'.SetOf knd s.heap.objs.size (λx=>decide (x∈dd val items.size)) (dd val items.size).length /\
     (∀b o,s.heap.get? b=some o->h'.get? b=some o)) E) PySem.F.called_set.init.plain PySem.F.entry_set_init (check_set_init_1 hT ?_)) λr2 s2 hr2=>?_
   ·obtain⟨⟨ocls,odict,odata,oslots⟩,hol,hcl,nl,hdl⟩:=hl
    simp only at hcl hdl
    subst hcl hdl
    have hol':(s.heap.push (fset led)).get? l=some { cls:=.type "list",dict:=odict,data:=.seq items nl,slots:=oslots }:=Heap.get?_push_of_some _ hol
    have x1:=PySem.F.sub_list_set
    have x2:=PySem.F.sub_list_frozenset
    have x3:(Value.type "list" == Value.type "dict")=false:=by decide
    have hl1:(s.heap.push (fset led)).IsList l items:=⟨_,hol',rfl,nl,rfl⟩
    (unfold Builtin.«set.__init__» noKeywords Builtin.Frozenset.updateFrom)
    generalize hPI:pyIter=PI
    wp_walk
    subst hPI
    (refine wpAny_pyIter_list hl1 ?_)
    (refine wpAny_bind (wpAny_runValue ?_))
    have lt:l<s.heap.objs.size:=Heap.lt_size hol
    have sz:(s.heap.push (fset led)).objs.size=s.heap.objs.size+1:=Heap.size_push ..
    (have hh3:A.in1.in1.in1.handled=none:=by simp[hh])
    have ne1:l≠(s.heap.push (fset led)).objs.size:=by rw[sz];exact ne_of_lt (lt_succ_of_lt lt)
    have nS:s.heap.objs.size∉[(s.heap.push (fset led)).objs.size,l]:=by
     rw[sz]
     simp only[mem_cons,not_mem_nil,or_false,not_or]
     exact⟨ne_of_lt (lt_succ_self _),ne_of_gt lt⟩
    refine fill (knd:=knd) ((Walks.list hh3 _ l ne1 items).toS) s.heap.objs.size nS val hv hb (items.size-0) 0 _ (by lia) (zero_le _) ⟨⟨_,Heap.get?_push_size _ rfl,rfl,rfl⟩,hl1.push _⟩ ?_ λs3 hm q3=>?_
    ·have g:=Heap.get?_push_of_some ({ cls:=.type "list_iterator",data:=.fields #[.ref l,.int 0 0] }:Obj) hS
     exact Zlk ((PyProof.Rows.setObjOf_fresh (knd:=knd) led).setOf g (by unfold scanBound;lia)) (λx=>by simp[dd]) rfl
    obtain⟨h3,g3,d3,tk3,os3⟩:=s3
    obtain⟨m1,m2,m3,m4,m5⟩:=hm
    have eg:g3=s.gens:=m2
    have ed:d3=s.drawn:=m3
    have es:os3=s.os:=m4
    subst eg ed es
    refine wpAny_pure (wpAny_pure ⟨rfl,h3,tk3,rfl,q3,λb o e=>m1 b o ?_ (Heap.get?_push_of_some _ (Heap.get?_push_of_some _ e))⟩)
    have lb:b<s.heap.objs.size:=Heap.lt_size e
    rw[sz]
    simp only[mem_cons,not_mem_nil,or_false,not_or]
    exact⟨ne_of_lt lb,ne_of_lt (lt_succ_of_lt lb)⟩
   cases r2 with
   | error e=>exact hr2
   | ok fl2=>
    cases fl2 with
    | ret r=>
     obtain⟨rfl,h',tk,rfl,a1,a2⟩:=hr2
     (repeat (any_goals (first | assumption | wp_step)))
     exact q _ _ a1 a2
    | _=>exact hr2.elim
  | _=>exact hr.elim
end
end SK
namespace L2
open PySem PySem.Spec PyProof.Rows
section
variable {X:Cx}
theorem call_all (hc:X.calm=true):Zcq X (.builtin "all") (λxs H Q=>∃(p:Addr) (bs:List Bool),xs=[.ref p]/\SqL X.K H p (bs.map V.bl)/\Q (.bl (bs.all λb=>b)) H):=by
 intro pins s σ H xs us Q I r h
 obtain⟨p,bs,rfl,hp,q⟩:=h
 obtain⟨u,rfl,ru⟩:=Zc5 r
 cases ru
 obtain⟨its,rv,pl,hz⟩:=I.list hp
 have hlen:=rv.length
 rw[length_map]at hlen
 have hlt:p<s.heap.objs.size:=by
  obtain⟨o,n,e,_⟩:=pl
  exact Heap.lt_size e
 refine call_all_walk (wpAny_pyIter_list pl.isList ⟨s.heap.objs.size,_,_,_,_,_,λi=>bs.getD i true,rfl,Walks.list (show X.A.in1.handled=none from I.ok.hd hc) _ p (ne_of_lt hlt) its.toArray,⟨⟨_,Heap.get?_push_size _ rfl,rfl,rfl⟩,pl.isList.push _⟩,λi v s2 Q2 E2 hP hQ=>?_,λh' tk hk=>?_⟩)
 ·have hi:its[i]? = some v:=by simpa using hP
  have hib:i<bs.length:=by
   have:=(List.getElem?_eq_some_iff.mp hi).1
   lia
  obtain⟨u',hu',ru⟩:=rv.get (i:=i) (x:=.bl bs[i]) (by simp[hib])
  rw[hi]at hu'
  cases hu'
  cases ru
  refine wpAny_truthy_bool ?_
  have e:bs.getD i true=bs[i]:=by simp[List.getD,hib]
  rw[<- e]
  exact hQ
 refine⟨.bl _,H,I.kept (t':=tk) (λb o e=>hk b o ?_ (Heap.get?_push_of_some _ e)),rfl,?_⟩
 ·intro z
  rw[mem_singleton]at z
  exact absurd (Heap.lt_size e) (by rw[z];exact lt_irrefl _)
 have e:(List.range its.toArray.size).all (λi=>bs.getD i true)=bs.all λb=>b:=by
  rw[size_toArray,<- hlen]
  (rw[Bool.eq_iff_iff,all_eq_true,all_eq_true])
  constructor
  ·intro a b hb
   (obtain⟨i,hi,rfl⟩:=List.getElem_of_mem hb)
   have:=a i (mem_range.mpr hi)
   simpa [List.getD,hi] using this
  intro a i hi
  (have hi':=mem_range.mp hi)
  have:=a bs[i] (getElem_mem hi')
  simpa [List.getD,hi'] using this
 rw[e]
 exact q
def setO (P:Program)(w:World)(a:Addr)(n:Nat):HO:=.ext λh=>∃S,h.SetOf (Za0 P w) a S n
def kAt (ks:List Key)(i:Nat):Key:=ks.getD i (.inl 0)
theorem Zjj (hc:X.calm=true):Zcq X (.type "set") (λxs H Q=>∃p ks,xs=[.ref p]/\SqL X.K H p (ks.map kV)/\ks.length<=1000/\∀a,H a=none->Q (.ref a) (upd H a (setO X.prog X.w a (SK.dd (kAt ks) ks.length).length))):=by
 intro pins s σ H xs us Q I r h
 obtain⟨p,ks,rfl,hp,hk,q⟩:=h
 obtain⟨u,rfl,ru⟩:=Zc5 r
 cases ru
 obtain⟨its,rv,pl,hz⟩:=I.list hp
 have hlen:=rv.length
 rw[length_map]at hlen
 refine SK.make (knd:=Za0 X.prog X.w) (val:=kAt ks) (I.ok.hd hc) pl.isList (λi v hv=>?_) (by rw[size_toArray];unfold scanBound;lia) λh' tk hS kp=>?_
 ·have hi:its[i]? = some v:=by simpa using hv
  have hib:i<ks.length:=by
   have:=(List.getElem?_eq_some_iff.mp hi).1
   lia
  obtain⟨u',hu',ru⟩:=rv.get (i:=i) (x:=kV ks[i]) (by simp[hib])
  rw[hi]at hu'
  cases hu'
  have e:kAt ks i=ks[i]:=by simp[kAt,List.getD,hib]
  rw[e]
  refine⟨Zib ru,?_⟩
  cases hkk:ks[i]with
  | inl j=>rw[hkk]at ru;obtain⟨t,rfl⟩:=ru;rfl
  | inr y=>rw[hkk]at ru;obtain⟨t,rfl⟩:=ru;rfl
 have es:its.toArray.size=ks.length:=by simp[hlen]
 rw[es]at hS
 refine⟨.ref _,_,I.laid (a:=s.heap.objs.size) (o:=setO X.prog X.w s.heap.objs.size (SK.dd (kAt ks) ks.length).length) kp (Nat.le_refl _) ⟨⟨_,hS⟩,?_,λh1 h2 f1 e=>?_⟩,rfl,q _ (I.hok.fresh (Nat.le_refl _))⟩
 ·obtain⟨o,_,_,_,e,_⟩:=hS
  exact⟨o,e⟩
 obtain⟨S,z⟩:=f1
 exact⟨S,SK.kept z e⟩
theorem Zjk:Zcq X (.builtin "len") (λxs H Q=>∃a n,xs=[.ref a]/\H a=some (setO X.prog X.w a n)/\Q (.int n) H):=by
 intro pins s σ H xs us Q I r h
 obtain⟨a,n,rfl,ha,q⟩:=h
 obtain⟨u,rfl,ru⟩:=Zc5 r
 cases ru
 obtain⟨⟨S,o,es,ep,t,ho,ex,hd,_,_,hb,hf,hn⟩,_,_⟩:=I.hok a _ ha
 refine call_len_set ho ex hd hf (by unfold scanBound at hb;lia) ⟨.int n,H,I.tok _,⟨_,by rw[hn]⟩,q⟩
end
def Its (x:Str):It:=⟨λi _=>i<x.cps.size,λi H v H'=>H'=H/\∃c,x.cps[i]? = some c/\v=.str ⟨#[c]⟩,λi _=>x.cps.size<=i⟩
theorem turn_str {P:Program}{w:World}{K:W.Frag}{tg:Expr}(it:Addr)(x:Str)(t:Tok):Turn P w K tg (Its x) [it] it (λi h=>h.IsStrIter it "str_ascii_iterator" x t i) where
 mem:=by simp
 obj:=λi h st b hb=>by
  have e:b=it:=by simpa using hb
  subst e
  obtain⟨o,e,c,d⟩:=st
  exact⟨o,e,λv z=>by rw[d]at z;cases z⟩
 keep:=λi h h' st k=>by
  obtain⟨o,e,r⟩:=st
  exact⟨o,k it (by simp) o e,r⟩
 item:=by
  intro X hP hw hK hc i pins s σ H E I hf st hg
  subst hP hw hK
  obtain⟨f0,f1,f2,f3,f4,f5⟩:=hf it (by simp)
  have hi:i<x.cps.size:=hg
  refine wpAny_pyNext_ascii_item st (c:=x.cps[i]) (by simp[hi]) λh' st' sb=>?_
  have I1:Inv X pins σ H { s with heap:=h',toks:=s.toks+1 }:=I.turned (λb o hb e=>(sb.2 b hb).trans e) f0 f1 f3 f4 f5
  obtain⟨o,e,c,d⟩:=id st'
  exact⟨_,rfl,Zmw (s:={ s with heap:=h',toks:=s.toks+1 }) e c d (by decide) ⟨.str ⟨#[x.cps[i]]⟩,H,I1,⟨_,rfl⟩,⟨rfl,_,by simp[hi],rfl⟩,st',λb hb=>(hf b hb).1⟩⟩
 done:=by
  intro X hP hw hK hc i pins s σ H E I hf st hg
  subst hP hw hK
  obtain⟨f0,f1,f2,f3,f4,f5⟩:=hf it (by simp)
  have hi:x.cps.size<=i:=hg
  exact wpAny_pyNext_ascii_end (I.ok.hd hc) st (by simp[hi]) λh' eb=>⟨rfl,I.turned (t':=s.toks) (λb o hb e=>eb b o hb e) f0 f1 f3 f4 f5⟩
 self:=λ_ _ _ _ _ st h=>wpAny_pyIter_striter_ascii st h
def iStr (tl:TE):TI:=λσ H R=>tl σ H λv H1=>∃x,v=.str x/\x.cps.all (· < 128)=true/\R (Its x) H1
theorem pi_str {X:Cx}{tg l:Expr}{tl:TE}(hl:PE X l tl):PI X tg l (iStr tl):=by
 intro pins s σ H R I h
 refine thn (hl pins s σ H _ I h) λv s1 hp0=>?_
 obtain⟨y,H1,I1,r1,q1⟩:=hp0
 obtain⟨x,e,ha,q⟩:=q1
 subst e
 obtain⟨t,rfl⟩:=r1
 refine wpAny_pyIter_ascii ha ⟨s1.heap.objs.size,[s1.heap.objs.size],_,_,H1,rfl,I1.kept (t':=s1.toks) λb o e=>Heap.get?_push_of_some _ e,turn_str _ x t,⟨_,Heap.get?_push_size _ rfl,rfl,rfl⟩,λb hb=>?_,q⟩
 have e:b=s1.heap.objs.size:=by simpa using hb
 subst e
 exact I1.fpOk (Nat.le_refl _) (I1.hok.fresh (Nat.le_refl _))
end L2
namespace ZN
open PySem PyProof.Rows
end ZN
namespace L2
open PySem PySem.Spec PyProof.Rows
theorem KV.get2:∀{kvs:List (Key×V)}{vs:List (Key×Value)}{i:Nat}{k:Key}{v:V},KV kvs vs->kvs[i]? = some (k,v)->∃u,vs[i]? = some (k,u)/\RelV v u
 | _,_,_,_,_,.nil,e=>by simp at e
 | _,_,0,_,_,.cons (b:=p) r _,e=>by
  simp at e
  subst e
  obtain⟨e1,e2⟩:=r
  obtain⟨p1,p2⟩:=p
  cases e1
  exact⟨p2,rfl,e2⟩
 | _,_,i+1,_,_,.cons _ t,e=>by
  obtain⟨v,h1,h2⟩:=KV.get2 (i:=i) t (by simpa using e)
  exact⟨v,by simpa using h1,h2⟩
section
variable {X:Cx}
theorem Inv.freeze {pins:List (Addr×Obj)}{σ:St}{H:Hp}{s:Shared}{a:Addr}{kvs:List (Key×V)}{o:Obj}(I:Inv X pins σ H s)(ha:H a=some (.dK kvs))(ho:s.heap.get? a=some o):Inv X pins σ (upd H a (.frz o (.dK kvs))) s:=by
 have hne:∀b,H b=none->b≠a:=λb e z=>by rw[z,ha]at e;cases e
 have keep:∀b u,H b=some u->u≠.dK kvs->upd H a (.frz o (.dK kvs)) b=some u:=λb u e d=>by rw[Zaj (Zbg e ha d)];exact e
 have st:Inv X pins σ (upd H a (.frz o (.dK kvs))) { s with heap:=s.heap,gens:=s.gens,drawn:=s.drawn,toks:=s.toks }:=by
  refine I.step (g':=s.gens) (t':=s.toks) (d':=s.drawn) (ch:=[]) (λb hb=>nomatch hb) (λb o _ _ _ e _=>e) (λb o _ _ _ e _=>⟨o.slots,e⟩) (λb o _ e n=>by rw[Zaj (hne b n)];exact n) (λb o _ e=>⟨o,e⟩)
   (λb xs e=>keep b _ e (by intro z;cases z)) (λb o u e=>keep b _ e (by intro z;cases z)) (λb ps e=>⟨#[],by rw[keep b _ e (by intro z;cases z)];simp⟩) (λm hm=>hm) (λb u e=>?_) I.bare
  by_cases hb:b=a
  ·subst hb
   rw[Zad]at e
   cases e
   exact⟨ho,I.hok _ _ ha⟩
  rw[Zaj hb]at e
  exact(I.hok b u e).stay (λc v _ q=>q) (λc q=>keep c _ q (by intro z;cases z)) λc xs q=>keep c _ q (by intro z;cases z)
 exact st
end
theorem Zm2 {X:Cx}{pins:List (Addr×Obj)}{σ:St}{H:Hp}{s:Shared}{a:Addr}{o:Obj}{kvs:List (Key×V)}{es:Array DictEntry}{ep:Nat}(I:Inv X pins σ H s)(ha:H a=some (.frz o (.dK kvs)))(hd:o.data=.dict es ep) :
  ∃vs,KV kvs vs/\s.heap.DictAt (Za0 X.prog X.w) a vs ep:=by
 obtain⟨ho,hz,hm,vs,hkv,o',es',ep',ho',ex,hd',r⟩:=I.hok a _ ha
 rw[ho]at ho'
 cases ho'
 rw[hd]at hd'
 cases hd'
 exact⟨vs,hkv,o,es,ho,ex,hd,r⟩
theorem Zht {u:Value}{v:V}(h:absV u=some v):RelV v u:=by
 cases u with
 | none=>cases h;rfl
 | bool b=>cases h;rfl
 | int i t=>cases h;exact⟨t,rfl⟩
 | str x t=>cases h;exact⟨t,rfl⟩
 | bytes b t=>cases h;exact⟨t,rfl⟩
 | float b t=>cases h;exact⟨t,rfl⟩
 | ref a=>cases h;rfl
 | type n=>cases h;rfl
 | _=>cases h
section
variable {X:Cx}
theorem Zg5:∀{ys:List Str}{us:List Value},Vals (ys.map V.str) us->StrsAre us ys
 | [],_,h=>by cases h;exact .nil
 | y::ys,_,h=>by
  cases h with
  | cons r t=>
   obtain⟨tk,rfl⟩:=r
   exact .cons y tk (Zg5 t)
theorem mt_join:MtR X "str.join" (λx xs H Q=>∃a p ys,x=.str a/\xs=[.ref p]/\SqL X.K H p (ys.map V.str)/\(ys.map (·.length)).sum+ys.length*a.length<=16777216/\Q (.str (Txt.join a ys)) H):=by
 intro pins s σ H x xs v us Q I rx rv h
 obtain⟨a,p,ys,rfl,rfl,hp,hz,q⟩:=h
 obtain⟨t,rfl⟩:=rx
 obtain⟨u,rfl,ru⟩:=Zc5 rv
 cases ru
 obtain⟨its,r,pl,_⟩:=I.list hp
 exact join_list pl.isList (by simpa using Zg5 r) hz λt' k=>⟨.str _,H,I.tok k,⟨t',rfl⟩,q⟩
end
theorem Zbx:bootBuiltins "list" = some (.type "list"):=by decide +kernel
theorem Zjm:bootBuiltins "set" = some (.type "set"):=by decide +kernel
theorem Znb:bootBuiltins "all" = some (.builtin "all"):=by decide +kernel
end L2
namespace ZN
open PySem PyProof.Rows
end ZN
namespace L2
open PySem PySem.Spec PyProof.Rows
end L2
namespace ZN
open PySem PyProof.Rows
end ZN
namespace L2
open PySem PySem.Spec PyProof.Rows
section
variable {X:Cx}
theorem Zil:∀{ys:List Str}{us:List Value},StrsAre us ys->Vals (ys.map V.str) us
 | _,_,.nil=>.nil
 | _,_,.cons y tk t=>.cons ⟨tk,rfl⟩ (Zil t)
theorem Zet:bootBuiltins "sorted" = some (.builtin "sorted"):=by decide +kernel
end
end L2
namespace L2
open PySem PySem.Spec PyProof.Rows PySem.W
abbrev Cx.at' (X:Cx)(pn:List (Addr×Obj))(xe:Value->Shared->Prop):Cx:={ X with pn:=pn,xe:=xe }
section
variable {X:Cx}{pins:List (Addr×Obj)}{σ:St}{H:Hp}{s:Shared}
theorem Inv.at' (I:Inv X pins σ H s)(xe:Value->Shared->Prop):Inv (X.at' (X.pn++pins) xe) [] σ H s:=
 ⟨⟨I.ok.mod,I.ok.kind,I.ok.glob,I.ok.blt,I.ok.above,I.ok.inj,I.ok.has,I.ok.cab,I.ok.hd,I.ok.frames,I.ok.stk,I.ok.exf,I.ok.bs,I.ok.bsz,I.ok.noex,I.ok.exfs,I.ok.funs,I.ok.frf⟩,I.os,I.bare,I.base,I.loc,I.cell,I.free,I.freeC,
  λp hp=>I.pin p (by rw[append_nil]at hp;exact hp),I.hok,I.len⟩
theorem Inv.unat {pins':List (Addr×Obj)}{xe:Value->Shared->Prop}(ok:X.Ok)(I:Inv (X.at' (X.pn++pins) xe) pins' σ H s):Inv X pins σ H s:=
 ⟨ok,I.os,I.bare,I.base,I.loc,I.cell,I.free,I.freeC,λp hp=>I.pin p (mem_append_left _ hp),I.hok,I.len⟩
end
section
variable {X:Cx}
theorem Zjl:Zcq X (.builtin "isinstance") (λxs H Q=>∃a ys,xs=[.ref a,.ty "list"]/\H a=some (.lst ys)/\Q (.bl true) H):=by
 intro pins s σ H xs us Q I r h
 obtain⟨a,ys,rfl,ha,q⟩:=h
 obtain⟨u1,u2,rfl,r1,r2⟩:=Zlr r
 cases r1
 cases r2
 obtain⟨z2,its2,n2,r2,ho⟩:=I.hok a _ ha
 exact PySem.IsiPair.list_list ho rfl ⟨.bl true,H,I,rfl,q⟩
end
end L2
namespace L2
open PySem PySem.Spec PyProof.Rows
end L2
namespace SK
end SK
namespace L2
open PySem
theorem Zl0 {ps:List Str}(h:ps.Nodup):(SK.dd (kAt (ps.map (Sum.inr:Str->Key))) (ps.map (Sum.inr:Str->Key)).length).length=ps.length:=by
 have hk:(ps.map (Sum.inr:Str->Key)).length=ps.length:=length_map ..
 rw[SK.dd_full (n:=ps.length) (λi j hi hj e=>?_) _ (by lia),hk]
 have ei:kAt (ps.map (Sum.inr:Str->Key)) i=Sum.inr ps[i]:=by simp[kAt,List.getD,hi]
 have ej:kAt (ps.map (Sum.inr:Str->Key)) j=Sum.inr ps[j]:=by simp[kAt,List.getD,hj]
 rw[ei,ej]at e
 exact(getElem_inj h).mp (Sum.inr.inj e)
end L2
namespace HT
open PySem PySem.Spec PyProof.Rows
end HT
namespace L2
open PySem PySem.Spec PyProof.Rows
section
variable {X:Cx}
theorem Zkt {P:Program}{w:World}{H:Hp}{h:Heap}(ok:HOk P w H h){a:Addr}{us:List V}{ds:List PyData}(e:H a=some (.lst us))(r:RdVs H us ds):∃as,Reads h (.ref a) (.list ds) as:=by
 obtain⟨z,its,n,rv,ho⟩:=ok a _ e
 obtain⟨as,ra⟩:=RdVs.reads ok r rv
 exact⟨_,.list ho rfl rfl (by simpa using ra)⟩
end
end L2
namespace ZT
open PySem PyProof.Rows
end ZT
namespace F17
open PySem
end F17
namespace L2
open PySem PySem.Spec PyProof.Rows
section
variable {X:Cx}{pins:List (Addr×Obj)}{σ:St}{H:Hp}{s:Shared}
theorem Inv.trackF {S:Addr}{ob:HO}(I:Inv X pins σ H s)(hf:FpOk X pins H S)(new:ObjOk X.prog X.w (upd H S ob) s.heap S ob):Inv X pins σ (upd H S ob) s:=by
 refine I.step (H':=upd H S ob) (h':=s.heap) (g':=s.gens) (t':=s.toks) (d':=s.drawn) (ch:=[S]) (λb hb=>?_) (λb o _ _ _ e _=>e) (λb o _ _ _ e _=>⟨o.slots,e⟩) (λb o hc _ n=>?_) (λb o _ e=>⟨o,e⟩)
  (λb xs e=>by rw[Zaj (Zah e hf.1)];exact e) (λb o xs e=>by rw[Zaj (Zah e hf.1)];exact e) (λb ps e=>⟨#[],by rw[Zaj (Zah e hf.1),e];simp⟩) (λm hm=>hm) (λb u e=>?_) I.bare
 ·rw[mem_singleton]at hb
  subst hb
  exact⟨hf.2.2.2.1,hf.2.1,hf.2.2.2.2.1,hf.2.2.2.2.2⟩
 ·rw[Zaj (λz=>hc (mem_singleton.mpr z))]
  exact n
 by_cases hb:b=S
 ·subst hb
  rw[Zad]at e
  cases e
  exact new
 rw[Zaj hb]at e
 exact(I.hok b u e).stay (λc v _ q=>q) (λc q=>by rw[Zaj (Zah q hf.1)];exact q) λc xs q=>by rw[Zaj (Zah q hf.1)];exact q
theorem Zhm {H:Hp}{r:Addr}{o:HO}(h:H r=none):Same H (upd H r o):=λb u e=>by rw[Zaj (Zah e h)];exact e
end
end L2
namespace SG
open PySem
def Rs (xs:Array Nat):Prop:=∀(i j:Nat) (a b:Nat),i<j->xs[i]? = some a->xs[j]? = some b->a<b
theorem search {xs:Array Nat}(r:Rs xs)(v:Nat):∀(f lo hi:Nat),hi-lo<=f->lo<=hi->hi<=xs.size->(∀(i a:Nat),i<lo->xs[i]? = some a->a<v)->(∀(i a:Nat),hi<=i->xs[i]? = some a->v<=a) ->
  SetTable.below.go xs v f lo hi<=xs.size/\(∀(i a:Nat),i<SetTable.below.go xs v f lo hi->xs[i]? = some a->a<v)/\(∀(i a:Nat),SetTable.below.go xs v f lo hi<=i->xs[i]? = some a->v<=a):=by
 intro f
 induction f with
 | zero=>
  intro lo hi h1 h2 h3 l u
  have e:lo=hi:=by lia
  subst e
  exact⟨h3,l,u⟩
 | succ f ih=>
  intro lo hi h1 h2 h3 l u
  unfold SetTable.below.go
  split
  ·rename_i lt
   have hm:(lo+hi) / 2<xs.size:=by lia
   have eg:xs.getD ((lo+hi) / 2) v=xs[(lo+hi) / 2]:=by simp[Array.getD,hm]
   have e2:xs[(lo+hi) / 2]? = some xs[(lo+hi) / 2]:=Array.getElem?_eq_getElem hm
   dsimp only
   rw[eg]
   split
   ·rename_i c
    refine ih _ _ (by lia) (by lia) h3 (λi a hi9 e=>?_) u
    rcases lt_or_ge i ((lo+hi) / 2)with z | z
    ·exact lt_trans (r i _ a _ z e e2) c
    have z2:i=(lo+hi) / 2:=by lia
    subst z2
    rw[e2]at e
    cases e
    exact c
   rename_i c
   refine ih _ _ (by lia) (by lia) (by lia) l (λi a hi9 e=>?_)
   rcases lt_or_ge ((lo+hi) / 2) i with z | z
   ·exact le_of_lt (lt_of_le_of_lt (le_of_not_lt c) (r _ i _ a z e2 e))
   have z2:i=(lo+hi) / 2:=by lia
   subst z2
   rw[e2]at e
   cases e
   exact le_of_not_lt c
  rename_i c
  have e:lo=hi:=by lia
  subst e
  exact⟨h3,l,u⟩
theorem place {xs:Array Nat}(r:Rs xs)(v:Nat):SetTable.below xs v<=xs.size/\(∀(i a:Nat),i<SetTable.below xs v->xs[i]? = some a->a<v)/\(∀(i a:Nat),SetTable.below xs v<=i->xs[i]? = some a->v<=a):=
 search r v xs.size 0 xs.size (by lia) (zero_le _) (Nat.le_refl _) (λi a h=>by lia) (λi a h e=>by
  have:=(Array.getElem?_eq_some_iff.mp e).1
  lia)
theorem place_is {xs:Array Nat}(r:Rs xs){v k:Nat}(hk:k<=xs.size)(l:∀(i a:Nat),i<k->xs[i]? = some a->a<v)(u:∀(i a:Nat),k<=i->xs[i]? = some a->v<=a):SetTable.below xs v=k:=by
 obtain⟨h1,h2,h3⟩:=place r v
 rcases Nat.lt_trichotomy (SetTable.below xs v) k with z | z | z
 ·have hb:SetTable.below xs v<xs.size:=by lia
  have e:=Array.getElem?_eq_getElem hb
  have a1:=l _ _ z e
  have a2:=h3 _ _ (Nat.le_refl _) e
  lia
 ·exact z
 have hb:k<xs.size:=by lia
 have e:=Array.getElem?_eq_getElem hb
 have a1:=h2 _ _ z e
 have a2:=u _ _ (Nat.le_refl _) e
 lia
theorem Ze6 {α:Type}(xs:Array α){p:Nat}(hp:p<=xs.size)(x:α)(i:Nat):(SetTable.insertAt xs p x)[i]? = if i<p then xs[i]? else if i=p then some x else xs[i-1]?:=by
 have h:(SetTable.insertAt xs p x).toList=xs.toList.take p++x::xs.toList.drop p:=by
  rw[SetTable.toList_insertAt]
 rw[<- Array.getElem?_toList,h,<- Array.getElem?_toList,<- Array.getElem?_toList]
 have hl:(xs.toList.take p).length=p:=by rw[length_take,Array.length_toList];lia
 split
 ·rename_i c
  rw[getElem?_append_left (by lia),List.getElem?_take,if_pos c]
 rename_i c
 rw[getElem?_append_right (by lia),hl]
 split
 ·rename_i c2
  subst c2
  simp
 rename_i c2
 obtain⟨d,rfl⟩:∃d,i=p+(d+1):=⟨i-p-1,by lia⟩
 rw[show p+(d+1)-p=d+1 by lia,List.getElem?_cons_succ,List.getElem?_drop]
 congr 1
theorem rs_ins {xs:Array Nat}(r:Rs xs){v:Nat}(hn:¬xs[SetTable.below xs v]? = some v):Rs (SetTable.insertAt xs (SetTable.below xs v) v):=by
 obtain⟨h1,h2,h3⟩:=place r v
 have h4:∀(i a:Nat),SetTable.below xs v<=i->xs[i]? = some a->v<a:=by
  intro i a hi e
  rcases lt_or_ge v a with z | z
  ·exact z
  have e2:=h3 i a hi e
  have e3:a=v:=by lia
  subst e3
  rcases Nat.eq_or_lt_of_le hi with q | q
  ·rw[q]at hn;exact absurd e hn
  have hb:SetTable.below xs a<xs.size:=by
   have:=(Array.getElem?_eq_some_iff.mp e).1
   lia
  have e4:=Array.getElem?_eq_getElem hb
  have e5:=r _ _ _ _ q e4 e
  have e6:=h3 _ _ (Nat.le_refl _) e4
  lia
 intro i j a b hij ea eb
 rw[Ze6 _ h1]at ea eb
 split at ea
 ·rename_i c1
  split at eb
  ·exact r i j a b hij ea eb
  split at eb
  ·cases eb
   exact h2 i a c1 ea
  exact r i (j-1) a b (by lia) ea eb
 split at ea
 ·cases ea
  split at eb
  ·lia
  split at eb
  ·lia
  exact h4 (j-1) b (by lia) eb
 split at eb
 ·lia
 split at eb
 ·lia
 exact r (i-1) (j-1) a b (by lia) ea eb
theorem Zl3 {l:List Nat}(h:l.Pairwise (· < ·)):Rs l.toArray:=by
 intro i j a b hij ea eb
 rw[getElem?_toArray]at ea eb
 obtain⟨hi,rfl⟩:=List.getElem?_eq_some_iff.mp ea
 obtain⟨hj,rfl⟩:=List.getElem?_eq_some_iff.mp eb
 exact pairwise_iff_getElem.mp h i j hi hj hij
theorem Zks (n:Nat):Rs (Array.range n):=by
 have:Array.range n=(List.range n).toArray:=by simp
 rw[this]
 exact Zl3 pairwise_lt_range
theorem rs_nil:Rs #[]:=λi j a b _ e=>by simp at e
structure Tk (t t':SetTable):Prop where
 rs:Rs t'.place
 led:t'.led=t.led
theorem Zeu (t:SetTable)(n:Nat):Tk t (t.standIn n):=⟨Zks n,rfl⟩
theorem go_free {t:SetTable}{f:Nat->Int}{h:Int}:∀(n:Nat) (p:SetTable.Probe) (j:Nat) (d:Option Nat),(∀v,p.dummy=some v->¬t.place[SetTable.below t.place v]? = some v)->SetTable.probe.go t f h n p=some (.empty j d) ->
  ¬t.place[SetTable.below t.place (d.getD j)]? = some (d.getD j):=by
 intro n
 induction n with
 | zero=>intro p j d _ e;cases e
 | succ n ih=>
  intro p j d hd e
  unfold SetTable.probe.go at e
  split at e
  ·rename_i hs
   cases e
   cases hpd:p.dummy with
   | some v=>exact hd v hpd
   | none=>
    show ¬t.place[SetTable.below t.place p.j]? = some p.j
    intro z
    unfold SetTable.slot at hs
    simp[z]at hs
  ·rename_i hs
   refine ih _ j d (λv hv=>?_) e
   have e3:v=p.j:=by
    unfold SetTable.advance at hv
    split at hv <;> simp at hv <;> exact hv.symm
   subst e3
   intro z
   unfold SetTable.slot at hs
   simp[z]at hs
  split at e
  ·cases e
  refine ih _ j d (λv hv=>hd v ?_) e
  unfold SetTable.advance at hv
  split at hv <;> simpa using hv
theorem lay_ok {t:SetTable}(r:Rs t.place)(es:Array (Int×Value))(h:Int)(x:Value):Tk t (layNew t es h x).2.1:=by
 unfold layNew
 split
 ·rename_i slot wd hf
  unfold SetTable.freeSlot at hf
  split at hf
  ·rename_i j d hp
   have hn:=go_free _ _ j d (λv hv=>by unfold SetTable.probeStart at hv;simp at hv) hp
   cases hf
   show Tk t ((t.put (d.getD j)).1.orStandIn _)
   unfold SetTable.orStandIn
   split
   ·exact⟨rs_ins r hn,rfl⟩
   exact⟨Zks _,rfl⟩
  cases hf
 exact Zeu t _
theorem relay_ok {t:SetTable}(es:Array (Int×Value))(m:Nat):Tk t (relayAll t es m).2.1:=by
 unfold relayAll
 split
 ·rename_i t' order e
  unfold SetTable.relaid SetTable.laid at e
  cases ho:SetTable.layClean (SetTable.sizeAbove m-1) (es.map (·.1))with
  | none=>rw[ho]at e;cases e
  | some owner=>
   rw[ho]at e
   have e2:some _=some (t',order):=e
   cases e2
   dsimp only
   split
   ·refine⟨?_,rfl⟩
    dsimp only
    refine Zl3 ?_
    have hsub:∀l:List Nat,(List.map (λx=>x.1) (l.filterMap λj=>(owner.getD j none).map (j,·))).Sublist l:=by
     intro l
     induction l with
     | nil=>exact List.Sublist.slnil
     | cons a r ih=>
      rw[filterMap_cons]
      cases hh:owner.getD a none with
      | none=>exact List.Sublist.cons _ ih
      | some v=>exact List.Sublist.cons₂ _ ih
    exact List.Pairwise.sublist (hsub _) pairwise_lt_range
   exact Zeu t _
 exact Zeu t _
theorem perm_of {κ:Type}[DecidableEq κ]:∀{l m:List κ},l.Nodup->(∀x∈l,x∈m)->m.length<=l.length->m.Perm l
 | [],m,_,_,h=>by
  cases m with
  | nil=>exact List.Perm.refl _
  | cons a r=>simp at h
 | a::l,m,nd,sub,h=>by
  (obtain⟨n1,n2⟩:=nodup_cons.mp nd)
  have ha:=sub a mem_cons_self
  have p1:=List.perm_cons_erase ha
  have p2:(m.erase a).Perm l:=perm_of n2 (λx hx=>(List.mem_erase_of_ne (λ(e:x=a)=>n1 (e ▸ hx))).mpr (sub x (mem_cons_of_mem _ hx))) (by
   have:=p1.length_eq
   rw[length_cons]at this h
   lia)
  exact p1.trans (p2.cons a)
structure Gd (w:World)(t:SetTable):Prop where
 rs:Rs t.place
 led:t.led=!w.params.followText "set-order"
theorem Gd.tk {w:World}{t r:SetTable}(g:Gd w t)(k:Tk t r):Gd w r:=⟨k.rs,k.led.trans g.led⟩
abbrev oSet (es:Array (Int×Value))(ep:Nat)(t:SetTable):Obj:={ cls:=.type "set",dict:=none,data:=.set es ep t,slots:=#[] }
section
variable {prog:Program}{w:World}{κ:Type} [DecidableEq κ] (knd:KeyKind prog w κ)
structure InS (S:κ->Bool)(n:Nat)(es:Array (Int×Value))(t:SetTable):Prop where
 el:ElemsOf knd es.toList
 me:∀k,S k=true↔∃e∈es.toList,knd.is k e.2=true
 bd:es.size<scanBound
 ft:t.fits es.size=true
 sz:es.size=n
 gd:Gd w t
def SetG (h:Heap)(b:Addr)(S:κ->Bool)(n:Nat):Prop:=∃es ep t,h.get? b=some (oSet es ep t)/\InS knd S n es t
variable {knd}{A:Around}{E:Value->Shared->Prop}{s:Shared}
theorem Zn2 {h:Heap}{b:Addr}{es us:Array (Int×Value)}{ep:Nat}{t r:SetTable}(ho:h.get? b=some (oSet es ep t)):(h.update b (Obj.putSet us r)).get? b=some (oSet us (ep+1) r):=
 Heap.get?_update_self (Obj.putSet us r) ho rfl
theorem after {g:Bool->Sem Unit}(hg:∀(c:Bool) (z:Shared) (F:Unit->Shared->Prop),F () z->wpAny (model prog w) A (g c) F E z){b:Addr}{es us:Array (Int×Value)}{ep:Nat}{t r:SetTable}
  (ho:s.heap.get? b=some (oSet es ep t)){S:κ->Bool}(q:InS knd S us.size us r){wd:Bool}{Rr:Option Bool->Shared->Prop}
  (fin:∀h',Heap.SameBut b s.heap h'->SetG knd h' b S us.size->Rr (some true) { s with heap:=h' }) :
  wpAny (model prog w) A (do
   storeSet b us r
   if (!wd && r.tooFull)=true then do
     g (relayAll r us (SetTable.grown us.size)).2.2
     storeSet b (relayAll r us (SetTable.grown us.size)).1 (relayAll r us (SetTable.grown us.size)).2.1
     pure (some true)
    else pure (some true)) Rr E s:=by
 refine wpAny_bind (wpAny_storeSet_of ho rfl ?_ (fits_of_scanBound q.bd))
 have o1:=Zn2 (us:=us) (r:=r) ho
 have b1:=Heap.SameBut.update s.heap b (Obj.putSet us r)
 split
 ·have pm:=relayAll_perm r us (SetTable.grown us.size)
  have fr:=relayAll_fits r us (SetTable.grown us.size)
  have tk:=relay_ok (t:=r) us (SetTable.grown us.size)
  generalize relayAll r us (SetTable.grown us.size)=Z at pm fr tk ⊢
  obtain⟨ys,t3,gv⟩:=Z
  dsimp only at pm fr tk ⊢
  have hz:ys.size=us.size:=by rw[<- Array.length_toList,pm.length_eq,Array.length_toList]
  have bd2:ys.size<scanBound:=by rw[hz];exact q.bd
  refine wpAny_bind (hg _ _ _ (wpAny_bind (wpAny_storeSet_of o1 rfl (wpAny_pure (fin _ (b1.trans (Heap.SameBut.update _ b _)) ⟨ys,_,t3,Zn2 o1,q.el.perm pm,λk=>(q.me k).trans ⟨?_,?_⟩,bd2,fr,hz,q.gd.tk tk⟩)) (fits_of_scanBound bd2))))
  ·rintro⟨e,he,z⟩
   exact⟨e,pm.mem_iff.mpr he,z⟩
  rintro⟨e,he,z⟩
  exact⟨e,pm.mem_iff.mp he,z⟩
 exact wpAny_pure (fin _ b1 ⟨us,_,r,o1,q⟩)
theorem add {b:Addr}{S:κ->Bool}{n:Nat}{k:κ}{x:Value}{Q:Bool->Shared->Prop}(key:knd.is k x=true)(sc:x.scannable=true)(g:SetG knd s.heap b S n)(room:n+1<scanBound)
  (fin:∀h',Heap.SameBut b s.heap h'->SetG knd h' b (λy=>S y || decide (y=k)) (if S k then n else n+1)->Q (!S k) { s with heap:=h' }) :
  wpAny (model prog w) A (setAddHashed b x (knd.hash k)) Q E s:=by
 obtain⟨es,ep,t,ho,i⟩:=g
 (unfold setAddHashed setAddHashedIn)
 refine wpAny_holding (wpAny_bind (wpAny_setState_of ho rfl i.ft ?_))
 dsimp only
 rw[byScan_of sc i.bd i.el]
 simp only[↓reduceIte]
 unfold setAddByScan
 refine wpAny_bind (wpAny_bind (wpAny_rule (wpAny_bind (wpAny_setScan_of key ho rfl i.ft i.el ?_))))
 cases hfi:List.findIdx? (λe=>knd.is k e.2) es.toList with
 | some j=>
  dsimp only
  obtain⟨hj,pj,_⟩:=List.findIdx?_eq_some_iff_getElem.mp hfi
  have yes:S k=true:=(i.me k).mpr ⟨_,getElem_mem hj,pj⟩
  have z:=fin s.heap (Heap.SameBut.refl b s.heap) ⟨es,ep,t,ho,i.el,λy=>?_,i.bd,i.ft,by rw[yes];exact i.sz,i.gd⟩
  ·rw[yes]at z
   (exact wpAny_pure (wpAny_pure z))
  rw[<- i.me y,Bool.or_eq_true,decide_eq_true_eq]
  exact⟨λc=>c.elim id λe=>e ▸ yes,.inl⟩
 | none=>
  dsimp only
  have no:S k=false:=by
   refine Bool.eq_false_iff.mpr λc=>?_
   obtain⟨e,he,pe⟩:=(i.me k).mp c
   exact Bool.noConfusion ((List.findIdx?_eq_none_iff.mp hfi e he).symm.trans pe)
  have quiet:∀(c:Bool) (z:Shared) (F:Unit->Shared->Prop),F () z->wpAny (model prog w) A (match c with | true=>rule "set.scan.the-table-gave-way" | false=>pure ()) F E z:=λc z F f=>by
   cases c
   ·exact wpAny_pure f
   exact wpAny_rule f
  have pm:=layNew_perm t es (knd.hash k) x
  have fr:=layNew_fits t es (knd.hash k) x
  have tk:=lay_ok i.gd.rs es (knd.hash k) x
  generalize layNew t es (knd.hash k) x=Z at pm fr tk ⊢
  obtain⟨us,t1,wd,gv⟩:=Z
  dsimp only at pm fr tk ⊢
  rw[Array.toList_push]at pm
  have hz:us.size=n+1:=by rw[<- Array.length_toList,pm.length_eq,length_append,Array.length_toList,i.sz];rfl
  refine wpAny_bind (quiet _ _ _ ?_)
  have iu:∀r:SetTable,r.fits us.size=true->Gd w r->InS knd (λy=>S y || decide (y=k)) us.size us r:=λr h1 h2=>
   ⟨(i.el.push key sc).perm pm,mem_push_iff key i.me pm,by lia,h1,rfl,h2⟩
  have last:∀h',Heap.SameBut b s.heap h'->SetG knd h' b (λy=>S y || decide (y=k)) us.size->Q true { s with heap:=h' }:=λh' c1 c2=>by
   have z:=fin h' c1
   rw[no]at z
   rw[hz]at c2
   exact z c2
  split
  ·refine wpAny_bind ?_
   rw[hashByValue_scannable 8 sc]
   refine wpAny_pure (after (knd:=knd) quiet ho (iu _ ?_ ?_) λh' c1 c2=>wpAny_pure (last h' c1 c2))
   ·split
    ·exact fr
    exact SetTable.fits_plain_off fr
   split
   ·exact i.gd.tk tk
   exact⟨tk.rs,tk.led.trans i.gd.led⟩
  refine wpAny_bind (wpAny_pure (?_:_))
  simp only[↓reduceIte]
  exact after (knd:=knd) quiet ho (iu _ fr (i.gd.tk tk)) λh' c1 c2=>wpAny_pure (last h' c1 c2)
end
end SG
namespace SG
open PySem
open Sem (wp)
theorem sl_next:Slot "set_iterator" "__next__" "set_iterator.__next__" := .of (owner := "set_iterator") (n := "__next__") (by rw[typeLookup_type,builtinLookup_eq_fast];kernel_rfl)
 (by decide +kernel) (by decide +kernel) (by decide +kernel) (by first | exact .inl (by decide +kernel) | exact .inr (by decide +kernel))
 (by rw[isSubtype_type];kernel_rfl)
theorem Zm0:entryFor table "set_iterator.__next__" = some Builtin.«set_iterator.__next__»:=entryFor_of_fast (by kernel_rfl)
theorem Zne (v:Value):argsOk "set_iterator.__next__" ⟨[v],[]⟩:=by unfold argsOk;kernel_rfl
theorem en_iter:entryFor table "set.__iter__" = some Builtin.«frozenset.__iter__»:=entryFor_alias (id' := "frozenset.__iter__") (by kernel_rfl) rfl (by decide +kernel) (by kernel_rfl)
section
variable {prog:Program}{w:World}{A:Around}{E:Value->Shared->Prop}{s:Shared}
theorem wpAny_choose' {M:Model}{src:Source}{n:Nat}{Q:Nat->Shared->Prop}(h0:n≠0)(q:∀i d,i<n->Q i { s with drawn:=d }):wpAny M A (choose src n) Q E s:=λΓ p _=>by
 show wp M Γ (.choose src n .pure) _ _ p s
 rw[Sem.wp_choose]
 exact⟨h0,q _ _ (mod_lt _ (Nat.pos_of_ne_zero h0))⟩
theorem Ze9 {α:Type}:∀{l:List α}{i:Nat}(h:i<l.length),(l[i]::l.eraseIdx i).Perm l
 | [],i,h=>nomatch h
 | a::r,0,_=>List.Perm.refl _
 | a::r,i+1,h=>((List.Perm.swap a _ _).symm.symm).trans ((Ze9 (l:=r) (i:=i) (Nat.lt_of_succ_lt_succ h)).cons a)
theorem Zjd {M:Model}{α:Type}:∀(n:Nat) (xs:List α),xs.length=n->∀(s:Shared) (Q:List α->Shared->Prop),(∀ys d,ys.Perm xs->Q ys { s with drawn:=d })->wpAny M A (drawOrder n xs) Q E s
 | 0,xs,h,s,Q,q=>by
  obtain rfl:=length_eq_zero_iff.mp h
  exact wpAny_pure (q [] s.drawn (List.Perm.refl _))
 | n+1,[],h,_,_,_=>by cases h
 | n+1,x::xs,h,s,Q,q=>by
  show wpAny M A (choose .order (x::xs).length >>= _) _ _ _
  refine wpAny_bind (wpAny_choose' (by simp) λi d hi=>?_)
  have e:(x::xs)[i]? = some (x::xs)[i]:=getElem?_eq_getElem hi
  rw[e]
  dsimp only
  refine wpAny_bind (Zjd n _ (by rw[List.length_eraseIdx_of_lt hi,h];rfl) _ _ λys d2 p=>wpAny_pure (q _ d2 ?_))
  refine(p.cons _).trans ?_
  exact Ze9 hi
abbrev oIt (f:Value)(i:Nat)(b:Addr)(n ep:Nat):Obj:={ cls:=.type "set_iterator",dict:=none,data:=.fields #[f,.int i 0,.ref b,.int n 0,.int ep 0],slots:=#[] }
abbrev oPl (ps:List Nat):Obj:={ cls:=.type "tuple",dict:=none,data:=.seq (ps.map λ(i:Nat)=>rawInt i).toArray 0,slots:=#[] }
def Zfx (t:SetTable):Nat->Nat
 | 0=>0
 | k+1=>t.place.getD k 0+1
theorem Zl9 {α:Type}(f:Nat->Nat):∀(n k:Nat) (xs:List α) (out:Array α),xs.length=n->(pickOrder.go f n k xs out).toList.Perm (out.toList++xs)
 | 0,k,xs,out,h=>by
  obtain rfl:=length_eq_zero_iff.mp h
  rw[append_nil]
  exact List.Perm.refl _
 | n+1,k,xs,out,h=>by
  have hi:f k % xs.length<xs.length:=mod_lt _ (by lia)
  unfold pickOrder.go
  rw[getElem?_eq_getElem hi]
  dsimp only
  refine(Zl9 f n (k+1) _ _ (by rw[List.length_eraseIdx_of_lt hi,h];rfl)).trans ?_
  rw[Array.toList_push,append_assoc]
  exact(Ze9 hi).append_left _
theorem Ziy {α:Type}(f:Nat->Nat)(xs:Array α):(pickOrder f xs).toList.Perm xs.toList:=by
 have:=Zl9 f xs.size 0 xs.toList #[] (by simp)
 rw[List.nil_append]at this
 exact this
inductive Way (w:World)(b:Addr)(es:Array (Int×Value))(ep:Nat)(t:SetTable):(Nat->Value)->List (Addr×Obj)->List Value->Prop
 | text:w.params.followText "set-order" = true->Way w b es ep t (λ_=>.int 0 0) [] ((pickOrder (w.params.setOrder b ep) es).toList.map (·.2))
 | slots:w.params.followText "set-order" = false->(!t.plain && decide (es.size > 1))=false->Way w b es ep t (λi=>.int (Zfx t i) 0) [] (es.toList.map (·.2))
 | drawn (T:Addr) (ps:List Nat):w.params.followText "set-order" = false->ps.Perm (List.range es.size)->Way w b es ep t (λ_=>.ref T) [(T,oPl ps)] (ps.map λi=>((es[i]?).map (·.2)).getD .none)
theorem Way.perm {b:Addr}{es:Array (Int×Value)}{ep:Nat}{t:SetTable}{f:Nat->Value}{nw:List (Addr×Obj)}{ys:List Value}(y:Way w b es ep t f nw ys):ys.Perm (es.toList.map (·.2)):=by
 cases y with
 | text _=>exact(Ziy _ es).map _
 | slots _ _=>exact List.Perm.refl _
 | drawn T ps _ h=>
  refine(h.map _).trans (List.Perm.of_eq ?_)
  refine ext_getElem (by simp) λi h1 h2=>?_
  rw[length_map,length_range]at h1
  simp[h1]
theorem Zfn {b:Addr}{es:Array (Int×Value)}{ep:Nat}{t:SetTable}{Q:Option (Value×Nat)->Shared->Prop}{slot i:Nat}(ho:s.heap.get? b=some (oSet es ep t))(ft:t.fits es.size=true) :
  (w.params.followText "set-order" = true->Q (((pickOrder (w.params.setOrder b ep) es)[i]?).map λe=>(e.2,slot)) s) ->
  (w.params.followText "set-order" = false->(!t.plain && decide (es.size > 1))=false/\t.led=true/\Q (match es[SetTable.below t.place slot]?,t.place[SetTable.below t.place slot]? with | some (_,x),some j=>some (x,j+1) | _,_=>none) s) ->
  wpAny (model prog w) A (setNext b slot i ep) Q E s:=by
 intro h1 h2
 unfold setNext
 refine wpAny_bind (wpAny_setState_of ho rfl ft ?_)
 dsimp only
 unfold setsByText
 (refine wpAny_bind (wpAny_bind (wpAny_askSetting (wpAny_pure ?_))))
 cases hb:w.params.followText "set-order" with
 | true=>
  have e:(model prog w).w.params.followText "set-order" = true:=hb
  simp only[e,↓reduceIte]
  (simp only[bne_self_eq_false,false_eq_true,↓reduceIte])
  refine wpAny_bind ?_
  unfold setWalk setsByText
  refine wpAny_bind (wpAny_setState_of ho rfl ft ?_)
  dsimp only
  (refine wpAny_bind (wpAny_bind (wpAny_askSetting (wpAny_pure ?_))))
  simp only[e,↓reduceIte]
  exact wpAny_bind (wpAny_askSetting (wpAny_pure (wpAny_pure (h1 hb))))
 | false=>
  have e:(model prog w).w.params.followText "set-order" = false:=hb
  obtain⟨a1,a2,a3⟩:=h2 hb
  simp only[e,false_eq_true,↓reduceIte]
  split
  ·rename_i c
   have c2:(!t.plain && decide (es.size > 1))=true:=c
   rw[a1]at c2
   cases c2
  refine wpAny_bind ?_
  show wpAny _ _ (if (!t.led && !es.isEmpty)=true then unsupported "set:maker-not-led" else pure PUnit.unit) _ _ _
  rw[a2]
  exact wpAny_pure (wpAny_pure a3)
theorem Zg7 {t:SetTable}(r:Rs t.place){i:Nat}(h:i<=t.place.size):SetTable.below t.place (Zfx t i)=i:=by
 refine place_is r h (λj a hj e=>?_) (λj a hj e=>?_)
 ·cases i with
  | zero=>lia
  | succ k=>
   have hk:k<t.place.size:=h
   have ek:t.place[k]? = some t.place[k]:=Array.getElem?_eq_getElem hk
   have e3:Zfx t (k+1)=t.place[k]+1:=by
    show t.place.getD k 0+1=_
    simp[Array.getD,hk]
   rw[e3]
   rcases lt_or_ge j k with z | z
   ·exact lt_succ_of_lt (r j k _ _ z e ek)
   obtain rfl:j=k:=by lia
   rw[ek]at e
   cases e
   exact lt_succ_self _
 cases i with
 | zero=>exact zero_le _
 | succ k=>
  have hk:k<t.place.size:=h
  have ek:t.place[k]? = some t.place[k]:=Array.getElem?_eq_getElem hk
  have e3:Zfx t (k+1)=t.place[k]+1:=by
   show t.place.getD k 0+1=_
   simp[Array.getD,hk]
  rw[e3]
  exact r k j _ _ hj ek e
theorem stop_iter {α:Type}{Q:α->Shared->Prop}(hh:A.handled=none)(q:∀h' e,(∀b o,s.heap.get? b=some o->h'.get? b=some o)->(∃o,h'.get? e=some o/\o.cls=.type "StopIteration")->E (.ref e) { s with heap:=h' }) :
  wpAny (model prog w) A (newExc (.type "StopIteration") [] >>= λe=>(raiseNew e:Sem α)) Q E s:=by
 refine wpAny_bind ?_
 simp only[newExc,newTuple]
 (refine wpAny_bind (wpAny_newObj_type ?_ (by size_fits)))
 (refine wpAny_bind (m:=firstArgMember _ _) (wpAny_of_eq (a:=Value.none) (by first | rfl | (simp only[firstArgMember];rfl)) ?_))
 (refine wpAny_newObj_type ?_ (by size_fits))
 simp only[raiseNew]
 (refine wpAny_bind (wpAny_handled ?_))
 rw[hh]
 (refine wpAny_bind (wpAny_pure (wpAny_throw ?_)))
 exact q _ _ (λb o e=>Heap.get?_push_of_some _ (Heap.get?_push_of_some _ e)) ⟨_,Heap.get?_push_size _ rfl,rfl⟩
theorem step_v {b I:Addr}{es:Array (Int×Value)}{ep i:Nat}{t:SetTable}{f:Nat->Value}{nw:List (Addr×Obj)}{ys:List Value}{v:Value}{Q:Option Value->Shared->Prop}(y:Way w b es ep t f nw ys)(g:Gd w t)(ft:t.fits es.size=true)
  (hI:s.heap.get? I=some (oIt (f i) i b es.size ep))(hb:s.heap.get? b=some (oSet es ep t))(hn:∀p∈nw,s.heap.get? p.1=some p.2)(hv:ys[i]? = some v)
  (q:∀h',h'.get? I=some (oIt (f (i+1)) (i+1) b es.size ep)->Heap.SameBut I s.heap h'->Q (some v) { s with heap:=h' }):wpAny (model prog w) A (pyNext (.ref I)) Q E s:=by
 have ty:s.TypeIs (.ref I) "set_iterator" := ⟨_,hI,rfl⟩
 unfold pyNext
 refine wpAny_bind (wpAny_attempt (wpAny_callSpecial?_slot (name:=Str.ofString "__next__") ty sl_next (wpAny_call_entry sl_next ty Zm0 ?_ (Zne _))))
 unfold Builtin.«set_iterator.__next__»
 refine wpAny_bind (m:=slotArgs "__next__" 0 _) (wpAny_pure ?_)
 refine wpAny_bind (wpAny_fieldsOf hI rfl ?_)
 dsimp only
 refine wpAny_bind (wpAny_setEntries_of hb rfl ft ?_)
 rw[if_neg (by simp)]
 have hps:t.place.size=es.size:=by
  unfold SetTable.fits at ft
  simp only[and_eq_true,beq_iff_eq]at ft
  exact ft.1
 cases y with
 | text ht=>
  simp only[toNat_natCast]
  rw[getElem?_map,Array.getElem?_toList]at hv
  obtain⟨e,he,rfl⟩:=map_eq_some_iff.mp hv
  refine wpAny_bind (Zfn hb ft (λ_=>?_) (λhf=>by rw[ht]at hf;cases hf))
  rw[he]
  refine wpAny_bind (wpAny_setField_rec hI (by simp) λh1 o1 b1=>wpAny_bind (wpAny_setField_rec o1 (by simp) λh2 o2 b2=>wpAny_pure ⟨e.2,rfl,wpAny_pure (q h2 o2 (b1.trans b2))⟩))
 | slots hf hd=>
  simp only[toNat_natCast]
  rw[getElem?_map,Array.getElem?_toList]at hv
  obtain⟨e,he,rfl⟩:=map_eq_some_iff.mp hv
  have hi:=(Array.getElem?_eq_some_iff.mp he).1
  have ep2:t.place[i]? = some t.place[i]:=Array.getElem?_eq_getElem (by lia)
  refine wpAny_bind (Zfn hb ft (λht=>by rw[ht]at hf;cases hf) (λ_=>⟨hd,by rw[g.led,hf];rfl,?_⟩))
  rw[Zg7 g.rs (by lia),he,ep2]
  refine wpAny_bind (wpAny_setField_rec hI (by simp) λh1 o1 b1=>wpAny_bind (wpAny_setField_rec o1 (by simp) λh2 o2 b2=>wpAny_pure ⟨e.2,rfl,wpAny_pure (q h2 ?_ (b1.trans b2))⟩))
  have e3:Zfx t (i+1)=t.place[i]+1:=by
   show t.place.getD i 0+1=_
   simp[Array.getD,show i<t.place.size by lia]
  show h2.get? I=some (oIt (.int ((Zfx t (i+1):Nat):Int) 0) (i+1) b es.size ep)
  rw[e3]
  exact o2
 | drawn T ps hf hp=>
  simp only[toNat_natCast]
  rw[getElem?_map]at hv
  obtain⟨p,hpi,rfl⟩:=map_eq_some_iff.mp hv
  have hpl:p<es.size:=mem_range.mp (hp.mem_iff.mp (mem_of_getElem? hpi))
  refine wpAny_bind (wpAny_seqItems (hn (T,oPl ps) (mem_singleton.mpr rfl)) rfl ?_)
  dsimp only
  have e1:(ps.map λ(i:Nat)=>rawInt i).toArray[i]? = some (Value.int p 0):=by
   rw[getElem?_toArray,getElem?_map,hpi]
   rfl
  rw[e1]
  dsimp only
  have e2:es[p]? = some es[p]:=Array.getElem?_eq_getElem hpl
  refine wpAny_bind (m:=setNextDrawn b _ _) ?_
  unfold setNextDrawn
  refine wpAny_bind (wpAny_setState_of hb rfl ft ?_)
  dsimp only
  simp only[toNat_natCast,bne_self_eq_false,false_eq_true,↓reduceIte,e2]
  refine wpAny_pure (wpAny_bind (wpAny_setField_rec hI (by simp) λh1 o1 b1=>wpAny_pure ⟨_,rfl,wpAny_pure ?_⟩))
  have z:=q h1 o1 b1
  rw[e2]at z
  exact z
theorem step_0 {b I:Addr}{es:Array (Int×Value)}{ep:Nat}{t:SetTable}{f:Nat->Value}{nw:List (Addr×Obj)}{ys:List Value}{Q:Option Value->Shared->Prop}(hh:A.handled=none)(y:Way w b es ep t f nw ys)(g:Gd w t)(ft:t.fits es.size=true)
  (hI:s.heap.get? I=some (oIt (f es.size) es.size b es.size ep))(hb:s.heap.get? b=some (oSet es ep t))(hn:∀p∈nw,s.heap.get? p.1=some p.2)
  (q:∀h',(∀c o,c≠I->s.heap.get? c=some o->h'.get? c=some o)->Q none { s with heap:=h' }):wpAny (model prog w) A (pyNext (.ref I)) Q E s:=by
 have ty:s.TypeIs (.ref I) "set_iterator" := ⟨_,hI,rfl⟩
 unfold pyNext
 refine wpAny_bind (wpAny_attempt (wpAny_callSpecial?_slot (name:=Str.ofString "__next__") ty sl_next (wpAny_call_entry sl_next ty Zm0 ?_ (Zne _))))
 unfold Builtin.«set_iterator.__next__»
 refine wpAny_bind (m:=slotArgs "__next__" 0 _) (wpAny_pure ?_)
 refine wpAny_bind (wpAny_fieldsOf hI rfl ?_)
 dsimp only
 refine wpAny_bind (wpAny_setEntries_of hb rfl ft ?_)
 rw[if_neg (by simp)]
 have hps:t.place.size=es.size:=by
  unfold SetTable.fits at ft
  simp only[and_eq_true,beq_iff_eq]at ft
  exact ft.1
 have fin:∀(h1:Heap) (F:Fin->Shared->Prop),Heap.SameBut I s.heap h1->wpAny (model prog w) A.in1 (newExc (.type "StopIteration") [] >>= λe=>(raiseNew e:Sem Fin)) F (λe s'=>wpAny (model prog w) A (do
    let c <- isInstance e (Value.type "StopIteration")
    if c=true then pure none else throw e) Q E s') { s with heap:=h1 }:=by
  intro h1 F b1
  refine stop_iter hh λh2 e k2 z=>?_
  obtain⟨o,ho,hc⟩:=z
  exact wpAny_bind (wpAny_isInstance (T := "StopIteration") (b:=true) ⟨o,ho,hc⟩ isSubtype_stop (wpAny_pure (q _ λc o c1 e=>k2 _ _ (b1.extBut _ _ c1 e))))
 cases y with
 | text ht=>
  simp only[toNat_natCast]
  have he:(pickOrder (w.params.setOrder b ep) es)[es.size]? = none:=by
   refine Array.getElem?_eq_none ?_
   have:=(Ziy (w.params.setOrder b ep) es).length_eq
   simp only[Array.length_toList]at this
   lia
  refine wpAny_bind (Zfn hb ft (λ_=>?_) (λhf=>by rw[ht]at hf;cases hf))
  rw[he]
  exact wpAny_bind (wpAny_setField_rec hI (by simp) λh1 o1 b1=>fin h1 _ b1)
 | slots hf hd=>
  simp only[toNat_natCast]
  refine wpAny_bind (Zfn hb ft (λht=>by rw[ht]at hf;cases hf) (λ_=>⟨hd,by rw[g.led,hf];rfl,?_⟩))
  rw[Zg7 g.rs (by lia),Array.getElem?_eq_none (Nat.le_refl _)]
  exact wpAny_bind (wpAny_setField_rec hI (by simp) λh1 o1 b1=>fin h1 _ b1)
 | drawn T ps hf hp=>
  simp only[toNat_natCast]
  refine wpAny_bind (wpAny_seqItems (hn (T,oPl ps) (mem_singleton.mpr rfl)) rfl ?_)
  dsimp only
  have e1:(ps.map λ(i:Nat)=>rawInt i).toArray[es.size]? = none:=by
   refine Array.getElem?_eq_none ?_
   have:=hp.length_eq
   simp at this ⊢
   lia
  rw[e1]
  dsimp only
  exact wpAny_bind (wpAny_setField_rec hI (by simp) λh1 o1 b1=>wpAny_bind (wpAny_setField_rec o1 (by simp) λh2 o2 b2=>fin h2 _ (b1.trans b2)))
end
theorem Zlz:Slot "set_iterator" "__iter__" "set_iterator.__iter__" := .of (owner := "set_iterator") (n := "__iter__") (by rw[typeLookup_type,builtinLookup_eq_fast];kernel_rfl)
 (by decide +kernel) (by decide +kernel) (by decide +kernel) (by first | exact .inl (by decide +kernel) | exact .inr (by decide +kernel))
 (by rw[isSubtype_type];kernel_rfl)
theorem en_self:entryFor table "set_iterator.__iter__" = some Builtin.«dict_keyiterator.__iter__»:=entryFor_alias (id' := "dict_keyiterator.__iter__") (by kernel_rfl) rfl (by decide +kernel) (by kernel_rfl)
theorem ar_self (v:Value):argsOk "set_iterator.__iter__" ⟨[v],[]⟩:=by unfold argsOk;kernel_rfl
theorem ln_set:typeLookup (.type "set") "__len__" = pure (some (.builtin "set.__len__")):=by rw[typeLookup_type,builtinLookup_eq_fast];kernel_rfl
section
variable {prog:Program}{w:World}{A:Around}{E:Value->Shared->Prop}{s:Shared}
theorem walks {b I:Addr}{es:Array (Int×Value)}{ep:Nat}{t:SetTable}{f:Nat->Value}{nw:List (Addr×Obj)}{ys:List Value}(hh:A.handled=none)(y:Way w b es ep t f nw ys)(g:Gd w t)(ft:t.fits es.size=true)(hl:ys.length=es.size)(n1:b≠I)(n2:∀p∈nw,p.1≠I) :
  WalksS prog w A I (I::b::nw.map (·.1)) [I] (λx z=>x=z) es.size (λi v=>ys[i]? = some v)
   (λi s=>s.heap.get? I=some (oIt (f i) i b es.size ep)/\s.heap.get? b=some (oSet es ep t)/\∀p∈nw,s.heap.get? p.1=some p.2) where
 sub:=λc hc=>by rw[mem_singleton.mp hc];exact mem_cons_self
 grefl:=λ_=>rfl
 gtrans:=λ_ _ _ a b=>a.trans b
 frame:=λi s h' tk st _ k=>⟨k I mem_cons_self _ st.1,k b (mem_cons_of_mem _ mem_cons_self) _ st.2.1,λp hp=>k p.1 (mem_cons_of_mem _ (mem_cons_of_mem _ (List.mem_map_of_mem hp))) _ (st.2.2 p hp)⟩
 item:=λi s Q E hi st q=>by
  refine step_v (v:=ys[i]'(by lia)) y g ft st.1 st.2.1 st.2.2 (getElem?_eq_getElem _) λh' o1 b1=>?_
  refine q _ _ (getElem?_eq_getElem _) ⟨o1,b1.extBut _ _ n1 st.2.1,λp hp=>b1.extBut _ _ (n2 p hp) (st.2.2 p hp)⟩ ⟨λc o hc e=>b1.extBut _ _ (λz=>hc (by rw[z];exact mem_singleton.mpr rfl)) e,rfl,rfl,rfl,Nat.le_refl _⟩
 done:=λs Q E st q=>step_0 hh y g ft st.1 st.2.1 st.2.2 λh' k=>q _ ⟨λc o hc e=>k c o (λz=>hc (by rw[z];exact mem_singleton.mpr rfl)) e,rfl,rfl,rfl,Nat.le_refl _⟩
 self:=λi s Q E st q=>by
  have ty:s.TypeIs (.ref I) "set_iterator" := ⟨_,st.1,rfl⟩
  refine wpAny_pyIter_slot ty Zlz (wpAny_call_entry Zlz ty en_self ?_ (ar_self _))
  show wpAny _ _ (ret (.ref I)) _ _ s
  exact wpAny_pure ⟨_,rfl, "set_iterator",_,ty,sl_next.lookup,q⟩
theorem iter_set {b:Addr}{es:Array (Int×Value)}{ep:Nat}{t:SetTable}{Q:Value->Shared->Prop}(g:Gd w t)(ft:t.fits es.size=true)(hz:es.size<=1000)(hb:s.heap.get? b=some (oSet es ep t))
  (q:∀(h':Heap) (d:Drawn) (I:Addr) (f:Nat->Value) (nw:List (Addr×Obj)) (ys:List Value),Way w b es ep t f nw ys->s.heap.objs.size<=I->(∀p∈nw,s.heap.objs.size<=p.1/\p.1≠I/\h'.get? p.1=some p.2)->h'.get? I=some (oIt (f 0) 0 b es.size ep) ->
   (∀c o,s.heap.get? c=some o->h'.get? c=some o)->Q (.ref I) { s with heap:=h',drawn:=d }):wpAny (model prog w) A (pyIter (.ref b)) Q E s:=by
 have ty:s.TypeIs (.ref b) "set" := ⟨_,hb,rfl⟩
 refine wpAny_pyIter_slot ty F.slot_set_iter (wpAny_call_entry F.slot_set_iter ty en_iter ?_ (F.args_set_iter_1 _))
 unfold Builtin.«frozenset.__iter__»
 refine wpAny_bind (m:=Builtin.Frozenset.slot0 "__iter__" _) (wpAny_pure ?_)
 refine wpAny_bind (m:=Builtin.Frozenset.sizeOf b) (wpAny_bind (wpAny_setEntries_of hb rfl ft (wpAny_pure ?_)))
 dsimp only
 have made:∀(f:Nat->Value) (nw:List (Addr×Obj)) (ys:List Value) (h1:Heap) (d:Drawn),Way w b es ep t f nw ys->(∀p∈nw,s.heap.objs.size<=p.1/\h1.get? p.1=some p.2)->(∀c o,s.heap.get? c=some o->h1.get? c=some o)->s.heap.objs.size<=h1.objs.size ->
   wpAny (model prog w) A.in1 (do
    let z <- setEpoch b
    let u <- newFields "set_iterator" [f 0,rawInt 0,.ref b,rawInt es.size,rawInt z]
    ret u) (λfin s'=>∃v,fin=Fin.done (Flow.ret v)/\∃T' r,s'.TypeIs v T'/\typeLookup (.type T') "__next__" = pure (some r)/\Q v s') E { s with heap:=h1,drawn:=d }:=by
  intro f nw ys h1 d y n1 k le
  refine wpAny_bind (wpAny_setEpoch_of (k _ _ hb) rfl ft ?_)
  refine wpAny_bind (wpAny_newObj_type (wpAny_pure ⟨_,rfl, "set_iterator",_,⟨_,Heap.get?_push_size _ rfl,rfl⟩,sl_next.lookup,?_⟩))
  exact q _ d _ f nw ys y le (λp hp=>⟨(n1 p hp).1,ne_of_lt (Heap.lt_size (n1 p hp).2),Heap.get?_push_of_some _ (n1 p hp).2⟩) (Heap.get?_push_size _ rfl) λc o e=>Heap.get?_push_of_some _ (k c o e)
 refine wpAny_bind (m:=setDrawn b) ?_
 unfold setDrawn setsByText
 refine wpAny_bind (wpAny_setState_of hb rfl ft ?_)
 dsimp only
 refine wpAny_bind (wpAny_bind (wpAny_askSetting (wpAny_pure (wpAny_pure ?_))))
 split
 ·rename_i c
  have c2:(!w.params.followText "set-order" && (!t.plain && decide (es.size > 1)))=true:=c
  have hf:w.params.followText "set-order" = false:=by
   cases hq:w.params.followText "set-order" with
   | false=>rfl
   | true=>rw[hq]at c2;cases c2
  refine wpAny_bind (Zjd es.size (List.range es.size) length_range _ _ λps d pm=>?_)
  have lp:(ps.map λ(i:Nat)=>rawInt i).length<=sizeLine:=by
   have h1:=pm.length_eq
   have h2:sizeLine=16777216:=sizeLine_eq
   rw[length_range]at h1
   rw[length_map]
   lia
  refine wpAny_bind (wpAny_newTuple ?_ lp)
  refine made (λ_=>.ref s.heap.objs.size) [(s.heap.objs.size,oPl ps)] _ _ d (.drawn _ ps hf pm) (λp hp=>?_) (λc o e=>Heap.get?_push_of_some _ e) (by rw[Heap.size_push];exact le_succ _)
  rw[mem_singleton.mp hp]
  exact⟨Nat.le_refl _,Heap.get?_push_size _ rfl⟩
 rename_i c
 refine wpAny_bind (wpAny_pure ?_)
 cases hq:w.params.followText "set-order" with
 | true=>exact made (λ_=>.int 0 0) [] _ s.heap s.drawn (.text hq) (λp hp=>nomatch hp) (λ_ _ e=>e) (Nat.le_refl _)
 | false=>
  have c2:¬(!w.params.followText "set-order" && (!t.plain && decide (es.size > 1)))=true:=c
  rw[hq]at c2
  exact made (λi=>.int (Zfx t i) 0) [] _ s.heap s.drawn (.slots hq (Bool.eq_false_iff.mpr c2)) (λp hp=>nomatch hp) (λ_ _ e=>e) (Nat.le_refl _)
theorem hint_set {b:Addr}(ty:s.TypeIs (.ref b) "set"){Q:Bool->Shared->Prop}(h:Q false s):wpAny (model prog w) A (Builtin.List.listLengthHint (.ref b)) Q E s:=by
 (unfold Builtin.List.listLengthHint)
 refine wpAny_bind (wpAny_specialOf ty ln_set ?_)
 generalize hid:("set.__len__" : String)=id0
 wp_delta
 rw[show splitId id0=some ("set", "__len__") from by subst hid;decide +kernel]
 subst hid
 refine wpAny_bind (wpAny_isInstance (T := "set") (b:=true) ty (by rw[isSubtype_type];kernel_rfl) ?_)
 rw[if_neg (by decide)]
 split
 ·exact wpAny_bind (wpAny_typeOf ty (wpAny_pure h))
 rename_i c
 exact absurd (by decide +kernel) c
theorem Zgw {b:Addr}{es:Array (Int×Value)}{ep:Nat}{t:SetTable}{R:List Value->Shared->Prop}(hh:A.handled=none)(g:Gd w t)(ft:t.fits es.size=true)(hz:es.size<=1000)(hb:s.heap.get? b=some (oSet es ep t))
  (q:∀(h':Heap) (d:Drawn) (tk:Nat) (ys:List Value),ys.Perm (es.toList.map (·.2))->s.heap.objs.size<=h'.objs.size->(∀c o,s.heap.get? c=some o->h'.get? c=some o)->R ys { s with heap:=h',drawn:=d,toks:=tk }):wpAny (model prog w) A (collect (.ref b)) R E s:=by
 have hlb:b<s.heap.objs.size:=Heap.lt_size hb
 unfold collect
 (refine wpAny_bind (wpAny_runValue (codeAny_builtin F.entry_proto_collect ?_)))
 (rw[Around.under_plainId F.plain_proto_collect _])
 show wpAny _ A.in1 (newList [] >>= λl=>again (.builtin "list.__iadd__" ⟨[l,.ref b],[]⟩)) _ _ _
 refine wpAny_bind (wpAny_newObj_type (wpAny_pure ⟨plainId_quiet F.plain_list_iadd _,codeAny_builtin F.entry_list_iadd ?_⟩))
 (rw[Around.under_plainId F.plain_list_iadd _])
 show wpAny _ A.in1 (Builtin.List.listExtendWith (.ref s.heap.objs.size) (.ref b) (.ref s.heap.objs.size)) _ _ _
 have hb1:(s.heap.push { cls:=.type "list",data:=.seq ([]:List Value).toArray }).get? b=some (oSet es ep t):=Heap.get?_push_of_some _ hb
 have ty:Shared.TypeIs { s with heap:=s.heap.push { cls:=.type "list",data:=.seq ([]:List Value).toArray } } (.ref b) "set" := ⟨_,hb1,rfl⟩
 (unfold Builtin.List.listExtendWith)
 refine wpAny_bind (wpAny_typeOf ty ?_)
 have e1:Builtin.List.listSameRef (.ref s.heap.objs.size) (.ref b)=false:=by
  simp[Builtin.List.listSameRef,ne_of_gt hlb]
 have e2:(Value.type "set" == Value.type "list")=false:=by decide
 have e3:(Value.type "set" == Value.type "tuple")=false:=by decide
 simp only[e1,e2,e3,Bool.or_false,false_eq_true,if_false]
 have sz:(s.heap.push { cls:=.type "list",data:=.seq ([]:List Value).toArray }).objs.size=s.heap.objs.size+1:=Heap.size_push ..
 refine wpAny_bind (iter_set g ft hz hb1 λh' d I f nw ys y hI hn oI k=>?_)
 rw[sz]at hI hn
 have ty2:Shared.TypeIs { s with heap:=h',drawn:=d } (.ref b) "set" := ⟨_,k _ _ hb1,rfl⟩
 refine wpAny_bind (wpAny_holding (hint_set ty2 ?_))
 have hS:h'.get? s.heap.objs.size=some { cls:=.type "list",data:=.seq ([]:List Value).toArray }:=k _ _ (Heap.get?_push_size _ rfl)
 have hl:ys.length=es.size:=by have:=y.perm.length_eq;simpa using this
 have W:=walks (prog:=prog) (A:=A.in1) (I:=I) hh y g ft hl (λz=>lt_irrefl _ (lt_of_lt_of_le (z ▸ hlb:I<s.heap.objs.size) (Nat.le_of_succ_le hI))) (λp hp=>(hn p hp).2.1)
 have hSf:s.heap.objs.size∉I::b::nw.map (·.1):=by
  intro z
  rcases(mem_cons.mp z)with z | z
  ·exact lt_irrefl _ (lt_of_lt_of_le (lt_succ_self _) (z ▸ hI))
  rcases(mem_cons.mp z)with z | z
  ·exact lt_irrefl _ (z ▸ hlb)
  obtain⟨p,hp,z⟩:=mem_map.mp z
  have:=(hn p hp).1
  lia
 have run:∀(h2:Heap) (c:Nat) (Rr:Result->Shared->Prop),(∀b o,b≠s.heap.objs.size->h'.get? b=some o->h2.get? b=some o)->h2.get? s.heap.objs.size=some { cls:=.type "list",data:=.seq ([]:List Value).toArray c } ->
   (∀(h3:Heap) (tk c':Nat) (acc:Array Value),h3.get? s.heap.objs.size=some { cls:=.type "list",dict:=none,data:=.seq acc c',slots:=#[] }->acc.toList=ys->(∀c o,s.heap.get? c=some o->h3.get? c=some o)->Rr (.ok (.ret (.ref s.heap.objs.size))) { s with heap:=h3,drawn:=d,toks:=tk }) ->
   codeAny (model prog w) A (.builtin "list.extend.loop" ⟨[.ref s.heap.objs.size,.ref I,.ref s.heap.objs.size],[]⟩) Rr { s with heap:=h2,drawn:=d }:=by
  intro h2 c Rr k2 hS2 fin
  have neI:I≠s.heap.objs.size:=ne_of_gt hI
  refine codeAny_extend_loopS W (by rw[sizeLine_eq];lia) _ hSf _ es.size 0 _ _ _ rfl (zero_le _) ⟨k2 _ _ neI oI,k2 _ _ (ne_of_lt hlb) (k _ _ hb1),λp hp=>k2 _ _ (ne_of_gt (hn p hp).1) (hn p hp).2.2⟩ hS2 (ItemsOf.nil _) λs3 acc c' hm hS3 it=>?_
  obtain⟨h3,g3,d3,tk3,os3⟩:=s3
  obtain⟨m1,m2,m3,m4,m5⟩:=hm
  have eg:s.gens=g3:=m2
  have ed:d3=d:=m3
  have es':os3=s.os:=m4
  subst eg ed es'
  refine fin h3 tk3 c' acc hS3 ?_ λc o e=>m1 c o ?_ (k2 c o (ne_of_lt (Heap.lt_size e)) (k c o (Heap.get?_push_of_some _ e)))
  ·refine ext_getElem (by rw[Array.length_toList,it.1,hl]) λi h1 h2=>?_
   have e:ys[i]? = some acc.toList[i]:=it.2 i acc.toList[i] (by rw[<- Array.getElem?_toList];exact getElem?_eq_getElem h1)
   rw[getElem?_eq_getElem h2]at e
   exact(Option.some.inj e).symm
  have lc:c<s.heap.objs.size:=Heap.lt_size e
  intro z
  rcases(mem_cons.mp z)with z | z
  ·exact lt_irrefl _ (z ▸ lc)
  exact lt_irrefl _ (lt_trans lc (Nat.lt_of_succ_le ((mem_singleton.mp z) ▸ hI)))
 have last:∀(h3:Heap) (tk c':Nat) (acc:Array Value),h3.get? s.heap.objs.size=some { cls:=.type "list",dict:=none,data:=.seq acc c',slots:=#[] }->acc.toList=ys->(∀c o,s.heap.get? c=some o->h3.get? c=some o) ->
   R acc.toList { s with heap:=h3,drawn:=d,toks:=tk }:=λh3 tk c' acc o3 e k3=>by
  rw[e]
  exact q h3 d tk ys y.perm (le_of_lt (Heap.lt_size o3)) k3
 split
 ·refine wpAny_bind (wpAny_rule (wpAny_bind ?_))
  (show wpAny _ A.in1 (updateSeq s.heap.objs.size (·.push .none) >>= λ_=>updateSeq s.heap.objs.size (·.pop)) _ _ _)
  (refine wpAny_bind (wpAny_updateSeq hS rfl ?_))
  have hS2:=Heap.get?_update_self (Obj.mapSeq (·.push Value.none)) hS rfl
  refine wpAny_updateSeq hS2 rfl ?_
  have hS3:=Heap.get?_update_self (Obj.mapSeq (·.pop)) hS2 rfl
  refine wpAny_pure ⟨plainId_quiet F.plain_extend_loop _,run _ _ _ (λb o hb e=>(Heap.get?_update_other _ _ (Ne.symm hb)).trans ((Heap.get?_update_other _ _ (Ne.symm hb)).trans e)) hS3 λh3 tk c' acc o3 e k3=>?_⟩
  (show wpAny _ A (load s.heap.objs.size >>= _) _ _ _)
  exact wpAny_bind (wpAny_load o3 (wpAny_pure (last h3 tk c' acc o3 e k3)))
 refine wpAny_pure ⟨plainId_quiet F.plain_extend_loop _,run _ _ _ (λ_ _ _ e=>e) hS λh3 tk c' acc o3 e k3=>?_⟩
 (show wpAny _ A (load s.heap.objs.size >>= _) _ _ _)
 exact wpAny_bind (wpAny_load o3 (wpAny_pure (last h3 tk c' acc o3 e k3)))
end
end SG
namespace SG
open PySem PyProof.Rows
section
variable {prog:Program}{w:World}{A:Around}{E:Value->Shared->Prop}{s:Shared}
def iv:Value->Int
 | .int i _=>i
 | _=>0
theorem Zms:∀{vs:List Value},(∀v∈vs,∃t,v=.int (iv v) t)->IntsAre vs (vs.map iv)
 | [],_=>.nil
 | v::r,h=>by
  obtain⟨t,e⟩:=h v mem_cons_self
  rw[e]
  exact .cons _ t (Zms λx hx=>h x (mem_cons_of_mem _ hx))
theorem sorted_set {b:Addr}{es:Array (Int×Value)}{ep:Nat}{t:SetTable}{Q:Value->Shared->Prop}(hh:A.handled=none)(g:Gd w t)(ft:t.fits es.size=true)(hz:es.size<64)(hb:s.heap.get? b=some (oSet es ep t))(hi:∀e∈es.toList,∃t,e.2=.int (iv e.2) t)
  (q:∀(h':Heap) (d:Drawn) (tk e D:Nat) (out:Array Value) (ns:List Int),IntsAre out.toList ns->ns.Perm (es.toList.map λe=>iv e.2)->ns.Pairwise (·<=·)->h'.get? D=some (seqObj "list" out e)->s.heap.objs.size<=D->(∀c o,s.heap.get? c=some o->h'.get? c=some o) ->
   Q (.ref D) { s with heap:=h',drawn:=d,toks:=tk }):wpAny (model prog w) A (call (.builtin "sorted") [.ref b]) Q E s:=by
 (refine Calls.call_function_entry kind_sorted plain_sorted entry_sorted (args_sorted1 _) ?_)
 unfold Builtin.«sorted»
 (refine wpAny_bind (m:=checkCount "sorted" 1 1 _) (wpAny_pure ?_))
 refine wpAny_bind (Zgw (A:=A.in1) hh g ft (by lia) hb λh1 d tk ys pm lb k1=>?_)
 have hl:ys.length=es.size:=by have:=pm.length_eq;simpa using this
 (refine wpAny_bind (wpAny_newList ?_ (by rw[sizeLine_eq];lia)))
 have ai:∀v∈ys,∃t,v=.int (iv v) t:=λv hv=>by
  obtain⟨e,he,rfl⟩:=mem_map.mp (pm.mem_iff.mp hv)
  exact hi e he
 have pi:(ys.map iv).Perm (es.toList.map λe=>iv e.2):=by
  have:=pm.map iv
  rw[map_map]at this
  exact this
 have oL:(h1.push { cls:=.type "list",data:=.seq ys.toArray }).get? h1.objs.size=some (seqObj "list" ys.toArray 0):=Heap.get?_push_size _ rfl
 refine wpAny_bind (wpAny_holding (wpAny_call_entry slot_list_sort ⟨_,oL,rfl⟩ entry_list_sort (list_sort_tree oL (Zms ai) (by lia) λout ns a1 a2 a3=>⟨_,rfl,?_⟩) (args_list_sort _)))
 obtain⟨e,he⟩:=sortedHeap_at (out:=out) oL
 refine wpAny_pure ⟨_,rfl,q _ d tk e _ out ns a1 (a2.trans pi) a3 he lb λc o z=>?_⟩
 have lc:=Heap.lt_size (k1 c o z)
 rw[sortedHeap_old (ne_of_lt lc) (by rw[size_push'];exact lt_succ_of_lt lc)]
 exact Heap.get?_push_of_some _ (k1 c o z)
end
section
variable {prog:Program}{w:World}{κ:Type} [DecidableEq κ] {knd:KeyKind prog w κ}{A:Around}{R:Result->Shared->Prop}{I:Addr}{fp wr:List Addr}{G:Array GenState->Array GenState->Prop}{n:Nat}{P:Nat->Value->Prop}{St:Nat->Shared->Prop}
theorem kept {S:Addr}{h h':Heap}{f:κ->Bool}{m:Nat}(q:SetG knd h S f m)(e:∀o,h.get? S=some o->h'.get? S=some o):SetG knd h' S f m:=by
 obtain⟨es,ep,t,ho,r⟩:=q
 exact⟨es,ep,t,e _ ho,r⟩
theorem Zlk {S:Addr}{h:Heap}{f g:κ->Bool}{m k:Nat}(q:SetG knd h S f m)(e:∀x,f x=g x)(em:m=k):SetG knd h S g k:=by
 have:f=g:=funext e
 subst this em
 exact q
theorem fill (W:WalksS prog w A.in1 I fp wr G n P St)(S:Addr)(nS:S∉fp)(val:Nat->κ)(hv:∀i v,P i v->knd.is (val i) v=true/\v.scannable=true)(hb:n+1<scanBound) :
  ∀(k i:Nat) (s:Shared),n-i=k->i<=n->St i s->SetG knd s.heap S (λx=>decide (x∈SK.dd val i)) (SK.dd val i).length ->
   (∀s',Moved (S::wr) G s s'->SetG knd s'.heap S (λx=>decide (x∈SK.dd val n)) (SK.dd val n).length->R (.ok (.ret .none)) s') ->
   (codeAny (model prog w) A (.builtin "set.update.loop" ⟨[.ref S,.ref I],[]⟩) R s):=by
 have nw:S∉wr:=λh=>nS (W.sub _ h)
 have sub:∀b∈wr,b∈S::wr:=λb z=>mem_cons_of_mem _ z
 intro k
 induction k with
 | zero=>
  intro i s hk hi st hS fin
  obtain rfl:i=n:=by lia
  refine codeAny_builtin PyProof.Rows.F.entry_set_update_loop ?_
  rw[Around.under_plainId PyProof.Rows.F.plain_set_update_loop _]
  refine wpAny_bind (m:=pyNext (.ref I)) (W.done s _ _ st λs1 hm=>?_)
  exact wpAny_pure (fin s1 (hm.mono sub) (kept hS λo e=>hm.heap S o nw e))
 | succ k ih=>
  intro i s hk hi st hS fin
  have lt:i<n:=by lia
  refine codeAny_builtin PyProof.Rows.F.entry_set_update_loop ?_
  rw[Around.under_plainId PyProof.Rows.F.plain_set_update_loop _]
  refine wpAny_bind (m:=pyNext (.ref I)) (W.item i s _ _ lt st λv s1 hP st1 hm=>?_)
  obtain⟨key,sc⟩:=hv i v hP
  refine wpAny_bind (m:=holding [v] (setAdd S v)) (wpAny_holding ?_)
  unfold setAdd
  refine wpAny_holding (wpAny_bind (knd.pyHash (k:=val i) key ?_))
  have room:(SK.dd val i).length+1<scanBound:=by have:=SK.dd_le (val:=val) i;lia
  refine add (knd:=knd) (s:={ s1 with toks:=s1.toks+1 }) key sc (kept hS λo e=>hm.heap S o nw e) room λh2 sb hS2=>?_
  have hS3:SetG knd h2 S (λx=>decide (x∈SK.dd val (i+1))) (SK.dd val (i+1)).length:=Zlk hS2 (λx=>(SK.dd_step i x).symm) (SK.dd_size i).symm
  have oth:∀b o,b≠S->s1.heap.get? b=some o->h2.get? b=some o:=λb o z e=>(sb.2 b z).trans e
  refine wpAny_pure ⟨plainId_quiet PyProof.Rows.F.plain_set_update_loop _,ih (i+1) _ (by lia) lt (W.frame _ s1 h2 (s1.toks+1) st1 (le_succ _) λb hb o e=>oth b o (λz=>nS (z ▸ hb)) e) hS3 λs2 hm2 q=>?_⟩
  refine fin s2 (Moved.trans W.gtrans ((hm.mono sub).then_heap (le_succ _) λb o hb e=>oth b o (λz=>hb (z ▸ mem_cons_self)) e) hm2) q
end
section
variable {prog:Program}{w:World}{κ:Type} [DecidableEq κ] {knd:KeyKind prog w κ}{A:Around}{E:Value->Shared->Prop}{s:Shared}
abbrev ledW (w:World):Bool:=!w.params.followText "set-order"
abbrev fset (led:Bool):Obj:={ cls:=.type "set",dict:=none,data:=.set #[] 0 (.fresh 0 0 led) }
theorem code_new (v:Value){Q1:Value->Shared->Prop}(q:Q1 (.ref s.heap.objs.size) { s with heap:=s.heap.push (fset (ledW w)) }) :
  codeAny (model prog w) A (.call (.builtin "set.__new__") ⟨[.type "set",v],[]⟩) (wants Q1 E) s:=by
 refine codeAny_of_tree ?_
 show wpAny _ A.in1 (do checkBuiltinCall "set.__new__" ⟨[.type "set",v],[]⟩;again (.builtin "set.__new__" ⟨[.type "set",v],[]⟩)) _ _ s
 refine wpAny_bind (wpAny_of_eq (PySem.F.newCall_set_1 v) (wpAny_pure ⟨plainId_quiet PySem.F.plain_set_new _,codeAny_builtin PySem.F.entry_set_new ?_⟩))
 rw[Around.under_plainId PySem.F.plain_set_new _]
 (unfold Builtin.«set.__new__» Builtin.Frozenset.newClass)
 have hsub:=sub_set_self
 obtain⟨hp,gs,d,tk,os⟩:=s
 dsimp only
 wp_walk
 (refine wpAny_askSetting (wpAny_pure ?_))
 dsimp only
 simp only[newObj]
 exact wpAny_bind (wpAny_alloc (wpAny_pure (wpAny_pure q)))
theorem make {l:Addr}{items:Array Value}{val:Nat->κ}{Q:Value->Shared->Prop}(hh:A.handled=none)(hl:s.heap.IsList l items)(hv:∀i v,items[i]? = some v->knd.is (val i) v=true/\v.scannable=true)(hb:items.size+1<scanBound)
  (q:∀(h':Heap) (tk:Nat),SetG knd h' s.heap.objs.size (λx=>decide (x∈SK.dd val items.size)) (SK.dd val items.size).length->(∀b o,s.heap.get? b=some o->h'.get? b=some o)->Q (.ref s.heap.objs.size) { s with heap:=h',toks:=tk }) :
  (wpAny (model prog w) A (call (.type "set") [.ref l]) Q E s):=by
 obtain⟨c,tl,hmro⟩:=PySem.F.called_set.mro
 have hmade:=PySem.F.called_set.made
 have hsub:=PySem.F.called_set.sub
 refine wpAny_call (codeAny_of_tree (show wpAny _ _ (callAny (.type "set") _) _ _ _ from ?_))
 refine wpAny_pure ⟨Code.quiet_builtin _ (by decide +kernel),codeAny_builtin PySem.F.entry_type_call ?_⟩
 (rw[Around.under_plain (weight_type_call_type "set" [.ref l] []) rfl])
 have h1:=PySem.F.called_set.notType
 have h2:=PySem.F.called_set.canCreate
 have hct:=PySem.F.typeCall_set_1 (.ref l)
 (repeat (any_goals (first | assumption | wp_step)))
 refine codeAny_mono (code_new (.ref l) (E:=E) (Q1:=λob s1=>∃led:Bool,led=ledW w/\ob=.ref s.heap.objs.size/\s1={ s with heap:=s.heap.push (fset led) }) ⟨_,rfl,rfl,rfl⟩) λr s1 hr=>?_
 cases r with
 | error e=>exact hr
 | ok fl=>
  cases fl with
  | ret ob=>
   obtain⟨led,hled,rfl,rfl⟩:=hr
   have hS:(s.heap.push (fset led)).get? s.heap.objs.size=some (fset led):=Heap.get?_push_size _ rfl
   have hT:Shared.TypeIs { s with heap:=s.heap.push (fset led) } (.ref s.heap.objs.size) "set" := ⟨_,hS,rfl⟩
   have hli:=PySem.F.called_set.init.lookup
   have hbi:=PySem.F.called_set.init.bind (.ref s.heap.objs.size)
   (repeat (any_goals (first | assumption | wp_step)))
   refine codeAny_mono (codeAny_call_builtin (R:=wants (λr s2=>r=.none/\∃h' tk,s2={ s with heap:=h',toks:=tk }/\SetG knd h' s.heap.objs.size (λx=>decide (x∈SK.dd val items.size)) (SK.dd val items.size).length /\
     (∀b o,s.heap.get? b=some o->h'.get? b=some o)) E) PySem.F.called_set.init.plain PySem.F.entry_set_init (check_set_init_1 hT ?_)) λr2 s2 hr2=>?_
   ·obtain⟨⟨ocls,odict,odata,oslots⟩,hol,hcl,nl,hdl⟩:=hl
    simp only at hcl hdl
    subst hcl hdl
    have hol':(s.heap.push (fset led)).get? l=some { cls:=.type "list",dict:=odict,data:=.seq items nl,slots:=oslots }:=Heap.get?_push_of_some _ hol
    have x1:=PySem.F.sub_list_set
    have x2:=PySem.F.sub_list_frozenset
    have x3:(Value.type "list" == Value.type "dict")=false:=by decide
    have hl1:(s.heap.push (fset led)).IsList l items:=⟨_,hol',rfl,nl,rfl⟩
    (unfold Builtin.«set.__init__» noKeywords Builtin.Frozenset.updateFrom)
    generalize hPI:pyIter=PI
    wp_walk
    subst hPI
    (refine wpAny_pyIter_list hl1 ?_)
    (refine wpAny_bind (wpAny_runValue ?_))
    have lt:l<s.heap.objs.size:=Heap.lt_size hol
    have sz:(s.heap.push (fset led)).objs.size=s.heap.objs.size+1:=Heap.size_push ..
    (have hh3:A.in1.in1.in1.handled=none:=by simp[hh])
    have ne1:l≠(s.heap.push (fset led)).objs.size:=by rw[sz];exact ne_of_lt (lt_succ_of_lt lt)
    have nS:s.heap.objs.size∉[(s.heap.push (fset led)).objs.size,l]:=by
     rw[sz]
     simp only[mem_cons,not_mem_nil,or_false,not_or]
     exact⟨ne_of_lt (lt_succ_self _),ne_of_gt lt⟩
    refine fill (knd:=knd) ((Walks.list hh3 _ l ne1 items).toS) s.heap.objs.size nS val hv hb (items.size-0) 0 _ (by lia) (zero_le _) ⟨⟨_,Heap.get?_push_size _ rfl,rfl,rfl⟩,hl1.push _⟩ ?_ λs3 hm q3=>?_
    ·have g:=Heap.get?_push_of_some ({ cls:=.type "list_iterator",data:=.fields #[.ref l,.int 0 0] }:Obj) hS
     exact⟨_,_,_,g,λe he=>by simp at he,λx=>by simp[SK.dd],by decide,by rfl,rfl,rs_nil,hled⟩
    obtain⟨h3,g3,d3,tk3,os3⟩:=s3
    obtain⟨m1,m2,m3,m4,m5⟩:=hm
    have eg:g3=s.gens:=m2
    have ed:d3=s.drawn:=m3
    have es:os3=s.os:=m4
    subst eg ed es
    refine wpAny_pure (wpAny_pure ⟨rfl,h3,tk3,rfl,q3,λb o e=>m1 b o ?_ (Heap.get?_push_of_some _ (Heap.get?_push_of_some _ e))⟩)
    have lb:b<s.heap.objs.size:=Heap.lt_size e
    rw[sz]
    simp only[mem_cons,not_mem_nil,or_false,not_or]
    exact⟨ne_of_lt lb,ne_of_lt (lt_succ_of_lt lb)⟩
   cases r2 with
   | error e=>exact hr2
   | ok fl2=>
    cases fl2 with
    | ret r=>
     obtain⟨rfl,h',tk,rfl,a1,a2⟩:=hr2
     (repeat (any_goals (first | assumption | wp_step)))
     exact q _ _ a1 a2
    | _=>exact hr2.elim
  | _=>exact hr.elim
end
end SG
namespace L2
open PySem PyProof.Rows
section
variable {X:Cx}
theorem Inv.dr {pins:List (Addr×Obj)}{σ:St}{H:Hp}{s:Shared}(d:Drawn)(I:Inv X pins σ H s):Inv X pins σ H { s with drawn:=d }:=⟨I.ok,I.os,I.bare,I.base,I.loc,I.cell,I.free,I.freeC,I.pin,I.hok,I.len⟩
def memB {κ:Type}[DecidableEq κ](ks:List κ)(x:κ):Bool:=decide (x∈ks)
theorem memB_iff {κ:Type}[DecidableEq κ]{ks:List κ}{x:κ}:memB ks x=true↔x∈ks:=decide_eq_true_iff
def setG (P:Program)(w:World)(a:Addr)(ks:List Key):HO:=.ext λh=>SG.SetG (Za0 P w) h a (memB ks) ks.length
theorem Zgx (hc:X.calm=true):Zcq X (.type "set") (λxs H Q=>∃p ks,xs=[.ref p]/\SqL X.K H p (ks.map kV)/\ks.length<=1000/\∀a,H a=none->Q (.ref a) (upd H a (setG X.prog X.w a (SK.dd (kAt ks) ks.length)))):=by
 intro pins s σ H xs us Q I r h
 obtain⟨p,ks,rfl,hp,hk,q⟩:=h
 obtain⟨u,rfl,ru⟩:=Zc5 r
 cases ru
 obtain⟨its,rv,pl,hz⟩:=I.list hp
 have hlen:=rv.length
 rw[length_map]at hlen
 refine SG.make (knd:=Za0 X.prog X.w) (val:=kAt ks) (I.ok.hd hc) pl.isList (λi v hv=>?_) (by rw[size_toArray];unfold scanBound;lia) λh' tk hS kp=>?_
 ·have hi:its[i]? = some v:=by simpa using hv
  have hib:i<ks.length:=by
   have:=(List.getElem?_eq_some_iff.mp hi).1
   lia
  obtain⟨u',hu',ru⟩:=rv.get (i:=i) (x:=kV ks[i]) (by simp[hib])
  rw[hi]at hu'
  cases hu'
  have e:kAt ks i=ks[i]:=by simp[kAt,List.getD,hib]
  rw[e]
  refine⟨Zib ru,?_⟩
  cases hkk:ks[i]with
  | inl j=>rw[hkk]at ru;obtain⟨t,rfl⟩:=ru;rfl
  | inr y=>rw[hkk]at ru;obtain⟨t,rfl⟩:=ru;rfl
 have es:its.toArray.size=ks.length:=by simp[hlen]
 rw[es]at hS
 refine⟨.ref _,_,I.laid (a:=s.heap.objs.size) (o:=setG X.prog X.w s.heap.objs.size (SK.dd (kAt ks) ks.length)) kp (Nat.le_refl _) ⟨hS,?_,λh1 h2 f1 e=>SG.kept f1 e⟩,rfl,q _ (I.hok.fresh (Nat.le_refl _))⟩
 obtain⟨es,_,_,e,_⟩:=hS
 exact⟨_,e⟩
theorem Zg3:∀{ns:List Int}{us:List Value},IntsAre us ns->Vals (ns.map V.int) us
 | _,_,.nil=>.nil
 | _,_,.cons _ t r=>.cons ⟨t,rfl⟩ (Zg3 r)
theorem Zfh (hc:X.calm=true):Zcq X (.builtin "sorted") (λxs H Q=>∃(a:Addr) (ns:List Int),xs=[.ref a]/\H a=some (setG X.prog X.w a (ns.map Sum.inl))/\ns.Nodup/\ns.length<64/\∀(l:Addr) (zs:List Int),H l=none->zs.Perm ns->zs.Pairwise (·<=·)->Q (.ref l) (upd H l (.lst (zs.map V.int)))):=by
 intro pins s σ H xs us Q I r h
 obtain⟨a,ns,rfl,ha,nd,hz,q⟩:=h
 obtain⟨u,rfl,ru⟩:=Zc5 r
 cases ru
 obtain⟨⟨es,ep,t,ho,i⟩,_,_⟩:=I.hok a _ ha
 have sz:=i.sz
 rw[length_map]at sz
 have key:∀e∈es.toList,∃n t,n∈ns/\e.2=.int n t:=λe he=>by
  obtain⟨⟨k,hk,_⟩,_⟩:=i.el e he
  have hm:=memB_iff.mp ((i.me k).mpr ⟨e,he,hk⟩)
  obtain⟨n,hn,rfl⟩:=mem_map.mp hm
  rcases Za1 (show Ze4 (.inl n) e.2=true from hk)with⟨j,t,e1,e2⟩ | ⟨y,t,e1,e2⟩
  ·cases e1
   exact⟨n,t,hn,e2⟩
  cases e1
 have pm:(es.toList.map λe=>SG.iv e.2).Perm ns:=by
  refine SG.perm_of nd (λx hx=>?_) (by rw[length_map,Array.length_toList];lia)
  obtain⟨e,he,hk⟩:=(i.me (.inl x)).mp (memB_iff.mpr (List.mem_map_of_mem hx))
  rcases Za1 (show Ze4 (.inl x) e.2=true from hk)with⟨j,t,e1,e2⟩ | ⟨y,t,e1,e2⟩
  ·cases e1
   exact mem_map.mpr ⟨e,he,by rw[e2];rfl⟩
  cases e1
 refine SG.sorted_set (I.ok.hd hc) i.gd i.ft (by lia) ho (λe he=>?_) λh' d tk c D out zs a1 a2 a3 a4 a5 a6=>?_
 ·obtain⟨n,t,_,e2⟩:=key e he
  exact⟨t,by rw[e2];rfl⟩
 have pz:=a2.trans pm
 have hl:=pz.length_eq
 have hs:sizeLine=16777216:=sizeLine_eq
 refine⟨.ref _,_,(I.laid (a:=D) (o:=.lst (zs.map V.int)) (t':=tk) a6 a5 ⟨by rw[length_map];lia,out.toList,c,Zg3 a1,by simpa using a4⟩).dr d,rfl,q _ _ (I.hok.fresh a5) pz a3⟩
theorem Zi4:MtR X "int.bit_length" (λx xs H Q=>∃i,x=.int i/\xs=[]/\Q (.int (Builtin.Int.intBits i)) H):=by
 intro pins s σ H x xs v us Q I rx rv h
 obtain⟨i,rfl,rfl,q⟩:=h
 obtain⟨t,rfl⟩:=rx
 cases rv
 exact call_int_bit_length ⟨.int _,H,I.tok _,⟨_,rfl⟩,q⟩
theorem Zl6:∀(ns:List Int) (n:Nat),n<=ns.length->preSum (λi=>ns.getD i 0) n=(ns.take n).sum
 | ns,0,_=>by simp[preSum]
 | ns,n+1,h=>by
  have hn:n<ns.length:=h
  show preSum (λi=>ns.getD i 0) n+ns.getD n 0=_
  rw[Zl6 ns n (by lia),take_succ_eq_append_getElem hn,List.sum_append]
  simp[List.getD,hn]
theorem Zji (hc:X.calm=true):Zcq X (.builtin "sum") (λxs H Q=>∃(p:Addr) (ns:List Int),xs=[.ref p]/\SqL X.K H p (ns.map V.int)/\Q (.int ns.sum) H):=by
 intro pins s σ H xs us Q I r h
 obtain⟨p,ns,rfl,hp,q⟩:=h
 obtain⟨u,rfl,ru⟩:=Zc5 r
 cases ru
 obtain⟨its,rv,pl,hz⟩:=I.list hp
 have hlen:=rv.length
 rw[length_map]at hlen
 have hlt:p<s.heap.objs.size:=by
  obtain⟨o,n,e,_⟩:=pl
  exact Heap.lt_size e
 refine call_sum_walkAnyS (wpAny_pyIter_list pl.isList ⟨s.heap.objs.size,_,_,_,_,_,_,λi=>ns.getD i 0,rfl,(Walks.list (show X.A.in1.handled=none from I.ok.hd hc) _ p (ne_of_lt hlt) its.toArray).toS,⟨⟨_,Heap.get?_push_size _ rfl,rfl,rfl⟩,pl.isList.push _⟩,λb hb=>?_,λi v hP=>?_,λs' t' hm=>?_⟩)
 ·show b<(s.heap.push _).objs.size
  rw[Heap.size_push]
  rcases(mem_cons.mp hb)with e | e
  ·rw[e]
   exact lt_succ_self _
  rw[mem_singleton.mp e];exact lt_succ_of_lt hlt
 ·have hi:its[i]? = some v:=by simpa using hP
  have hib:i<ns.length:=by
   have:=(List.getElem?_eq_some_iff.mp hi).1
   lia
  obtain⟨u',hu',ru⟩:=rv.get (i:=i) (x:=.int ns[i]) (by simp[hib])
  rw[hi]at hu'
  cases hu'
  obtain⟨t,rfl⟩:=ru
  exact⟨t,by simp[List.getD,hib]⟩
 have e1:preSum (λi=>ns.getD i 0) its.toArray.size=ns.sum:=by
  rw[size_toArray,<- hlen,Zl6 ns _ (Nat.le_refl _),take_length]
 rw[e1]
 rw[Moved.eq_with hm]
 refine⟨.int _,H,I.kept (t':=s'.toks) (λb o e=>hm.heap b o ?_ (Heap.get?_push_of_some _ e)),⟨_,rfl⟩,q⟩
 intro z
 rw[mem_singleton]at z
 exact absurd (Heap.lt_size e) (by rw[z];exact lt_irrefl _)
theorem op_neLD (hu:X.A.units+64<cLine):OpR X (compareOp .NotEq) (λx y H Q=>∃(a b:Addr) (us vs:List V) (ds es:List PyData),x=.ref a/\y=.ref b/\H a=some (.lst us)/\H b=some (.lst vs)/\RdVs H us ds/\RdVs H vs es /\
  PySem.SeqAt.shaped (.list ds)=true/\PySem.SeqAt.shaped (.list es)=true/\Q (.bl (!PyData.eqv (.list ds) (.list es))) H):=by
 intro pins s σ H x y v u Q I rx ry h
 obtain⟨a,b,us,vs,ds,es,rfl,rfl,ha,hb,rd,re,h1,h2,q⟩:=h
 cases rx
 cases ry
 obtain⟨as,ra⟩:=Zkt I.hok ha rd
 obtain⟨bs,rb⟩:=Zkt I.hok hb re
 exact PySem.SeqAt.compareNe_shaped ra rb h1 h2 hu ⟨.bl _,H,I,rfl,q⟩
theorem Zoj:bootBuiltins "sum" = some (.builtin "sum"):=by decide +kernel
end
section
variable {X:Cx}
def Zch (v a:Addr):HO:=.ext λh=>h.IsItemsView v a
theorem mt_items:MtR X "dict.items" (λx xs H Q=>∃a kvs,x=.ref a/\xs=[]/\H a=some (.dK kvs)/\∀v,H v=none->Q (.ref v) (upd H v (Zch v a))):=by
 intro pins s σ H x xs v us Q I rx rv h
 obtain⟨a,kvs,rfl,rfl,ha,q⟩:=h
 cases rx
 cases rv
 obtain⟨hz,hm,vs,hkv,hd⟩:=Znt I.hok ha
 refine call_meetsIn PySem.F.slot_dict_items hd.typeIs PySem.F.entry_dict_items (PySem.F.args_dict_items_1 _) (meets_dict_items (Za0 X.prog X.w) a hm) ⟨⟨vs,hd⟩,?_⟩
 refine⟨.ref s.heap.objs.size,_,I.laid (t':=s.toks) (o:=Zch s.heap.objs.size a) (λb o e=>Heap.get?_push_of_some _ e) (Nat.le_refl _) ⟨⟨_,Heap.get?_push_size _ rfl,rfl,rfl⟩,⟨_,Heap.get?_push_size _ rfl⟩,λh1 h2 f e=>?_⟩,rfl,q _ (I.hok.fresh (Nat.le_refl _))⟩
 obtain⟨o,ho,r⟩:=f
 exact⟨o,e o ho,r⟩
def Iti (a:Addr)(o:Obj)(kvs:List (Key×V)):It:=
 ⟨λi H=>i<kvs.length/\H a=some (.frz o (.dK kvs)),λi H x H'=>∃p k v,x=.ref p/\H p=none/\H'=upd H p (.tup [kV k,v])/\kvs[i]? = some (k,v),λi H=>kvs.length<=i/\H a=some (.frz o (.dK kvs))⟩
theorem Zg4 {P:Program}{w:World}{K:W.Frag}{elts:List Expr}{x1}{tp:Pos}(it a:Addr)(o:Obj)(kvs:List (Key×V))(es:Array DictEntry)(ep:Nat)(hd:o.data=.dict es ep) :
  Turn P w K (.Tuple elts x1 tp) (Iti a o kvs) [it] it (λi h=>∃ok ov,IsItemIter h it a i kvs.length ep ok ov) where
 mem:=by simp
 obj:=λi h st b hb=>by
  have e:b=it:=by simpa using hb
  subst e
  obtain⟨_,_,st⟩:=st
  exact⟨_,st,λv z=>nomatch z⟩
 keep:=λi h h' st k=>by
  obtain⟨ok,ov,st⟩:=st
  exact⟨ok,ov,k it (by simp) _ st⟩
 item:=by
  intro X hP hw hK hc i pins s σ H E I hf st hg
  subst hP hw hK
  obtain⟨hi,ha⟩:=hg
  obtain⟨ok,ov,st⟩:=st
  obtain⟨vs,hkv,hat⟩:=Zm2 I ha hd
  have hl:=hkv.length
  have hx:kvs[i]? = some (kvs[i].1,kvs[i].2):=getElem?_eq_getElem hi
  obtain⟨u,hu,ru⟩:=KV.get2 hkv hx
  rw[hl]at st
  have tz:s.heap.objs.size≠it:=ne_of_gt (Heap.lt_size st)
  refine wpAny_pyNext_items_item (knd:=Za0 X.prog X.w) st hat hu λkey h' hk hout ht hsz kk=>?_
  refine⟨_,rfl,wpAny_letOwnedTupleGo_items (s:={ s with heap:=h' }) hout λh'' g6 sb=>?_⟩
  have rk:RelV (kV kvs[i].1) key:=by
   rcases Za1 (show Ze4 kvs[i].1 key=true from hk)with⟨j,t,e1,e2⟩ | ⟨y,t,e1,e2⟩
   ·rw[e1,e2];exact⟨t,rfl⟩
   rw[e1,e2];exact⟨t,rfl⟩
  have kall:∀c o,c∉[it]->s.heap.get? c=some o->h''.get? c=some o:=λc o hc e=>by
   have hc':c≠it:=λz=>hc (by rw[z];exact mem_singleton.mpr rfl)
   exact sb.extBut _ _ hc' (kk c o hc' e)
  have new:ObjOk X.prog X.w (upd H s.heap.objs.size (.tup [kV kvs[i].1,kvs[i].2])) h'' s.heap.objs.size (.tup [kV kvs[i].1,kvs[i].2]):=
   ⟨by show 2<=sizeLine;decide,[key,u],.cons rk (.cons ru .nil),_,sb.extBut _ _ tz ht,rfl,0,rfl⟩
  have fr:H s.heap.objs.size=none:=I.hok.fresh (Nat.le_refl _)
  rw[<- hl]at g6
  refine⟨.ref s.heap.objs.size,_,I.stepN (t':=s.toks) hf kall new,rfl,⟨_,_,_,rfl,fr,rfl,hx⟩,⟨_,_,g6⟩,λc hc=>?_⟩
  have e:c=it:=by simpa using hc
  rw[Zaj (by rw[e];exact tz.symm)]
  exact(hf c hc).1
 done:=by
  intro X hP hw hK hc i pins s σ H E I hf st hg
  subst hP hw hK
  obtain⟨hi,ha⟩:=hg
  obtain⟨ok,ov,st⟩:=st
  obtain⟨vs,hkv,hat⟩:=Zm2 I ha hd
  have hl:=hkv.length
  rw[hl]at st
  exact wpAny_pyNext_items_end (knd:=Za0 X.prog X.w) (I.ok.hd hc) st hat (getElem?_eq_none (by lia)) λh' eb=>⟨rfl,I.stepL (t':=s.toks) hf λc o hc e=>eb c o (λz=>hc (by rw[z];exact mem_singleton.mpr rfl)) e⟩
 self:=λ_ _ _ _ _ st h=>by
  obtain⟨ok,ov,st⟩:=st
  refine wpAny_pyIter_slot ⟨_,st,rfl⟩ PySem.F.slot_dict_itemiterator_iter (wpAny_call_entry PySem.F.slot_dict_itemiterator_iter ⟨_,st,rfl⟩ PySem.W.kcp_entry ?_ (PySem.F.args_dict_itemiterator_iter_1 _))
  show wpAny _ _ (ret (.ref it)) _ _ _
  exact wpAny_pure ⟨_,rfl, "dict_itemiterator",_,⟨_,st,rfl⟩,PySem.F.slot_dict_itemiterator_next.lookup,h⟩
end
end L2
namespace EN
open PySem PyProof.Rows
theorem draws {prog:Program}{w:World}{A:Around}(hh:A.handled=none)(it l:Addr)(hne:l≠it)(items:Array Value) :
  Draws prog w A it [it,l] items.size (λi v=>items[i]? = some v) (λi h=>h.IsTupleIter it l i/\h.IsTuple l items) where
 live:=λ_ _ st=>by
  obtain⟨⟨o,ho,_⟩,_⟩:=st
  exact⟨o,ho⟩
 frame:=λ_ _ _ st hk=>by
  obtain⟨⟨o,ho,r⟩,o2,ho2,r2⟩:=st
  exact⟨⟨o,hk it (by simp) o ho,r⟩,o2,hk l (by simp) o2 ho2,r2⟩
 item:=λi s Q E hi st hq=>by
  refine ZT.next_item st.1 st.2 (v:=items[i]) (by simp[hi]) λh' hit' hs'=>?_
  exact hq _ h' s.toks (by simp[hi]) ⟨hit',st.2.extBut hs'.extBut hne⟩ hs'
 done:=λs Q E st hE=>ZT.next_end hh st.1 st.2 (by simp) hE
abbrev oE (it:Addr):Obj:={ cls:=.type "enumerate",data:=.fields #[.none,.bool false,.ref it,rawInt 0,.none,.none] }
theorem make (l:Addr)(items:Array Value) :
  Meets (Builtin.«enumerate.__new__» ⟨[.type "enumerate",.ref l],[]⟩) (λ_ R s=>s.heap.IsTuple l items /\
   R (.ok (.ret (.ref (s.heap.push (ZT.zI l)).objs.size))) { s with heap:=(s.heap.push (ZT.zI l)).push (oE s.heap.objs.size) }):=
 .of_wp λprog w A R s h=>by
  (obtain⟨hp,g,d,tk,os⟩:=s)
  obtain⟨hl,h⟩:=h
  have hsub:=sub_enumerate
  have hT:Heap.IsTuple (Shared.heap ⟨hp,g,d,tk,os⟩) l items:=hl
  obtain⟨⟨c,dct,dt,sl⟩,ho,hc,n,hd⟩:=id hl
  replace hc:c=.type "tuple" := hc
  replace hd:dt=.seq items n:=(hd)
  subst hc hd
  wp_walk using AutoSeq1.wpAny_loadPart' ho
  (refine wpAny_stack_any λst=>wpAny_pure ?_)
  split
  ·rename_i c _ _ _ _ _
   cases ((c == Value.type "enumerate"))
   ·wp_walk using AutoSeq1.wpAny_loadPart' ho,wpAny_pyIter_tuple hT
    exact⟨_,rfl,h⟩
   wp_walk using AutoSeq1.wpAny_loadPart' ho,wpAny_pyIter_tuple hT
   exact⟨_,rfl,h⟩
  wp_walk using AutoSeq1.wpAny_loadPart' ho,wpAny_pyIter_tuple hT
  exact⟨_,rfl,h⟩
end EN
namespace L2
open PySem PyProof.Rows
section
variable {X:Cx}
def Ite (K:W.Frag)(a:Addr):It:=
 ⟨λi H=>∃xs x,SqT K H a xs/\xs[i]? = some x,
  λi H v H'=>∃p x,v=.ref p/\H p=none/\H'=upd H p (.tup [.int (i:Nat),x])/\∀xs,SqT K H a xs->xs[i]? = some x,
  λi H=>∃xs,SqT K H a xs/\xs.length=i⟩
theorem turn_enum {P:Program}{w:World}{K:W.Frag}{elts:List Expr}{x1}{tp:Pos}(e it a:Addr)(hne:e≠it):Turn P w K (.Tuple elts x1 tp) (Ite K a) [e,it] e (λi h=>(∃old,IsEnum h e it (i:Nat) old)/\h.IsTupleIter it a i) where
 mem:=by simp
 obj:=λn h st c hc=>by
  obtain⟨⟨old,h1⟩,o4,e4,_,d4⟩:=st
  simp only[mem_cons,not_mem_nil,or_false]at hc
  rcases hc with rfl | rfl
  ·exact⟨_,h1,λv e=>nomatch e⟩
  exact⟨_,e4,λv e=>by rw[d4]at e;cases e⟩
 keep:=λn h h' st k=>by
  obtain⟨⟨old,h1⟩,o4,e4,r4⟩:=st
  exact⟨⟨old,k e (by simp) _ h1⟩,o4,k it (by simp) _ e4,r4⟩
 item:=by
  intro X hP hw hK hc n pins s σ H E I hf st hg
  subst hP hw hK
  obtain⟨xs,x,qa,hx⟩:=hg
  obtain⟨⟨old,h1⟩,h4⟩:=st
  obtain⟨its,rv,pa,_⟩:=I.tuple qa
  obtain⟨u,hu,ru⟩:=rv.get hx
  have off:∀c∈[e,it],a≠c:=λc hc z=>I.fpT qa (z ▸ hf c hc)
  have ne1:=off e (by simp)
  have ne2:=off it (by simp)
  have hl:n<its.toArray.size:=by
   have:=(List.getElem?_eq_some_iff.mp hu).1
   simpa using this
  have tz:s.heap.objs.size≠e:=ne_of_gt (Heap.lt_size h1)
  refine wpAny_pyNext_enum_itemD (EN.draws (A:=X.A.in1) (show X.A.in1.handled=none from I.ok.hd hc) it a ne2 its.toArray) h1 ⟨h4,(show s.heap.IsTuple a its.toArray from pa)⟩ hl hne (by simp only[mem_cons,not_mem_nil,or_false,not_or];exact⟨hne,ne1.symm⟩) λy h' tk hP hout hst' ht hsz kk=>?_
  have hy:y=u:=by
   have h2:its[n]? = some y:=by simpa using hP
   rw[hu]at h2
   exact(Option.some.inj h2).symm
  subst hy
  refine⟨_,rfl,wpAny_letOwnedTupleGo_enum (s:={ s with heap:=h',toks:=tk+1 }) hout λh'' g6 sb=>?_⟩
  have kall:∀c o,c∉[e,it]->s.heap.get? c=some o->h''.get? c=some o:=λc o hc z=>by
   simp only[mem_cons,not_mem_nil,or_false,not_or]at hc
   exact sb.extBut _ _ hc.1 (kk c o hc.1 hc.2 z)
  have new:ObjOk X.prog X.w (upd H s.heap.objs.size (.tup [.int (n:Nat),x])) h'' s.heap.objs.size (.tup [.int (n:Nat),x]):=
   ⟨by show 2<=sizeLine;decide,[.int n tk,y],.cons ⟨tk,rfl⟩ (.cons ru .nil),_,sb.extBut _ _ tz ht,rfl,0,rfl⟩
  have fr:H s.heap.objs.size=none:=I.hok.fresh (Nat.le_refl _)
  obtain⟨oi,ei,ri⟩:=hst'.1
  have lt2:it<s.heap.objs.size:=by
   obtain⟨o4,e4,_⟩:=h4
   exact Heap.lt_size e4
  refine⟨.ref s.heap.objs.size,_,I.stepN (t':=tk+1) hf kall new,rfl,⟨_,x,rfl,fr,rfl,λzs hz=>by rw[I.tuple_inj hz qa];exact hx⟩,⟨⟨_,by simpa using g6⟩,oi,sb.extBut _ _ hne.symm ei,ri⟩,λc hc=>?_⟩
  have hcn:c≠s.heap.objs.size:=by
   simp only[mem_cons,not_mem_nil,or_false]at hc
   rcases hc with rfl | rfl
   ·exact tz.symm
   exact ne_of_lt lt2
  rw[Zaj hcn]
  exact(hf c hc).1
 done:=by
  intro X hP hw hK hc n pins s σ H E I hf st hg
  subst hP hw hK
  obtain⟨xs,qa,hx⟩:=hg
  obtain⟨⟨old,h1⟩,h4⟩:=st
  obtain⟨its,rv,pa,_⟩:=I.tuple qa
  have hl:=rv.length
  have hsz:its.toArray.size=n:=by simp;lia
  have off:∀c∈[e,it],a≠c:=λc hc z=>I.fpT qa (z ▸ hf c hc)
  refine wpAny_pyNext_enum_endD (EN.draws (A:=X.A.in1) (show X.A.in1.handled=none from I.ok.hd hc) it a (off it (by simp)) its.toArray) h1 ⟨by rw[hsz];exact h4,(show s.heap.IsTuple a its.toArray from pa)⟩ λh' eb=>⟨rfl,I.stepL (t':=s.toks) hf λc o hc z=>eb c o (λq=>hc (by rw[q];simp)) z⟩
 self:=λ_ _ _ _ _ st h=>by
  obtain⟨⟨old,h1⟩,_⟩:=st
  exact wpAny_pyIter_enum h1 h
def iEnum (K:W.Frag)(ta:TA):TI:=λσ H R=>ta σ H λvs H1=>∃a,vs=[.ref a]/\(∃xs,SqT K H1 a xs)/\R (Ite K a) H1
theorem Zjx {a:Expr}{ta:TA}{p pos tp:Pos}{elts:List Expr}{x1}(hg:Gl X "enumerate")(hm:X.mg "enumerate" = none)(hv:bootBuiltins "enumerate" = some (.type "enumerate"))(ha:PA X [a] ta)
  (hs:starEach [a] X.env=[(false,eval a X.env)]:=by rfl):PI X (.Tuple elts x1 tp) (.Call (.Name "enumerate" p) [a] [] pos) (iEnum X.K ta):=by
 intro pins s σ H R I h
 refine Call_ (Zdt I hg hm hv (PyProof.Rows.callWith_type1 (thn (ha pos pins s σ H _ I h) λus s1 hp0=>?_) (by rw[hs];rfl) (by rfl)))
 obtain⟨vs,H1,I1,r1,q1⟩:=hp0
 obtain⟨x,rfl,⟨xs,qa⟩,q⟩:=q1
 obtain⟨u,rfl,ru⟩:=Zc5 r1
 cases ru
 obtain⟨its,r2,pa,_⟩:=I1.tuple qa
 refine callType_new F.called_enumerate (by decide) (F.typeCall_enumerate_1 _) (F.newCall_enumerate_1 _) (λobj=>F.args_object_init_2 obj _) F.entry_enumerate_new (EN.make x its.toArray) ⟨show s1.heap.IsTuple x its.toArray from pa,?_⟩
 have e1:(s1.heap.push (ZT.zI x)).objs.size=s1.heap.objs.size+1:=Heap.size_push ..
 have g2:((s1.heap.push (ZT.zI x)).push (EN.oE s1.heap.objs.size)).get? (s1.heap.push (ZT.zI x)).objs.size=some _:=Heap.get?_push_size _ rfl
 have g1:((s1.heap.push (ZT.zI x)).push (EN.oE s1.heap.objs.size)).get? s1.heap.objs.size=some _:=Heap.get?_push_of_some _ (Heap.get?_push_size _ rfl)
 have kept:∀c o,s1.heap.get? c=some o->((s1.heap.push (ZT.zI x)).push (EN.oE s1.heap.objs.size)).get? c=some o:=λc o e=>Heap.get?_push_of_some _ (Heap.get?_push_of_some _ e)
 show _/\_
 refine⟨⟨_,g2,rfl⟩,wpAny_pyIter_enum (i:=0) (old:=.none) g2 ⟨_,[_,_],_,_,H1,rfl,I1.kept (t':=s1.toks) kept,turn_enum _ s1.heap.objs.size x (by rw[e1];exact ne_of_gt (lt_succ_self _)),⟨⟨_,g2⟩,_,g1,rfl,rfl⟩,λc hc=>?_,q⟩⟩
 have hc':s1.heap.objs.size<=c:=by
  simp only[mem_cons,not_mem_nil,or_false]at hc
  rcases hc with e | e <;> (rw[e];show @LE.le Nat _ _ _;lia)
 exact I1.fpOk hc' (I1.hok.fresh hc')
end
mutual
/-- what a value reads as,lists too -/
inductive RdW (H:Hp):V->PyData->Prop
 | flat {x:V}{d:PyData}:RdV H x d->RdW H x d
 | lst {a:Addr}{xs:List V}{ds:List PyData}:H a=some (.lst xs)->RdWs H xs ds->RdW H (.ref a) (.list ds)
inductive RdWs (H:Hp):List V->List PyData->Prop
 | nil:RdWs H [] []
 | cons {x:V}{d:PyData}{xs:List V}{ds:List PyData}:RdW H x d->RdWs H xs ds->RdWs H (x::xs) (d::ds)
end
mutual
theorem RdW.reads {P:Program}{w:World}{H:Hp}{h:Heap}(ok:HOk P w H h):∀{x:V}{d:PyData}{u:Value},RdW H x d->RelV x u->∃as,Reads h u d as
 | _,_,_,.flat r,ru=>r.reads ok ru
 | _,_,u,.lst (a:=a) e r,ru=>by
  obtain rfl:u=Value.ref a:=ru
  obtain⟨z,its,n,rv,ho⟩:=ok _ _ e
  obtain⟨as,ra⟩:=RdWs.reads ok r rv
  exact⟨_,.list ho rfl rfl (by simpa using ra)⟩
theorem RdWs.reads {P:Program}{w:World}{H:Hp}{h:Heap}(ok:HOk P w H h):∀{xs:List V}{ds:List PyData}{us:List Value},RdWs H xs ds->Vals xs us->∃as,ReadsAll h us ds as
 | _,_,_,.nil,r=>by
  cases r
  exact⟨_,.nil⟩
 | _,_,_,.cons r rs,v=>by
  cases v with
  | cons ru rv=>
   obtain⟨as,ra⟩:=RdW.reads ok r ru
   obtain⟨bs,rb⟩:=RdWs.reads ok rs rv
   exact⟨_,.cons ra rb⟩
end
theorem RdWs.of {H:Hp}:∀{xs:List V}{ds:List PyData},RdVs H xs ds->RdWs H xs ds
 | _,_,.nil=>.nil
 | _,_,.cons r rs=>.cons (.flat r) (RdWs.of rs)
section
variable {X:Cx}
def rNeW (neg:Bool):R2:=λx y H Q=>∃d e,RdW H x d/\RdW H y e/\PySem.SeqAt.shaped d=true/\PySem.SeqAt.shaped e=true/\Q (.bl (neg ^^ PyData.eqv d e)) H
theorem Zn5 (hu:X.A.units+64<cLine):OpR X (compareOp .Eq) (rNeW false):=by
 intro pins s σ H x y v u Q I rx ry h
 obtain⟨d,e,rd,re,h1,h2,q⟩:=h
 obtain⟨as,ra⟩:=rd.reads I.hok rx
 obtain⟨bs,rb⟩:=re.reads I.hok ry
 refine PySem.SeqAt.compareEq_shaped ra rb h1 h2 hu ⟨.bl _,H,I,rfl,?_⟩
 rw[Bool.false_xor]at q
 exact q
end
end L2
namespace DP
open PySem PyProof.Rows
theorem lk_keys:typeLookup (.type "list") "keys" = pure none:=by rw[typeLookup_type,builtinLookup_eq_fast];kernel_rfl
theorem Zm1:entryFor table "dict.update.loop" = some Builtin.«dict.update.loop»:=entryFor_of_fast (by kernel_rfl)
theorem Zhv:plainId "dict.update.loop" = true:=by decide +kernel
section
variable {prog:Program}{w:World}{A:Around}{E:Value->Shared->Prop}{s:Shared}
theorem keys_none {a:Addr}{its:Array Value}{n:Nat}{Q:Option Value->Shared->Prop}(hh:A.handled=none)(ho:s.heap.get? a=some { cls:=.type "list",dict:=none,data:=.seq its n,slots:=#[] })
  (q:∀h' t',(∀b u,s.heap.get? b=some u->h'.get? b=some u)->Q none { s with heap:=h',toks:=t' }):wpAny (model prog w) A (getAttr? (.ref a) "keys") Q E s:=by
 (obtain⟨hp,g,d,tk,os⟩:=s)
 have ty:∀k,(⟨hp,g,d,k,os⟩:Shared).TypeIs (.ref a) "list" := λ_=>⟨_,ho,rfl⟩
 have f1:=sub_AttributeError
 (have f3:=F.slot_list_getattribute.lookup)
 (have f4:=F.slot_list_getattribute.bind (.ref a))
 (have f5:=am_list_getattr_none)
 (unfold getAttr? getAttrBy? getAttrBy)
 repeat (any_goals (first | assumption | exact ty _ | ((with_reducible show wpAny _ _ (call (Value.builtin "list.__getattribute__") _ _) _ _ _);refine call_meets F.slot_list_getattribute (ty _) am_entry_list_getattribute (F.args_list_getattribute_2 _ _) (meets_getattribute_miss_list a its n #[] "keys" _ lk_keys (by decide +kernel) (by rw[sizeLine_eq];decide +kernel)) ⟨ho,hh,λh9 k9 e9 x9=>?_⟩) | wp_step))
 obtain⟨t8,u8,he⟩:=x9.there
 have kp:=x9.of
 (show wpAny _ _ (getattributeRaised _ _ _ _ _ _ _) _ _ _)
 unfold getattributeRaised
 (repeat (any_goals (first | assumption | wp_step)))
 exact q _ _ x9.keeps
end
section
variable {prog:Program}{w:World}{κ:Type} [DecidableEq κ] {knd:KeyKind prog w κ}{A:Around}{R:Result->Shared->Prop}
def put (kvs:List (κ×Value)):List (κ×Value):=kvs.foldl (λacc p=>stored acc p.1 p.2) []
theorem put_snoc (kvs:List (κ×Value))(p:κ×Value):put (kvs++[p])=stored (put kvs) p.1 p.2:=by
 unfold put
 rw[List.foldl_append]
 rfl
theorem stored_len (kvs:List (κ×Value))(k:κ)(v:Value):(stored kvs k v).length<=kvs.length+1:=by
 unfold stored
 split
 ·rw[length_map];lia
 rw[length_append];exact Nat.le_refl _
theorem put_len:∀kvs:List (κ×Value),(put kvs).length<=kvs.length:=by
 have go:∀(kvs acc:List (κ×Value)),(kvs.foldl (λacc p=>stored acc p.1 p.2) acc).length<=acc.length+kvs.length:=by
  intro kvs
  induction kvs with
  | nil=>exact λacc=>Nat.le_refl _
  | cons p r ih=>
   intro acc
   have h1:=ih (stored acc p.1 p.2)
   have h2:=stored_len acc p.1 p.2
   (rw[foldl_cons,length_cons])
   lia
 intro kvs
 have:=go kvs []
 rw[length_nil,Nat.zero_add]at this
 exact this
theorem loop {I l D:Addr}{items:Array Value}{kvs:List (κ×Value)}{h0:Heap}(hh:A.in1.handled=none)(n1:l≠I)(n2:D≠I)(n3:D≠l)(hz:kvs.length<=1000000)(hl:items.size=kvs.length)
  (tup:∀(i:Nat) (k:κ) (v:Value),kvs[i]? = some (k,v)->∃t key n o,items[i]? = some (.ref t)/\t≠D/\t≠I/\knd.is k key=true/\h0.get? t=some o/\o.cls=.type "tuple" /\ o.data=.seq #[key,v] n) :
  ∀(m i:Nat) (s:Shared),kvs.length-i=m->i<=kvs.length->s.heap.IsListIter I l i->s.heap.IsList l items->s.heap.DictOf knd D (put (kvs.take i))->(∀b o,b≠D->b≠I->h0.get? b=some o->s.heap.get? b=some o) ->
   (∀(h':Heap) (t':Nat),h'.DictOf knd D (put kvs)->(∀b o,b≠D->b≠I->s.heap.get? b=some o->h'.get? b=some o)->R (.ok (.ret .none)) { s with heap:=h',toks:=t' }) ->
   codeAny (model prog w) A (.builtin "dict.update.loop" ⟨[.ref D,.ref I,.int (i:Nat) 0,.none],[]⟩) R s:=by
 intro m
 induction m with
 | zero=>
  intro i s hm hi st hL hd kp fin
  obtain rfl:i=kvs.length:=by lia
  rw[take_length]at hd
  refine codeAny_builtin Zm1 ?_
  rw[Around.under_plainId Zhv _]
  refine wpAny_bind (m:=pyNext (.ref I)) (wpAny_pyNext_list_end hh st hL (by simp[hl]) λh1 e1=>?_)
  show wpAny _ _ (Builtin.Dict.addKeywords D [] >>= λ_=>ret Value.none) _ _ _
  refine wpAny_bind (m:=Builtin.Dict.addKeywords D []) (wpAny_pure (wpAny_pure (fin h1 s.toks ?_ λb o c1 c2 e=>e1 b o c2 e)))
  exact hd.extBut e1 n2
 | succ m ih=>
  intro i s hm hi st hL hd kp fin
  have lt:i<kvs.length:=by lia
  obtain⟨t,key,n,o,hit,td,tI,hk,ht,hcl,hdt⟩:=tup i kvs[i].1 kvs[i].2 (getElem?_eq_getElem lt)
  have ht1:=kp t _ td tI ht
  refine codeAny_builtin Zm1 ?_
  rw[Around.under_plainId Zhv _]
  refine wpAny_bind (m:=pyNext (.ref I)) (wpAny_pyNext_list_item st hL hit λh1 st1 sb=>?_)
  have ht2:=sb.extBut _ _ tI ht1
  have e1:put (kvs.take (i+1))=stored (put (kvs.take i)) kvs[i].1 kvs[i].2:=by rw[take_succ_eq_append_getElem lt,put_snoc]
  have hln:=put_len (kvs.take i)
  rw[length_take]at hln
  refine wpAny_bind (wpAny_holding (wpAny_bind (wpAny_tryCatch ?_)))
  unfold Builtin.Dict.pairItems
  refine wpAny_bind (wpAny_typeOf (T := "tuple") ⟨_,ht2,hcl⟩ ?_)
  rw[if_pos (by decide)]
  refine wpAny_bind (wpAny_seqItems ht2 hdt (wpAny_pure ?_))
  refine wpAny_holding (wpAny_dictSet_pairs (s:={ s with heap:=h1 }) hk (hd.sameBut sb n2) (λh2 hd2 sb2=>?_) (by rw[sizeLine_eq];lia))
  rw[<- e1]at hd2
  refine wpAny_pure ⟨plainId_quiet Zhv _,ih (i+1) _ (by lia) lt (st1.extBut sb2.extBut n2.symm) ((hL.extBut sb.extBut n1).extBut sb2.extBut n3.symm) hd2 (λb o c1 c2 e=>sb2.extBut _ _ c1 (sb.extBut _ _ c2 (kp b o c1 c2 e))) λh3 t3 d3 k3=>fin h3 t3 d3 λb o c1 c2 e=>k3 b o c1 c2 (sb2.extBut _ _ c1 (sb.extBut _ _ c2 e))⟩
end
section
variable {prog:Program}{w:World}{κ:Type} [DecidableEq κ] {knd:KeyKind prog w κ}{A:Around}{E:Value->Shared->Prop}{s:Shared}
theorem make {l:Addr}{items:Array Value}{n:Nat}{kvs:List (κ×Value)}{Q:Value->Shared->Prop}(hh:A.handled=none)(ho:s.heap.get? l=some { cls:=.type "list",dict:=none,data:=.seq items n,slots:=#[] })(hz:kvs.length<=1000000)(hl:items.size=kvs.length)
  (tup:∀(i:Nat) (k:κ) (v:Value),kvs[i]? = some (k,v)->∃t key n o,items[i]? = some (.ref t)/\knd.is k key=true/\s.heap.get? t=some o/\o.cls=.type "tuple" /\ o.data=.seq #[key,v] n)
  (q:∀(h':Heap) (tk:Nat),h'.DictOf knd s.heap.objs.size (put kvs)->(∀b o,s.heap.get? b=some o->h'.get? b=some o)->Q (.ref s.heap.objs.size) { s with heap:=h',toks:=tk }) :
  wpAny (model prog w) A (call (.type "dict") [.ref l]) Q E s:=by
 refine callType_codes (Q₁:=λobj s1=>obj=.ref s.heap.objs.size/\s1={ s with heap:=s.heap.push { cls:=.type "dict",data:=.dict #[] } }) F.kt_called_dict (F.kt_typeCall_dict_1 _) F.entry_dict_init (kt_code_dict_new _ ⟨rfl,rfl⟩) ?_
 rintro obj s1 ⟨rfl,rfl⟩
 (have hnew:(s.heap.push { cls:=.type "dict",data:=.dict #[] }).DictOf knd s.heap.objs.size []:=Heap.DictOf.new s.heap)
 (refine⟨hnew.typeIs,F.args_dict_init_2 _ _,?_⟩)
 (unfold Builtin.«dict.__init__»)
 refine wpAny_bind ?_
 (unfold Builtin.Dict.selfAndRest)
 (refine wpAny_bind (wpAny_notOrdered_dict hnew.typeIs ?_))
 show wpAny _ _ (pure (s.heap.objs.size,[Value.ref l])) _ _ _
 refine wpAny_pure ?_
 show wpAny _ _ (Builtin.Dict.updateFrom "dict.__init__" s.heap.objs.size (.ref l) [] .none) _ _ _
 (unfold Builtin.Dict.updateFrom)
 have ho1:(s.heap.push { cls:=.type "dict",data:=.dict #[] }).get? l=some { cls:=.type "list",dict:=none,data:=.seq items n,slots:=#[] }:=Heap.get?_push_of_some _ ho
 refine wpAny_bind (wpAny_typeOf (T := "list") ⟨_,ho1,rfl⟩ ?_)
 rw[if_pos (by decide)]
 refine wpAny_bind (keys_none (show A.in1.in1.handled=none from hh) ho1 λh2 t2 k2=>?_)
 rw[if_pos (show(none:Option Value).isNone=true from rfl)]
 refine wpAny_bind (wpAny_rule ?_)
 have hL2:h2.IsList l items:=⟨_,k2 _ _ ho1,rfl,n,rfl⟩
 refine wpAny_bind (wpAny_pyIter_list hL2 ?_)
 have lD:s.heap.objs.size<h2.objs.size:=by
  obtain⟨od,_,_,hod,_⟩:=hnew
  exact Heap.lt_size (k2 _ _ hod)
 have ll:l<s.heap.objs.size:=Heap.lt_size ho
 have kp:∀b o,s.heap.get? b=some o->(h2.push { cls:=.type "list_iterator",data:=.fields #[.ref l,.int 0 0] }).get? b=some o:=λb o e=>Heap.get?_push_of_some _ (k2 _ _ (Heap.get?_push_of_some _ e))
 have hd2:(h2.push { cls:=.type "list_iterator",data:=.fields #[.ref l,.int 0 0] }).DictOf knd s.heap.objs.size []:=by
  obtain⟨od,es,ep,hod,r⟩:=hnew
  exact⟨od,es,ep,Heap.get?_push_of_some _ (k2 _ _ hod),r⟩
 refine wpAny_pure ⟨plainId_quiet Zhv _,loop (knd:=knd) (kvs:=kvs) (h0:=s.heap) (I:=h2.objs.size) (l:=l) (D:=s.heap.objs.size) (items:=items) (show A.in1.in1.handled=none from hh) (ne_of_lt (lt_trans ll lD)) (ne_of_lt lD) (ne_of_gt ll) hz hl (λi k v e=>?_) (kvs.length-0) 0 _ rfl (zero_le _) ⟨_,Heap.get?_push_size _ rfl,rfl,rfl⟩ (hL2.push _) hd2 (λb o _ _ e=>kp b o e) λh3 t3 d3 k3=>⟨rfl,q h3 t3 d3 λb o e=>k3 b o (ne_of_lt (Heap.lt_size e)) (ne_of_lt (lt_trans (Heap.lt_size e) lD)) (kp b o e)⟩⟩
 obtain⟨t,key,n,o,a1,a2,a3,a4,a5⟩:=tup i k v e
 exact⟨t,key,n,o,a1,ne_of_lt (Heap.lt_size a3),ne_of_lt (lt_trans (Heap.lt_size a3) lD),a2,a3,a4,a5⟩
end
end DP
namespace L2
open PySem PyProof.Rows
section
variable {X:Cx}
def putAll (kvs:List (Key×V)):List (Key×V):=kvs.foldl (λacc p=>putK acc p.1 p.2) []
theorem KV.putAll:∀{kvs:List (Key×V)}{vs:List (Key×Value)},KV kvs vs->KV (L2.putAll kvs) (DP.put vs):=by
 have go:∀{kvs:List (Key×V)}{vs:List (Key×Value)}{a:List (Key×V)}{b:List (Key×Value)},KV kvs vs->KV a b->KV (kvs.foldl (λacc p=>putK acc p.1 p.2) a) (vs.foldl (λacc p=>stored acc p.1 p.2) b):=by
  intro kvs
  induction kvs with
  | nil=>
   intro vs a b r ra
   cases r
   exact ra
  | cons p r ih=>
   intro vs a b rr ra
   cases rr with
   | cons h t=>
    rw[foldl_cons,foldl_cons,<- h.1]
    exact ih t (ra.put _ h.2)
 intro kvs vs r
 exact go r .nil
theorem Zin:∀{ts:List Addr}{us:List Value},Vals (ts.map V.ref) us->us=ts.map Value.ref
 | [],_,r=>by
  cases r
  rfl
 | t::ts,_,r=>by
  cases r with
  | cons h q=>
   cases h
   rw[Zin q]
   rfl
theorem putAll_len (kvs:List (Key×V)):(L2.putAll kvs).length<=kvs.length:=by
 have go:∀(kvs a:List (Key×V)),(kvs.foldl (λacc p=>putK acc p.1 p.2) a).length<=a.length+kvs.length:=by
  intro kvs
  induction kvs with
  | nil=>exact λa=>Nat.le_refl _
  | cons p r ih=>
   intro a
   have h1:=ih (putK a p.1 p.2)
   have h2:=Zeb a p.1 p.2
   (rw[foldl_cons,length_cons])
   lia
 have:=go kvs []
 rw[length_nil,Nat.zero_add]at this
 exact this
theorem Zky {P:Program}{w:World}{H:Hp}{h:Heap}(ok:HOk P w H h):∀(ts:List Addr) (kvs:List (Key×V)),ts.length=kvs.length->(∀(i:Nat) (t:Addr) (k:Key) (v:V),ts[i]? = some t->kvs[i]? = some (k,v)->H t=some (.tup [kV k,v])) ->
  ∃vs:List (Key×Value),KV kvs vs/\∀(i:Nat) (k:Key) (v:Value),vs[i]? = some (k,v)->∃t key n o,ts[i]? = some t/\(Za0 P w).is k key=true/\h.get? t=some o/\o.cls=.type "tuple" /\ o.data=.seq #[key,v] n
 | [],[],_,_=>⟨[],.nil,λi k v e=>by simp at e⟩
 | [],_::_,hl,_=>by cases hl
 | _::_,[],hl,_=>by cases hl
 | t::ts,(k,v)::kvs,hl,hh=>by
  obtain⟨vs,r,q⟩:=Zky ok ts kvs (Nat.succ.inj hl) λi t' k' v' h1 h2=>hh (i+1) t' k' v' (by simpa using h1) (by simpa using h2)
  obtain⟨z,its,rv,o,ho,hc,n,hd⟩:=ok t _ (hh 0 t k v rfl rfl)
  obtain⟨uk,uv,rfl,rk,rv'⟩:=Zlr rv
  refine⟨(k,uv)::vs,.cons ⟨rfl,rv'⟩ r,λi k' v' e=>?_⟩
  cases i with
  | zero=>
   cases e
   exact⟨t,uk,n,o,rfl,Zib rk,ho,hc,hd⟩
  | succ i=>
   obtain⟨t',key,n',o',b1,b2⟩:=q i k' v' (by simpa using e)
   exact⟨t',key,n',o',by simpa using b1,b2⟩
theorem Zdr (hc:X.calm=true):Zcq X (.type "dict") (λxs H Q=>∃(p:Addr) (ts:List Addr) (kvs:List (Key×V)),xs=[.ref p]/\H p=some (.lst (ts.map V.ref))/\ts.length=kvs.length/\kvs.length<=1000 /\
  (∀(i:Nat) (t:Addr) (k:Key) (v:V),ts[i]? = some t->kvs[i]? = some (k,v)->H t=some (.tup [kV k,v]))/\∀d,H d=none->Q (.ref d) (upd H d (.dK (putAll kvs)))):=by
 intro pins s σ H xs us Q I r h
 obtain⟨p,ts,kvs,rfl,hp,hl,hz,ht,q⟩:=h
 obtain⟨u,rfl,ru⟩:=Zc5 r
 cases ru
 obtain⟨z,its,n,rv,hlen,e⟩:=I.lstM hp
 obtain⟨vs,rk,at'⟩:=Zky I.hok ts kvs hl ht
 have ei:=Zin rv
 subst ei
 have hlv:=rk.length
 rw[length_map]at hlen
 refine DP.make (knd:=Za0 X.prog X.w) (kvs:=vs) (I.ok.hd hc) e (by lia) (by rw[size_toArray,length_map];lia) (λi k v ev=>?_) λh' tk hd kp=>?_
 ·obtain⟨t,key,n',o,b1,b2,b3,b4,b5⟩:=at' i k v ev
  exact⟨t,key,n',o,by rw[getElem?_toArray,getElem?_map,b1];rfl,b2,b3,b4,b5⟩
 have hp2:=putAll_len kvs
 have hs:sizeLine=16777216:=sizeLine_eq
 have big:=I.big
 refine⟨.ref _,_,I.laid (a:=s.heap.objs.size) (o:=.dK (putAll kvs)) (t':=tk) kp (Nat.le_refl _) ⟨by lia,?_,_,KV.putAll rk,hd⟩,rfl,q _ (I.hok.fresh (Nat.le_refl _))⟩
 exact beq_eq_false_iff_ne.mpr (ne_of_gt big)
end
end L2
namespace LP
open PySem PyProof.Rows
end LP
namespace L2
open PySem PyProof.Rows
end L2
namespace SI
open PySem PySem.W PyProof.Rows
def run {α:Type}(f:Nat->Nat->Bool):KasT α->α
 | .ret a=>a
 | .ask i j k=>run f (k (f i j))
def good {α:Type}(n:Nat):KasT α->Bool
 | .ret _=>true
 | .ask i j k=>(decide (i<n) && decide (j<n) && decide (i≠j)) && (good n (k true) && good n (k false))
theorem Zmv {α:Type}{n:Nat}{k:Bool->KasT α}(h:(good n (k true) && good n (k false))=true)(b:Bool):good n (k b)=true:=by
 rw[and_eq_true]at h
 cases b with
 | true=>exact h.1
 | false=>exact h.2
theorem Zn0 {α:Type}{n:Nat}{f:Nat->Nat->Bool}{cmp:Nat->Nat->(Bool->Shared->Prop)->Shared->Prop}{Q:α->Shared->Prop}{s:Shared}(hc:∀i j (C:Bool->Shared->Prop),i<n->j<n->i≠j->C (f i j) s->cmp i j C s) :
  ∀t:KasT α,good n t=true->Q (run f t) s->t.kasWp cmp Q s
 | .ret _,_,h=>h
 | .ask i j k,g,h=>by
  unfold good at g
  rw[and_eq_true,and_eq_true,and_eq_true]at g
  have g2:=g.2
  exact hc i j _ (of_decide_eq_true g.1.1.1) (of_decide_eq_true g.1.1.2) (of_decide_eq_true g.1.2) (Zn0 hc (k (f i j)) (Zmv g2 _) h)
theorem Zf8 {α:Type}{n:Nat}{f g:Nat->Nat->Bool}(hc:∀i j,i<n->j<n->i≠j->f i j=g i j):∀t:KasT α,good n t=true->run f t=run g t
 | .ret _,_=>rfl
 | .ask i j k,q=>by
  unfold good at q
  rw[and_eq_true,and_eq_true,and_eq_true]at q
  have g2:=q.2
  show run f (k (f i j))=run g (k (g i j))
  rw[hc i j (of_decide_eq_true q.1.1.1) (of_decide_eq_true q.1.1.2) (of_decide_eq_true q.1.2)]
  exact Zf8 hc _ (Zmv g2 _)
theorem good2:good 2 (kas_sort 2)=true:=by decide +kernel
theorem good3:good 3 (kas_sort 3)=true:=by decide +kernel
def f3 (a b c:Bool):Nat->Nat->Bool
 | 0,1=>a
 | 1,0=>!a
 | 0,2=>b
 | 2,0=>!b
 | 1,2=>c
 | 2,1=>!c
 | _,_=>false
def Zdv (f:Nat->Nat->Bool)(p:List Nat)(n:Nat):Bool:=decide (p.Perm (List.range n)) && (p.zip p.tail).all λq=>f q.1 q.2
theorem s2:∀a:Bool,Zdv (f3 a false false) (run (f3 a false false) (kas_sort 2)).toList 2=true:=by decide +kernel
theorem s3:∀a b c:Bool,(!(a && c && !b) && !(!a && !c && b))=true->Zdv (f3 a b c) (run (f3 a b c) (kas_sort 3)).toList 3=true:=by decide +kernel
section
variable {prog:Program}{w:World}{A:Around}{E:Value->Shared->Prop}{s:Shared}
theorem sort_walk {f:Nat->Nat->Bool}{a:Addr}{vs:List Value}{n:Nat}{P:PySem.Fin->Shared->Prop}(ho:s.heap.get? a=some (seqObj "list" vs.toArray n))(h3:vs.length<=3)
  (ask:2<=vs.length->∀h',(∀b o,b≠a->s.heap.get? b=some o->h'.get? b=some o)->wpAny (model prog w) A (keyKind' vs.toArray) (λκ s'=>s'={ s with heap:=h' }/\∀i j (C:Bool->Shared->Prop),i<vs.length->j<vs.length->i≠j->C (f i j) s'->kas_ask prog w A κ vs i j C s') (λ_ _=>False) { s with heap:=h' })
  (fin:∀h' c (p:List Nat),p.length=vs.length->(2<=vs.length->p=(run f (kas_sort vs.length)).toList)->(vs.length<2->p=List.range vs.length)->(∀b o,b≠a->s.heap.get? b=some o->h'.get? b=some o)->h'.get? a=some (seqObj "list" (p.map λi=>vs.getD i Value.none).toArray c)->P (.done (.ret .none)) { s with heap:=h' }) :
  (wpAny (model prog w) A (Builtin.«list.sort» ⟨[.ref a],[]⟩) P E s):=by
 (have ha:a<s.heap.objs.size:=Heap.lt_size ho)
 have o1:=Heap.SameBut.update s.heap a (Obj.mapSeq λ_=>(#[]:Array Value))
 (obtain⟨e1,ho1⟩:∃e1,(s.heap.update a (Obj.mapSeq λ_=>(#[]:Array Value))).get? a=some (seqObj "list" #[] e1):=⟨_,get?_update_seq ho λ_=>#[]⟩)
 rw[list_sort_plain]
 (refine wpAny_bind (listItems_at ho rfl ?_))
 (refine wpAny_bind (listUpdate_at ho rfl ?_ (by rw[size_toArray,sizeLine_eq];lia) (zero_le _)))
 (refine wpAny_bind (seqEpoch_at ho1 rfl ?_))
 (refine wpAny_bind (wpAny_newTuple ?_ (by show vs.length<=_;rw[sizeLine_eq];lia)))
 (refine wpAny_bind (wpAny_newList ?_ (zero_le _)))
 refine wpAny_holding ?_
 have keep:∀b o,b≠a->s.heap.get? b=some o->(((s.heap.update a (Obj.mapSeq λ_=>(#[]:Array Value))).push (seqObj "tuple" vs.toArray 0)).push (seqObj "list" #[] 0)).get? b=some o:=λb o hb e=>Heap.get?_push_of_some _ (Heap.get?_push_of_some _ ((o1.2 b hb).trans e))
 have hoa:(((s.heap.update a (Obj.mapSeq λ_=>(#[]:Array Value))).push (seqObj "tuple" vs.toArray 0)).push (seqObj "list" #[] 0)).get? a=some (seqObj "list" #[] e1):=Heap.get?_push_of_some _ (Heap.get?_push_of_some _ ho1)
 (show wpAny (model prog w) A _ P E { s with heap:=((s.heap.update a (Obj.mapSeq λ_=>(#[]:Array Value))).push (seqObj "tuple" vs.toArray 0)).push (seqObj "list" #[] 0) })
 generalize ((s.heap.update a (Obj.mapSeq λ_=>(#[]:Array Value))).push (seqObj "tuple" vs.toArray 0)).push (seqObj "list" #[] 0)=h1 at keep hoa ⊢
 dsimp only
 by_cases h2:vs.length<2
 ·have hn2:vs.toArray.size<2:=by rw[size_toArray];exact h2
  rw[if_pos hn2,if_pos hn2]
  refine wpAny_bind (wpAny_pure ?_)
  refine wpAny_bind (wpAny_of_eq (a:=((),SortSt.mk' general' (vs.toArray.zip vs.toArray) #[] 7 none)) rfl ?_)
  dsimp only
  have hout:(arrOf (SortSt.mk' general' (vs.toArray.zip vs.toArray) #[] 7 none)).map (·.2)=((List.range vs.length).map λi=>vs.getD i Value.none).toArray:=by
   show((vs.toArray.zip vs.toArray).map (·.2))=_
   apply Array.toList_inj.mp
   rw[Array.toList_map,Array.toList_zip,List.toList_toArray,List.map_snd_zip (Nat.le_refl _)]
   refine ext_getElem (by simp) λk h1 h2=>?_
   simp[getD_eq_getElem?_getD,h1]
  rw[hout]
  have hp:(List.range vs.length).length=vs.length:=length_range
  have o2:=Heap.SameBut.update h1 a (Obj.mapSeq λ_=>((List.range vs.length).map λi=>vs.getD i Value.none).toArray)
  obtain⟨c2,hc2⟩:∃c2,(h1.update a (Obj.mapSeq λ_=>((List.range vs.length).map λi=>vs.getD i Value.none).toArray)).get? a=some (seqObj "list" ((List.range vs.length).map λi=>vs.getD i Value.none).toArray c2):=⟨_,get?_update_seq hoa λ_=>((List.range vs.length).map λi=>vs.getD i Value.none).toArray⟩
  refine wpAny_bind (seqEpoch_at hoa rfl ?_)
  refine wpAny_bind (listUpdate_at hoa rfl ?_ (zero_le _) (by rw[size_toArray,length_map,sizeLine_eq];lia))
  show wpAny _ _ (if (e1 != e1)=true then _ else _) _ _ _
  rw[if_neg (by simp)]
  exact wpAny_pure (fin _ c2 _ hp (λz=>absurd h2 (by lia)) (λ_=>rfl) (λb o hb e=>(o2.2 b hb).trans (keep b o hb e)) hc2)
 have hn2:¬vs.toArray.size<2:=by rw[size_toArray];exact h2
 rw[if_neg hn2,if_neg hn2]
 refine wpAny_bind (wpAny_mono (ask (by lia) h1 keep) (λκ s0 hk=>?_) λ_ _ x=>x.elim)
 obtain⟨rfl,hk⟩:=hk
 refine wpAny_bind (wpAny_mono (kat_run (Q:=λst' s'=>s'={ s with heap:=h1 }/\∃p:Array Nat,p.size=vs.length/\arrOf st'=p.map (kas_item (vs.toArray.zip vs.toArray))/\failedOf st'=none/\p=run f (kas_sort vs.length)) (G:=λp s'=>s'={ s with heap:=h1 }/\p=run f (kas_sort vs.length))
  rfl (by lia) (by lia) (λp st' s' a1 a2 a3 a4=>⟨a4.1,p,a1,a2,a3,a4.2⟩) (Zn0 hk _ ?_ ⟨rfl,rfl⟩)) ?_ λ_ _ e=>e)
 ·rcases(by lia:vs.length=2\/vs.length=3)with e | e
  ·rw[e];exact good2
  rw[e];exact good3
 rintro⟨⟨⟩,st'⟩ s' ⟨rfl,p,hp,har,hf,hpe⟩
 dsimp only
 have hout:=kat_snds rfl har
 have hp':p.toList.length=vs.length:=by rw[Array.length_toList];exact hp
 rw[hout]
 have o2:=Heap.SameBut.update h1 a (Obj.mapSeq λ_=>(p.toList.map λi=>vs.getD i Value.none).toArray)
 obtain⟨c2,hc2⟩:∃c2,(h1.update a (Obj.mapSeq λ_=>(p.toList.map λi=>vs.getD i Value.none).toArray)).get? a=some (seqObj "list" (p.toList.map λi=>vs.getD i Value.none).toArray c2):=⟨_,get?_update_seq hoa λ_=>(p.toList.map λi=>vs.getD i Value.none).toArray⟩
 refine wpAny_bind (seqEpoch_at hoa rfl ?_)
 refine wpAny_bind (listUpdate_at hoa rfl ?_ (zero_le _) (by rw[size_toArray,length_map,sizeLine_eq];lia))
 rw[hf]
 (simp only[bne_self_eq_false,false_eq_true,if_false])
 exact wpAny_pure (fin _ c2 _ hp' (λ_=>by rw[hpe]) (λz=>absurd z h2) (λb o hb e=>(o2.2 b hb).trans (keep b o hb e)) hc2)
def Zij (h:Heap)(as:List Addr)(ks:List Str):Prop:=as.length=ks.length/\∀(i:Nat) a k,as[i]? = some a->ks[i]? = some k->∃t x,h.get? a=some { cls:=.type "tuple",data:=.seq #[.str k t,x] }
def lt (ks:List Str)(i j:Nat):Bool:=decide ((ks.getD i Str.empty).cps.toList<(ks.getD j Str.empty).cps.toList)
theorem Zlv {h:Heap}:∀{as:List Addr}{ks:List Str},Zij h as ks->∃fs:List Value,KatTups h (as.map Value.ref) fs/\fs.length=ks.length/\∀v∈fs,∃k t,v=.str k t
 | [],[],_=>⟨[],.nil,rfl,λv hv=>nomatch hv⟩
 | [],_::_,h=>by have:=h.1;simp at this
 | _::_,[],h=>by have:=h.1;simp at this
 | a::as,k::ks,hp=>by
  obtain⟨t,x,e⟩:=hp.2 0 a k rfl rfl
  obtain⟨fs,f1,f2,f3⟩:=Zlv (as:=as) (ks:=ks) ⟨by have:=hp.1;simpa using this,λi b l hb hl=>hp.2 (i+1) b l (by simpa using hb) (by simpa using hl)⟩
  refine⟨.str k t::fs,.cons e rfl rfl rfl f1,by simp[f2],λv hv=>?_⟩
  rcases(mem_cons.mp hv)with e | e
  ·exact⟨k,t,e⟩
  exact f3 v e
theorem tup_ask {as:List Addr}{ks:List Str}(hp:Zij s.heap as ks)(nd:ks.Nodup)(h2:2<=as.length) :
  wpAny (model prog w) A (keyKind' (as.map Value.ref).toArray) (λκ s'=>s'=s/\∀i j (C:Bool->Shared->Prop),i<(as.map Value.ref).length->j<(as.map Value.ref).length->i≠j->C (lt ks i j) s'->kas_ask prog w A κ (as.map Value.ref) i j C s') E s:=by
 obtain⟨fs,f1,f2,f3⟩:=Zlv hp
 have hl:=hp.1
 refine kat_kind (T:=.type "str") f1 (by lia) (λv hv A' Q' E' s' _ q=>?_) (by decide) ⟨rfl,λi j C hi hj hij hC=>?_⟩
 ·obtain⟨k,t,rfl⟩:=f3 v hv
  exact wpAny_typeOf (T := "str") rfl q
 rw[length_map]at hi hj
 obtain⟨t,x,e1⟩:=hp.2 i as[i] (ks[i]'(by lia)) (getElem?_eq_getElem hi) (getElem?_eq_getElem (by lia))
 obtain⟨u,y,e2⟩:=hp.2 j as[j] (ks[j]'(by lia)) (getElem?_eq_getElem hj) (getElem?_eq_getElem (by lia))
 have hne:ks[i]'(by lia)≠ks[j]'(by lia):=λz=>hij ((getElem_inj nd).mp z)
 unfold kas_ask
 have g1:(as.map Value.ref).getD i Value.none=.ref as[i]:=by simp[getD_eq_getElem?_getD,hi]
 have g2:(as.map Value.ref).getD j Value.none=.ref as[j]:=by simp[getD_eq_getElem?_getD,hj]
 rw[g1,g2]
 refine kat_lt e1 rfl e2 rfl ?_
 show KatLex prog w A true _ C [(.str _ t,.str _ u),(x,y)] 0 s
 refine kat_cons (wpAny_eqBool_str ?_)
 rw[decide_eq_false hne]
 refine kat_no ?_
 have hC':C (decide ((ks[i]'(by lia)).cps.toList<(ks[j]'(by lia)).cps.toList)) s:=by
  unfold lt at hC
  rw[show ks.getD i Str.empty=ks[i]'(by lia) by simp[getD_eq_getElem?_getD,(by lia:i<ks.length)],show ks.getD j Str.empty=ks[j]'(by lia) by simp[getD_eq_getElem?_getD,(by lia:j<ks.length)]]at hC
  exact hC
 exact oneLt_str hC'
end
theorem Zea {ks:List Str}{i j:Nat}(nd:ks.Nodup)(hi:i<ks.length)(hj:j<ks.length)(hij:i≠j):lt ks j i=!lt ks i j:=by
 have gi:ks.getD i Str.empty=ks[i]:=by simp[getD_eq_getElem?_getD,hi]
 have gj:ks.getD j Str.empty=ks[j]:=by simp[getD_eq_getElem?_getD,hj]
 have hne:ks[i]≠ks[j]:=λz=>hij ((getElem_inj nd).mp z)
 unfold lt
 rw[gi,gj]
 generalize ks[i]=a at hne
 generalize ks[j]=b at hne
 by_cases h1:a.cps.toList<b.cps.toList
 ·have h2:¬b.cps.toList<a.cps.toList:=List.lt_asymm h1
  rw[decide_eq_true h1,decide_eq_false h2]
  rfl
 have h2:b.cps.toList<a.cps.toList:=by
  refine Decidable.byContradiction λh2=>hne ?_
  have e:a.cps.toList=b.cps.toList:=List.le_antisymm (not_lt.mp h2) (not_lt.mp h1)
  have e2:a.cps=b.cps:=Array.toList_inj.mp e
  cases a
  cases b
  cases e2
  rfl
 rw[decide_eq_false h1,decide_eq_true h2]
 rfl
theorem Zi5 {ks:List Str}{i j k:Nat}(h1:lt ks i j=true)(h2:lt ks j k=true):lt ks i k=true:=decide_eq_true (List.lt_trans (of_decide_eq_true h1) (of_decide_eq_true h2))
theorem sorted_run {ks:List Str}(nd:ks.Nodup)(h2:2<=ks.length)(h3:ks.length<=3):Zdv (lt ks) (run (lt ks) (kas_sort ks.length)).toList ks.length=true:=by
 have cong:∀(g:Nat->Nat->Bool) (n:Nat) (p:List Nat),(∀i j,i<n->j<n->i≠j->lt ks i j=g i j)->Zdv g p n=true->Zdv (lt ks) p n=true:=λg n p hg hs=>by
  unfold Zdv at hs ⊢
  rw[and_eq_true]at hs ⊢
  refine⟨hs.1,?_⟩
  have hperm:=of_decide_eq_true hs.1
  rw[all_eq_true]at hs ⊢
  have hsd:=hs.2
  intro q hq
  have hq2:=hsd q hq
  have m1:q.1∈p:=(of_mem_zip hq).1
  have m2:q.2∈p:=List.mem_of_mem_tail (of_mem_zip hq).2
  have hndp:p.Nodup:=hperm.nodup_iff.mpr List.nodup_range
  have hne:q.1≠q.2:=λe=>by
   obtain⟨k,hk⟩:=getElem?_of_mem hq
   rw[List.getElem?_zip_eq_some,List.getElem?_tail]at hk
   obtain⟨l1,e1⟩:=List.getElem?_eq_some_iff.mp hk.1
   obtain⟨l2,e2⟩:=List.getElem?_eq_some_iff.mp hk.2
   have:=(getElem_inj hndp).mp (e1.trans (e.trans e2.symm))
   lia
  rw[hg q.1 q.2 (mem_range.mp (hperm.mem_iff.mp m1)) (mem_range.mp (hperm.mem_iff.mp m2)) hne]
  exact hq2
 rcases(by lia:ks.length=2\/ks.length=3)with e | e
 ·rw[e]
  have hg:∀i j,i<2->j<2->i≠j->lt ks i j=f3 (lt ks 0 1) false false i j:=λi j hi hj hij=>by
   rcases(by lia:(i=0/\j=1)\/(i=1/\j=0))with⟨rfl,rfl⟩ | ⟨rfl,rfl⟩
   ·rfl
   exact Zea nd (by lia) (by lia) (by lia)
  rw[Zf8 hg _ good2]
  exact cong _ 2 _ hg (s2 _)
 rw[e]
 have hg:∀i j,i<3->j<3->i≠j->lt ks i j=f3 (lt ks 0 1) (lt ks 0 2) (lt ks 1 2) i j:=λi j hi hj hij=>by
  rcases(by lia:(i=0/\j=1)\/(i=1/\j=0)\/(i=0/\j=2)\/(i=2/\j=0)\/(i=1/\j=2)\/(i=2/\j=1))with⟨rfl,rfl⟩ | ⟨rfl,rfl⟩ | ⟨rfl,rfl⟩ | ⟨rfl,rfl⟩ | ⟨rfl,rfl⟩ | ⟨rfl,rfl⟩
  ·rfl
  ·exact Zea nd (by lia) (by lia) (by lia)
  ·rfl
  ·exact Zea nd (by lia) (by lia) (by lia)
  ·rfl
  exact Zea nd (by lia) (by lia) (by lia)
 rw[Zf8 hg _ good3]
 refine cong _ 3 _ hg (s3 _ _ _ ?_)
 have f10:=Zea (i:=0) (j:=1) nd (by lia) (by lia) (by lia)
 have f20:=Zea (i:=0) (j:=2) nd (by lia) (by lia) (by lia)
 have f21:=Zea (i:=1) (j:=2) nd (by lia) (by lia) (by lia)
 have t1:=@Zi5 ks 0 1 2
 have t2:=@Zi5 ks 2 1 0
 rw[f10,f20,f21]at t2
 revert t1 t2
 cases lt ks 0 1 <;> cases lt ks 0 2 <;> cases lt ks 1 2 <;> simp
section
variable {prog:Program}{w:World}{A:Around}{E:Value->Shared->Prop}{s:Shared}
theorem items_sorted {κ:Type}[DecidableEq κ]{knd:PySem.KeyKind prog w κ}{kvs:List (κ×Value)}{ep:Nat}{r d:Addr}{ks:List Str}{Q:Value->Shared->Prop}(hh:A.handled=none)(hv:s.heap.IsItemsView r d)(hm:s.heap.DictAt knd d kvs ep)(hn:kvs.length<=3)(hks:ks.length=kvs.length)
  (hkey:∀(j:Nat) k x key,kvs[j]? = some (k,x)->knd.is k key=true->∃y t,ks[j]? = some y/\key=.str y t)(nd:ks.Nodup)
  (h:∀(h1 h':Heap) (tk:Nat) (as:List Addr) (p:List Nat) (c:Nat),(∀b o,s.heap.get? b=some o->h1.get? b=some o)->as.length=kvs.length->KdxG knd kvs s.heap.objs.size h1 as->p.Perm (List.range kvs.length)->((p.zip p.tail).all λq=>lt ks q.1 q.2)=true->(∀b o,h1.get? b=some o->h'.get? b=some o) ->
   h'.get? h1.objs.size=some (seqObj "list" (p.map λi=>(as.map Value.ref).getD i Value.none).toArray c)->Q (.ref h1.objs.size) { s with heap:=h',toks:=tk }):wpAny (model prog w) A (call (.builtin "sorted") [.ref r]) Q E s:=by
 have e0:=args_sorted1 (.ref r)
 refine Calls.call_function_entry kind_sorted plain_sorted entry_sorted e0 ?_
 unfold Builtin.«sorted»
 (refine wpAny_bind (m:=checkCount "sorted" 1 1 _) (wpAny_pure ?_))
 have hsl:sizeLine=16777216:=sizeLine_eq
 refine wpAny_bind (kdx_collect (A:=A.in1) (knd:=knd) (kvs:=kvs) (ep:=ep) hh hv hm (by lia) λh1 tk as hk hl hG=>?_)
 refine wpAny_bind (wpAny_newList ?_ (by rw[length_map];lia))
 have hoB:(h1.push (seqObj "list" (as.map Value.ref).toArray 0)).get? h1.objs.size=some (seqObj "list" (as.map Value.ref).toArray 0):=Heap.get?_push_size _ rfl
 have pa:Zij h1 as ks:=⟨by rw[hl,hks],λi a k ha hk'=>by
  obtain⟨key,k2,x,e1,e2,e3⟩:=hG.pairs i a ha
  obtain⟨y,t,e4,rfl⟩:=hkey i k2 x key e1 e2
  rw[hk']at e4
  cases e4
  exact⟨t,x,e3⟩⟩
 have inA:∀a∈as,a≠h1.objs.size:=λa ha=>ne_of_lt (hG.there ha)
 refine wpAny_bind (wpAny_holding (wpAny_call_entry slot_list_sort ⟨_,hoB,rfl⟩ entry_list_sort ?_ (args_list_sort _)))
 refine sort_walk (f:=lt ks) (s:={ s with heap:=h1.push (seqObj "list" (as.map Value.ref).toArray 0),toks:=tk }) hoB (by rw[length_map];lia) (λh2 h' kk=>?_) (λh' c p hp p2 p1 kk hB=>?_)
 ·rw[length_map]at h2
  have pa':Zij h' as ks:=⟨pa.1,λi a k ha hk'=>by
   obtain⟨t,x,e⟩:=pa.2 i a k ha hk'
   exact⟨t,x,kk a _ (inA a (mem_of_getElem? ha)) (Heap.get?_push_of_some _ e)⟩⟩
  exact tup_ask (s:={ s with heap:=h',toks:=tk }) pa' nd h2
 rw[length_map]at hp p2 p1
 have ext:∀b o,h1.get? b=some o->h'.get? b=some o:=λb o e=>kk b o (ne_of_lt (Heap.lt_size e)) (Heap.get?_push_of_some _ e)
 have key:p.Perm (List.range kvs.length)/\((p.zip p.tail).all λq=>lt ks q.1 q.2)=true:=by
  by_cases h2:2<=kvs.length
  ·have e:=p2 (by lia)
   have hs:=sorted_run nd (by lia) (by lia)
   rw[hks,<- hl,<- e]at hs
   unfold Zdv at hs
   rw[and_eq_true]at hs
   rw[<- hl]
   exact⟨of_decide_eq_true hs.1,hs.2⟩
  have e:=p1 (by lia)
  rw[e,hl]
  refine⟨.refl _,?_⟩
  rcases(by lia:kvs.length=0\/kvs.length=1)with z | z <;> (rw[z];rfl)
 exact⟨_,rfl,wpAny_pure ⟨_,rfl,h h1 h' tk as p c hk hl hG key.1 key.2 ext hB⟩⟩
end
end SI
namespace L2
open PySem PySem.W PyProof.Rows
section
variable {X:Cx}{pins:List (Addr×Obj)}{σ:St}
def PrAt (H:Hp)(as:List Addr)(ps:List (Str×V)):Prop:=as.length=ps.length/\∀(i:Nat) a p,as[i]? = some a->ps[i]? = some p->H a=some (.tup [.str p.1,p.2])
theorem FpOk.off {H:Hp}{a b:Addr}{o:HO}(h:FpOk X pins H a)(n:a≠b):FpOk X pins (upd H b o) a:=⟨by rw[Zaj n];exact h.1,h.2⟩
theorem Zfu {s:Shared}:∀(as:List Addr) (ps:List (Str×V)) (H:Hp),Inv X pins σ H s->as.Nodup->as.length=ps.length->(∀a∈as,FpOk X pins H a) ->
  (∀(i:Nat) a p,as[i]? = some a->ps[i]? = some p->∃u t,RelV p.2 u/\s.heap.get? a=some { cls:=.type "tuple",data:=.seq #[.str p.1 t,u] })->∃H',Inv X pins σ H' s/\Same H H'/\PrAt H' as ps
 | [],[],H,I,_,_,_,_=>⟨H,I,Same.refl _,rfl,λi a p h=>by simp at h⟩
 | [],_::_,_,_,_,h,_,_=>by simp at h
 | _::_,[],_,_,_,h,_,_=>by simp at h
 | a::as,p::ps,H,I,nd,hl,hf,hp=>by
  obtain⟨u,t,ru,e⟩:=hp 0 a p rfl rfl
  have fa:=hf a mem_cons_self
  have nd':=nodup_cons.mp nd
  have I1:Inv X pins σ (upd H a (.tup [.str p.1,p.2])) s:=I.trackF fa ⟨by show 2<=sizeLine;decide,[.str p.1 t,u],.cons ⟨t,rfl⟩ (.cons ru .nil),_,e,rfl,0,rfl⟩
  obtain⟨H',I',s',pr⟩:=Zfu as ps _ I1 nd'.2 (by simpa using hl) (λb hb=>(hf b (mem_cons_of_mem _ hb)).off λz=>nd'.1 (z ▸ hb)) (λi b q hb hq=>hp (i+1) b q (by simpa using hb) (by simpa using hq))
  refine⟨H',I',(Zhm fa.1).trans s',hl,λi b q hb hq=>?_⟩
  cases i with
  | zero=>
   cases hb
   cases hq
   exact s' _ _ Zad
  | succ i=>exact pr.2 i b q (by simpa using hb) (by simpa using hq)
def ltP (zs:List (Str×V)):Bool:=(zs.zip zs.tail).all λq=>decide (q.1.1.cps.toList<q.2.1.cps.toList)
theorem call_sortedI (hc:X.calm=true):Zcq X (.builtin "sorted") (λxs H Q=>∃(v d:Addr) (ps:List (Str×V)),xs=[.ref v]/\H v=some (Zch v d)/\H d=some (.dK (ps.map λp=>(Sum.inr p.1,p.2)))/\ps.length<=3 /\
  ∀(l:Addr) (as:List Addr) (zs:List (Str×V)) (H':Hp),Same H H'->H l=none->zs.Perm ps->ltP zs=true->H' l=some (.lst (as.map V.ref))->PrAt H' as zs->Q (.ref l) H'):=by
 intro pins s σ H xs us Q I r h
 obtain⟨v,d,ps,rfl,hv,hd,h3,q⟩:=h
 obtain⟨u,rfl,ru⟩:=Zc5 r
 cases ru
 obtain⟨hz,hm,vs,hkv,o,es,ep,ho,ex,hdd,hK,hP,hnd⟩:=Znt I.hok hd
 have hat:s.heap.DictAt (Za0 X.prog X.w) d vs ep:=⟨o,es,ho,ex,hdd,hK,hP,hnd⟩
 obtain⟨view,_,_⟩:=I.hok v _ hv
 have hl':=hkv.length
 rw[length_map]at hl'
 have hsl:sizeLine=16777216:=sizeLine_eq
 have at':∀(j:Nat) k x,vs[j]? = some (k,x)->∃p,ps[j]? = some p/\k=Sum.inr p.1/\RelV p.2 x:=λj k x hj=>by
  have hjl:=(List.getElem?_eq_some_iff.mp hj).1
  have hjp:j<ps.length:=by lia
  obtain⟨u,hu,ru⟩:=KV.get2 (i:=j) hkv (show(ps.map λp=>((Sum.inr p.1:Key),p.2))[j]? = some (Sum.inr (ps[j]).1,(ps[j]).2) by rw[getElem?_map,getElem?_eq_getElem hjp];rfl)
  rw[hj]at hu
  cases hu
  exact⟨ps[j],getElem?_eq_getElem hjp,rfl,ru⟩
 refine SI.items_sorted (knd:=Za0 X.prog X.w) (ks:=ps.map (·.1)) (I.ok.hd hc) view hat (by lia) (by rw[length_map];lia) (λj k x key hj hk=>?_) ?_ λh1 h' tk as p c ext1 hl hG hp hs ext hB=>?_
 ·obtain⟨pp,e1,e2,_⟩:=at' j k x hj
  subst e2
  rcases Za1 (show Ze4 (Sum.inr pp.1) key=true from hk)with⟨i,t,e1',e2⟩ | ⟨y,t,e1',e2⟩
  ·cases e1'
  cases e1'
  exact⟨_,t,by rw[getElem?_map,e1];rfl,e2⟩
 ·have ek:=hkv.keys
  rw[<- ek,map_map]at hnd
  have e:ps.map ((λx:Key×V=>x.1) ∘ λp=>((Sum.inr p.1:Key),p.2))=(ps.map (·.1)).map Sum.inr:=by rw[map_map];rfl
  rw[e]at hnd
  exact List.Pairwise.of_map Sum.inr (λa b h z=>h (by rw[z])) hnd
 have I1:Inv X pins σ H { s with heap:=h1,toks:=tk }:=I.kept (t':=tk) ext1
 have hf:∀a∈as,FpOk X pins H a:=λa ha=>I.fpOk (le_of_lt (hG.above a ha)) (I.hok.fresh (le_of_lt (hG.above a ha)))
 obtain⟨H2,I2,s2,pr⟩:=Zfu as ps H I1 (hG.rise.imp λz=>ne_of_lt z) (by lia) hf (λi a pp ha hpp=>by
  obtain⟨key,k,x,e1,e2,e3⟩:=hG.pairs i a ha
  obtain⟨p2,f1,f2,f3⟩:=at' i k x e1
  rw[hpp]at f1
  cases f1
  subst f2
  rcases Za1 (show Ze4 (Sum.inr pp.1) key=true from e2)with⟨i',t,g1,g2⟩ | ⟨y,t,g1,g2⟩
  ·cases g1
  cases g1
  rw[g2]at e3
  exact⟨x,t,f3,e3⟩)
 have hpr:∀i∈p,i<as.length:=λi hi=>by
  have:=mem_range.mp (hp.mem_iff.mp hi)
  lia
 have hplen:p.length=as.length:=by rw[hp.length_eq,length_range,hl]
 have vals:∀q:List Nat,(∀i∈q,i<as.length)->Vals ((q.map λi=>as.getD i 0).map V.ref) (q.map λi=>(as.map Value.ref).getD i Value.none):=λq=>by
  induction q with
  | nil=>exact λ_=>.nil
  | cons i q ih=>
   intro hq
   have hi:=hq i mem_cons_self
   refine .cons ?_ (ih λj hj=>hq j (mem_cons_of_mem _ hj))
   have e1:as.getD i 0=as[i]:=by simp[getD_eq_getElem?_getD,hi]
   have e2:(as.map Value.ref).getD i Value.none=.ref as[i]:=by simp[getD_eq_getElem?_getD,hi]
   show RelV (.ref (as.getD i 0)) ((as.map Value.ref).getD i Value.none)
   rw[e1,e2]
   rfl
 have fr2:H2 h1.objs.size=none:=I2.hok.fresh (Nat.le_refl _)
 have I3:Inv X pins σ (upd H2 h1.objs.size (.lst ((p.map λi=>as.getD i 0).map V.ref))) { s with heap:=h',toks:=tk }:=
  I2.laid (t':=tk) (a:=h1.objs.size) (o:=.lst ((p.map λi=>as.getD i 0).map V.ref)) ext (Nat.le_refl _) ⟨by rw[length_map,length_map];lia,_,c,vals p hpr,hB⟩
 refine⟨.ref h1.objs.size,_,I3,rfl,q _ (p.map λi=>as.getD i 0) (p.map λi=>ps.getD i (Str.empty,.non)) _ (s2.trans (Zhm fr2)) (I1.hok.fresh (Nat.le_refl _)) ?_ ?_ Zad ⟨by rw[length_map,length_map],λi a z ha hz=>?_⟩⟩
 ·refine(hp.map _).trans ?_
  have e:(List.range vs.length).map (λi=>ps.getD i (Str.empty,.non))=ps:=by
   refine ext_getElem (by simp[hl']) λk h1 h2=>?_
   simp[getD_eq_getElem?_getD,h2]
  rw[e]
 ·unfold ltP
  rw[<- List.map_tail,List.zip_map,List.all_map]
  rw[all_eq_true]at hs ⊢
  intro x hx
  have:=hs x hx
  unfold SI.lt at this
  have eg:∀i,(ps.map (·.1)).getD i Str.empty=(ps.getD i (Str.empty,.non)).1:=λi=>by
   (rw[getD_eq_getElem?_getD,getD_eq_getElem?_getD,getElem?_map])
   cases ps[i]? <;> rfl
  rw[eg,eg]at this
  exact this
 rw[getElem?_map]at ha hz
 cases hk:p[i]? with
 | none=>rw[hk]at ha;cases ha
 | some k=>
  rw[hk]at ha hz
  have hka:=hpr k (mem_of_getElem? hk)
  have ea:as[k]? = some a:=by
   have e9:as.getD k 0=a:=Option.some.inj ha
   rw[<- e9,getD_eq_getElem?_getD,getElem?_eq_getElem hka]
   rfl
  have ez:ps[k]? = some z:=by
   have e9:ps.getD k (Str.empty,.non)=z:=Option.some.inj hz
   rw[<- e9,getD_eq_getElem?_getD,getElem?_eq_getElem (by lia)]
   rfl
  exact Zhm fr2 _ _ (pr.2 k a z ea ez)
end
end L2
namespace L2
open PySem PySem.Spec PyProof.Rows PySem.W
end L2
namespace L2
open PySem PyProof.Rows
section
variable {X:Cx}
theorem mt_itemsR:MtR X "dict.items" (λx xs H Q=>∃a kvs,x=.ref a/\xs=[]/\Rd H a (.dK kvs)/\∀v,H v=none->Q (.ref v) (upd H v (Zch v a))):=by
 intro pins s σ H x xs v us Q I rx rv h
 obtain⟨a,kvs,rfl,rfl,ha,q⟩:=h
 cases rx
 cases rv
 obtain⟨hz,hm,vs,hkv,hd⟩:=Zje I.hok ha
 refine call_meetsIn PySem.F.slot_dict_items hd.typeIs PySem.F.entry_dict_items (PySem.F.args_dict_items_1 _) (meets_dict_items (Za0 X.prog X.w) a hm) ⟨⟨vs,hd⟩,?_⟩
 refine⟨.ref s.heap.objs.size,_,I.laid (t':=s.toks) (o:=Zch s.heap.objs.size a) (λb o e=>Heap.get?_push_of_some _ e) (Nat.le_refl _) ⟨⟨_,Heap.get?_push_size _ rfl,rfl,rfl⟩,⟨_,Heap.get?_push_size _ rfl⟩,λh1 h2 f e=>?_⟩,rfl,q _ (I.hok.fresh (Nat.le_refl _))⟩
 obtain⟨o,ho,r⟩:=f
 exact⟨o,e o ho,r⟩
def tItems (to:TE):TE:=λσ H Q=>to σ H λx H1=>∃a kvs,x=.ref a/\Rd H1 a (.dK kvs)/\∀v,H1 v=none->Q (.ref v) (upd H1 v (Zch v a))
theorem Zhw {o:Expr}{to:TE}{apos cpos:Pos}(ho:PE X o to)(hbase:attributeBase o "items" X.env (eval o X.env)=eval o X.env:=by rfl)(hline:(apos.endLine == cpos.line)=true:=by rfl):PE X (.Call (.Attribute o "items" apos) [] [] cpos) (tItems to):=by
 intro pins s σ H Q I h
 refine wpAny_Call_method0_late hbase hline (thn (ho pins s σ H _ I h) λv s1 hp0=>?_)
 obtain⟨x,H1,I1,r1,a,kvs,e,rd,q⟩:=hp0
 subst e
 cases r1
 obtain⟨h1,h2,_⟩:=Zoc I1 (.inl ⟨_,rd⟩)
 exact⟨"dict", "dict.items",PySem.F.plainAttrs_dict,PySem.F.slot_dict_items,PySem.F.type_dict_items,h1,h2,Calls.callWith_builtin rfl (PySem.evalArgs_none (mt_itemsR pins s1 σ H1 (.ref a) [] _ [] Q I1 rfl .nil ⟨a,kvs,rfl,rfl,rd,q⟩))⟩
def iItemsR (tl:TE):TI:=λσ H R=>tl σ H λx H1=>∃v a kvs,x=.ref v/\H1 v=some (Zch v a)/\((H1 a=some (.dK kvs)/\∀o,R (Iti a o kvs) (upd H1 a (.frz o (.dK kvs))))\/∃o,H1 a=some (.frz o (.dK kvs))/\R (Iti a o kvs) H1)
theorem Zgc {elts:List Expr}{x1}{tp:Pos}{l:Expr}{tl:TE}(hl:PE X l tl):PI X (.Tuple elts x1 tp) l (iItemsR tl):=by
 intro pins s σ H R I h
 refine thn (hl pins s σ H _ I h) λu s1 hp0=>?_
 obtain⟨x,H1,I1,r1,q1⟩:=hp0
 obtain⟨v,a,kvs,rfl,hv,q⟩:=q1
 cases r1
 obtain⟨view,_,_⟩:=I1.hok v _ hv
 rcases q with⟨ha,q⟩ | ⟨o0,ha,q⟩
 ·obtain⟨hz,hm,vs,hkv,o,es,ep,ho,ex,hd,r⟩:=Znt I1.hok ha
  have hat:s1.heap.DictAt (Za0 X.prog X.w) a vs ep:=⟨o,es,ho,ex,hd,r⟩
  have hl':=hkv.length
  refine wpAny_pyIter_items (knd:=Za0 X.prog X.w) view hat ⟨s1.heap.objs.size,[s1.heap.objs.size],_,_,upd H1 a (.frz o (.dK kvs)),rfl,(I1.freeze ha ho).kept (t':=s1.toks) (λb o e=>Heap.get?_push_of_some _ e),Zg4 _ a o kvs es ep hd,⟨.none,.none,?_⟩,λb hb=>?_,q o⟩
  ·rw[hl']
   exact Heap.get?_push_size _ rfl
  have e:b=s1.heap.objs.size:=by simpa using hb
  subst e
  exact(I1.freeze ha ho).fpOk (Nat.le_refl _) ((I1.freeze ha ho).hok.fresh (Nat.le_refl _))
 obtain⟨ho,hz,hm,vs,hkv,o',es,ep,ho',ex,hd,r⟩:=I1.hok a _ ha
 rw[ho]at ho'
 cases ho'
 have hat:s1.heap.DictAt (Za0 X.prog X.w) a vs ep:=⟨o0,es,ho,ex,hd,r⟩
 have hl':=hkv.length
 refine wpAny_pyIter_items (knd:=Za0 X.prog X.w) view hat ⟨s1.heap.objs.size,[s1.heap.objs.size],_,_,H1,rfl,I1.kept (t':=s1.toks) (λb o e=>Heap.get?_push_of_some _ e),Zg4 _ a o0 kvs es ep hd,⟨.none,.none,?_⟩,λb hb=>?_,q⟩
 ·rw[hl']
  exact Heap.get?_push_size _ rfl
 have e:b=s1.heap.objs.size:=by simpa using hb
 subst e
 exact I1.fpOk (Nat.le_refl _) (I1.hok.fresh (Nat.le_refl _))
end
end L2
namespace L2
open PySem PySem.Spec PyProof.Rows PySem.W
section
variable {X:Cx}
def rSlS:V->Option Int->Option Int->Hp->VK->Prop:=λx lo hi H Q=>∃z,x=.str z/\z.length<=sizeLine/\Q (.str (Txt.slice z lo hi)) H
theorem IsPart.ex {v:Value}{o:Option Int}(p:IsPart v o):∃q:Option (Int×Tok),v=partValue q/\q.map (·.1)=o:=by
 cases p with
 | none=>exact⟨none,rfl,rfl⟩
 | int i t=>exact⟨some (i,t),rfl,rfl⟩
theorem Zny:SlR X rSlS:=by
 intro pins s σ H x v vl vu lo hi sl Q I rx hs pl pu h
 obtain⟨z,rfl,hz,q⟩:=h
 obtain⟨t,rfl⟩:=rx
 obtain⟨ql,rfl,rfl⟩:=IsPart.ex pl
 obtain⟨qu,rfl,rfl⟩:=IsPart.ex pu
 refine⟨"str",_,F.slot_str_getitem.lookup,typeIs_str _ _ _,wpAny_getItem_str_slice (l:=ql) (u:=qu) (st:=none) hs rfl ?_⟩
 exact post_val_or_str ⟨le_trans (Txt.slice_le z _ _) hz,λt' k=>⟨.str _,H,I.tok _,⟨_,rfl⟩,q⟩⟩
def tTru (t:TE):TT:=λσ H Q=>t σ H λx H'=>∃i,x=.int i/\Q (i != 0) H'
theorem Zl5 {a:Expr}{ta:TE}(ha:PE X a ta)(he:∀whole,isTrue a X.env whole=(do let v <- whole;standAt a.pos;holding [v] (truthy v)):=by intro _;rfl):PT X a (tTru ta):=by
 intro pins s σ H Q I h
 refine isTrue_plain (thn (ha pins s σ H _ I h) λv s1 hp0=>?_) (he _)
 obtain⟨x,H1,I1,r1,q1⟩:=hp0
 obtain⟨i,rfl,q⟩:=q1
 exact tru_ok pins s1 σ H1 _ v Q I1 r1 ⟨_,rfl,q⟩
theorem Zhi:Zcq X (.builtin "isinstance") (λxs H Q=>(∃a ys,xs=[.ref a,.ty "list"]/\H a=some (.lst ys)/\Q (.bl true) H)\/(∃z,xs=[.str z,.ty "list"]/\Q (.bl false) H)\/(xs=[.non,.ty "list"]/\Q (.bl false) H)):=by
 intro pins s σ H xs us Q I r h
 rcases h with⟨a,ys,rfl,ha,q⟩ | ⟨z,rfl,q⟩ | ⟨rfl,q⟩
 ·exact Zjl pins s σ H _ us Q I r ⟨a,ys,rfl,ha,q⟩
 ·obtain⟨u1,u2,rfl,r1,r2⟩:=Zlr r
  obtain⟨t,rfl⟩:=r1
  cases r2
  exact PySem.IsiPair.str_list ⟨.bl false,H,I.tok _,rfl,q⟩
 obtain⟨u1,u2,rfl,r1,r2⟩:=Zlr r
 cases r1
 cases r2
 exact PySem.IsiPair.NoneType_list ⟨.bl false,H,I.tok _,rfl,q⟩
end
end L2
namespace DPT
open PySem PyProof.Rows
end DPT
namespace L2
open PySem PySem.Spec PyProof.Rows PySem.W
section
variable {X:Cx}
theorem call_tupF:Zcq X (.type "tuple") (λxs H Q=>∃p ys,xs=[.ref p]/\SqL X.K H p ys/\∀l o,H l=none->o.dict=none->Q (.ref l) (upd H l (.frz o (.tup ys)))):=by
 intro pins s σ H xs us Q I r h
 obtain⟨p,ys,rfl,hq,q⟩:=h
 obtain⟨u,rfl,rx⟩:=Zc5 r
 cases rx
 obtain⟨its,r',pl,hz⟩:=I.list hq
 have hlen:=r'.length
 refine call_tuple_list pl.isList (λh' kp=>?_) (by simp only[size_toArray] <;> lia)
 have I1:Inv X pins σ H { s with heap:=h' }:=I.kept (t':=s.toks) kp
 have I2:Inv X pins σ (upd H h'.objs.size (.frz { cls:=.type "tuple",data:=.seq its.toArray } (.tup ys))) { s with heap:=h'.push { cls:=.type "tuple",data:=.seq its.toArray } }:=
  I1.laid (t':=s.toks) (λb o e=>Heap.get?_push_of_some _ e) (Nat.le_refl _) (show ObjOk X.prog X.w _ _ _ (.frz _ (.tup ys)) from ⟨Heap.get?_push_size _ rfl,hz,its,r',IsTup.new _ _⟩)
 exact⟨.ref h'.objs.size,_,I2,rfl,q _ _ (I1.hok.fresh (Nat.le_refl _)) rfl⟩
end
end L2
namespace RV
open PySem PyProof.Rows
end RV
namespace L2
open PySem PySem.Spec PyProof.Rows PySem.W
end L2
namespace L2
open PySem PySem.Spec PyProof.Rows PySem.W Builtin Builtin.ObjectAttr
end L2
namespace L2
open PySem PySem.Spec PyProof.Rows PySem.W
end L2
namespace L2
open PySem PySem.W PyProof.Rows
end L2
namespace L2
open PySem PySem.Spec PyProof.Rows PySem.W
section
variable {X:Cx}
def tMakeO (C:Addr):TE:=λ_ H Q=>∀x dx,H x=none->H dx=none->dx≠x->Q (.ref x) (upd (upd H dx (.own x)) x (.ins C dx []))
theorem pe_makeO {C:Addr}{x:Str}{p pos:Pos}(mk:makesIn X.K C=true)(hi:findIn X.K (.ref C) "__init__" = some (some (.builtin "object.__init__")))(so:subIn X.K (.ref C) (.type "object")=some true)(kp:keepIn X.K (.ref C)=true)(hg:Gl X x)(hm:X.mg x=some (.ref C))(hdb:(x == ("__debug__" : Str))=false:=by decide) :
  PE X (.Call (.Name x p) [] [] pos) (tMakeO C):=by
 intro pins s σ H Q I h
 refine wpAny_Call_Name_kw (Zgp I hg hm ?_ hdb)
 refine PySem.W.callWith_K0 I.kIn kp (wpAny_call (make_map0 I.kIn mk hi (λself=>Looks.of_pure (oi_bind self)) ?_))
 have I2:=Inv.made (C:=C) I
 have hq:=h (s.heap.objs.size+1) s.heap.objs.size (I.hok.fresh (le_succ _)) (I.hok.fresh (Nat.le_refl _)) (ne_of_lt (lt_succ_self _))
 have at1:((s.heap.push emptyDict).push (instObj C s.heap.objs.size)).get? (s.heap.objs.size+1)=some (instObj C s.heap.objs.size):=by
  have z:=Heap.get?_push_size (s.heap.push emptyDict) (o:=instObj C s.heap.objs.size) rfl
  rwa [Heap.size_push]at z
 have ty:Looks (model X.prog X.w) ((s.heap.push emptyDict).push (instObj C s.heap.objs.size)) (typeOf (.ref (s.heap.objs.size+1))) (.ref C):=(Looks.ld at1).andThen .now
 have inst:Looks (model X.prog X.w) ((s.heap.push emptyDict).push (instObj C s.heap.objs.size)) (isInstance (.ref (s.heap.objs.size+1)) (.type "object")) true:=ty.andThen (looks_subIn I2.kIn so)
 refine codeAny_call_builtin oi_plain entry_oi (@check_slot (model X.prog X.w) _ _ { s with heap:=(s.heap.push emptyDict).push (instObj C s.heap.objs.size) } "object.__init__" "object" "__init__" (.ref (s.heap.objs.size+1)) [] [] _ oi_kind oi_split inst (oi_args _) ?_)
 rw[oi_run]
 exact wpAny_pure ⟨rfl,.ref (s.heap.objs.size+1),_,I2,rfl,hq⟩
def tMethV (V':Addr->Sp->Prop)(m:Str)(ta:TE):TE:=λσ H Q=>ta σ H λx H1=>∃(a C dx:Addr) (fs:List (Str×V)) (sp:Sp),x=.ref a/\H1 a=some (.ins C dx fs)/\fs.lookup m=none/\V' C sp/\sp [.ref a] H1 Q E0
theorem pe_methV {V':Addr->Sp->Prop}{m:Str}{o:Expr}{apos pos:Pos}{ta:TE}{pl:Sem Bool}(he:PE X o ta)
  (hV:∀C sp,V' C sp->∃(k:Nat) (f:Addr) (fd:FuncData) (ps:List Str),Cls X.K C/\Meth X.K C m f/\FnOk X.prog X.w X.K X.mg X.base CX0 k f fd ps sp/\Room k X.A/\Binds X.K fd ps [])
  (ht:eval (.Call (.Attribute o m apos) [] [] pos) X.env=(do
   let ov <- eval o X.env
   standAt apos.atName
   let (f,first) <- holding [ov] (getMethod ov m pl)
   callWith pos f first (backTo pos (starEach [] X.env)) (backToKw pos (keywordEach [] X.env))):=by rfl) :
  PE X (.Call (.Attribute o m apos) [] [] pos) (tMethV V' m ta):=by
 intro pins s σ H Q I h
 refine PySem.W.methodCall_KW (pl:=pl) (thn (he pins s σ H _ I h) λu s1 hp0=>?_) ht
 obtain⟨x,H1,I1,rx,a,C,dx,fs,sp,ex,ea,l,v,q⟩:=hp0
 subst ex
 obtain rfl:u=Value.ref a:=rx
 obtain⟨k,f,fd,ps,c,hm,F,hr,hb⟩:=hV C sp v
 refine Ze7 I1 ea c hm l ?_
 exact PySem.W.callWith_K0 (first:=[.ref a]) I1.kIn hm.kp (Zkq (us:=[.ref a]) (vs:=[.ref a]) F hr hb .nil Zak I1 (.cons rfl .nil) q)
end
def ItlR (K:W.Frag)(a:Addr)(n:Nat):It:=
 ⟨λi H=>i<n/\∃xs x,SqL K H a xs/\xs[n-1-i]? = some x,λi H x H'=>H'=H/\∀xs,SqL K H a xs->xs[n-1-i]? = some x,λi H=>n<=i⟩
theorem turn_listR {P:Program}{w:World}{K:W.Frag}{tg:Expr}(a it:Addr)(n:Nat):Turn P w K tg (ItlR K a n) [it] it (λi h=>i<=n/\h.IsRevIter it a ((n:Int)-1-(i:Int))) where
 mem:=by simp
 obj:=λi h st b hb=>by
  have e:b=it:=by simpa using hb
  subst e
  obtain⟨_,o,e,c,d⟩:=st
  exact⟨o,e,λv z=>by rw[d]at z;cases z⟩
 keep:=λi h h' st k=>⟨st.1,st.2.at λo e=>k it (by simp) o e⟩
 item:=by
  intro X hP hw hK hc i pins s σ H E I hf st hg
  subst hP hw hK
  obtain⟨hi,xs,x,hq,hx⟩:=hg
  obtain⟨its,rv,p,hz⟩:=I.list hq
  obtain⟨u,hu,ru⟩:=rv.get hx
  obtain⟨f0,f1,f2,f3,f4,f5⟩:=hf it (by simp)
  have e0:(n:Int)-1-(i:Int)=((n-1-i:Nat):Int):=by lia
  have st2:=st.2
  rw[e0]at st2
  refine wpAny_pyNext_rev_item st2 p.isList (x:=u) (by simpa using hu) λh' st' sb=>?_
  have I1:Inv X pins σ H { s with heap:=h' }:=I.turned (t':=s.toks) (λb o hb e=>(sb.2 b hb).trans e) f0 f1 f3 f4 f5
  obtain⟨o,e,c,d⟩:=id st'
  have e1:((n-1-i:Nat):Int)-1=(n:Int)-1-((i+1:Nat):Int):=by lia
  rw[e1]at st'
  exact⟨u,rfl,Zmw (s:={ s with heap:=h' }) e c d (by decide) ⟨x,H,I1,ru,⟨rfl,λys hy=>by rw[I.list_inj hy hq];exact hx⟩,⟨hi,st'⟩,λb hb=>(hf b hb).1⟩⟩
 done:=by
  intro X hP hw hK hc i pins s σ H E I hf st hg
  subst hP hw hK
  obtain⟨f0,f1,f2,f3,f4,f5⟩:=hf it (by simp)
  have hg':n<=i:=hg
  have e0:(n:Int)-1-(i:Int)=-1:=by have:=st.1;lia
  have st2:=st.2
  rw[e0]at st2
  exact wpAny_pyNext_rev_end (I.ok.hd hc) st2 λh' eb=>⟨rfl,I.turned (t':=s.toks) (λb o hb e=>eb b o hb e) f0 f1 f3 f4 f5⟩
 self:=λ_ _ _ _ _ st h=>wpAny_pyIter_revIter st.2 h
section
variable {X:Cx}{tg:Expr}
def iRevL (K:W.Frag)(ta:TA):TI:=λσ H R=>ta σ H λvs H1=>∃a xs,vs=[.ref a]/\SqL K H1 a xs/\R (ItlR K a xs.length) H1
theorem pi_revL {a:Expr}{ta:TA}{p2 pos2:Pos}(hgr:Gl X "reversed")(hmr:X.mg "reversed" = none)(hvr:bootBuiltins "reversed" = some (.type "reversed"))(ha:PA X [a] ta)(hs:starEach [a] X.env=[(false,eval a X.env)]:=by rfl) :
  PI X tg (.Call (.Name "reversed" p2) [a] [] pos2) (iRevL X.K ta):=by
 intro pins s σ H R I h
 refine Call_ (Zdt I hgr hmr hvr (PyProof.Rows.callWith_type1 (thn (ha pos2 pins s σ H _ I h) λus s1 hp0=>?_) (by rw[hs];rfl) (by rfl)))
 obtain⟨vs,H1,I1,r1,q1⟩:=hp0
 obtain⟨l,xs,rfl,hq,q⟩:=q1
 obtain⟨u,rfl,ru⟩:=Zc5 r1
 cases ru
 obtain⟨its,rv,p,hz⟩:=I1.list hq
 have hl:=rv.length
 refine call_reversed_list p.isList ?_
 have e1:((its.toArray.size:Nat):Int)-1=(xs.length:Int)-1:=by simp;lia
 rw[e1]
 have st:(s1.heap.push (revObj l ((xs.length:Int)-1))).IsRevIter s1.heap.objs.size l ((xs.length:Int)-1):=⟨_,Heap.get?_push_size _ rfl,rfl,rfl⟩
 refine wpAny_pyIter_revIter (s:={ s1 with heap:=s1.heap.push (revObj l ((xs.length:Int)-1)) }) st ?_
 refine⟨s1.heap.objs.size,[s1.heap.objs.size],_,_,H1,rfl,I1.kept (t':=s1.toks) λb o e=>Heap.get?_push_of_some _ e,turn_listR l _ xs.length,⟨zero_le _,?_⟩,λb hb=>?_,q⟩
 ·have e2:(xs.length:Int)-1-((0:Nat):Int)=(xs.length:Int)-1:=by lia
  rw[e2]
  exact st
 have e:b=s1.heap.objs.size:=by simpa using hb
 subst e
 exact I1.fpOk (Nat.le_refl _) (I1.hok.fresh (Nat.le_refl _))
theorem for_listR {K:W.Frag}{a:Addr}{xs:List V}{g:TG}{tb:TS}{D:Ends}{σ:St}{H:Hp}(Pv:Nat->St->Hp->Prop)(h0:Pv 0 σ H)(hl:∀i σ H,i<=xs.length->Pv i σ H->SqL K H a xs)
  (hs:∀i x σ H,xs.reverse[i]? = some x->Pv i σ H->g x σ H λσ2 H2=>tb { D with nx:=Pv (i+1),ct:=Pv (i+1),bk:=D.nx } σ2 H2)(hd:∀σ H,Pv xs.length σ H->D.nx σ H) :
  ∃W:Nat->Nat->St->Hp->Prop,(∃m,W 0 m σ H)/\∀i m σ H,W i m σ H ->
   ((ItlR K a xs.length).stop i H/\D.nx σ H)\/((ItlR K a xs.length).go i H/\∃N:St->Hp->Prop,(∀σ' H',N σ' H'->∃m',m'<m/\W (i+1) m' σ' H')/\∀x H',(ItlR K a xs.length).yld i H x H'->g x σ H' λσ2 H2=>tb { D with nx:=N,ct:=N,bk:=D.nx } σ2 H2):=by
 refine⟨λi m σ H=>m=xs.length-i/\i<=xs.length/\Pv i σ H,⟨xs.length,by simp,zero_le _,h0⟩,?_⟩
 rintro i m σ H ⟨rfl,hi,p⟩
 have q:=hl i σ H hi p
 by_cases hlt:i<xs.length
 ·refine .inr ⟨⟨hlt,xs,xs[xs.length-1-i],q,by rw[getElem?_eq_getElem (by lia)]⟩,Pv (i+1),λσ' H' p'=>⟨xs.length-(i+1),by lia,rfl,hlt,p'⟩,λx H' y=>?_⟩
  obtain⟨e,y⟩:=y
  subst e
  exact hs i x σ _ (by rw[List.getElem?_reverse hlt];exact y xs q) p
 have e:i=xs.length:=by lia
 subst e
 exact .inl ⟨Nat.le_refl _,hd σ H p⟩
end
theorem pe_never {X:Cx}{e:Expr}:PE X e (λ_ _ _=>False):=λ_ _ _ _ _ _ h=>h.elim
end L2
namespace L2
open PySem
end L2
namespace L2
open PySem PyProof.Rows
end L2
namespace L2
open PySem PySem.Spec PyProof.Rows
structure FunD (K:W.Frag)(x qual:Str)(st:Stmt)(f:Addr)(fd:FuncData)(T:Addr):Prop where
 ex:∃(oc:Value) (od:Option Addr) (kV doc pm:Value) (an:Option Addr) (cdv ct:Value) (osl:Array (Option Value)),
  fd=PySem.W.fnOf x qual (Zbk st) (Zbe st) (Zaf st) (.ref T) kV doc pm an cdv ct/\K.lookup f=some ⟨oc,od,.func fd,osl⟩/\PySem.W.codeIn K cdv qual=true
section
variable {P:Program}{w:World}{K:W.Frag}{mg:Str->Option Value}{base:Heap}
theorem FunD.ok {x qual:Str}{st:Stmt}{f T:Addr}{fd:FuncData}{N ps:List Str}{k:Nat}{sp:Sp}(F:FunD K x qual st f fd T)(S:FnScope N ps (Zaf st))(len:∀vs H Q E,sp vs H Q E->vs.length=ps.length)
  (hbody:∀(cdv:Value) (A:Around) (outer:List Env) (s:Shared) (H:Hp) (vs:List V) (Q:VK) (E:XK),Room k (A.deeper (envOfC qual (Zaf st) s.heap.objs.size f cdv))->sp vs H Q E ->
   ∃t,PSs (cxOf CX0 P w K mg base N qual (Zaf st) f cdv A outer s H E).nox (Zbe st) t/\t { nx:=λ_ H'=>Q .non H',rt:=Q } (Zgy N vs) H):FnOk P w K mg base CX0 (k+1) f fd ps sp:=by
 obtain⟨oc,od,kV,doc,pm,an,cdv,ct,osl,e,lk,hcd⟩:=F.ex
 subst e
 exact fn_of lk hcd S len λA outer s H vs Q E hr hsp=>(hbody cdv A outer s H vs Q E hr hsp).imp λt z=>⟨z.1.nox,z.2⟩
theorem FunD.binds {x qual:Str}{st:Stmt}{f T:Addr}{fd:FuncData}{ps:List Str}{oc:Value}{od:Option Addr}{items:Array Value}{n:Nat}{sl:Array (Option Value)}(F:FunD K x qual st f fd T)(lT:K.lookup T=some ⟨oc,od,.seq items n,sl⟩)
  (h:∀(kV doc pm:Value) (an:Option Addr) (cdv ct:Value) (us:List Value),us.length=ps.length->∃k,bindArgs (PySem.W.fnOf x qual (Zbk st) (Zbe st) (Zaf st) (.ref T) kV doc pm an cdv ct) ⟨us,[]⟩=seqItems? (.ref T) >>= k/\k (some items)=pure (ps.zip us)):Binds K fd ps []:=by
 obtain⟨oc',od',kV,doc,pm,an,cdv,ct,osl,e,lk,hcd⟩:=F.ex
 subst e
 intro s us KX hl
 rw[append_nil]at hl ⊢
 obtain⟨k,h1,h2⟩:=h kV doc pm an cdv ct us hl
 exact PySem.W.binds_K KX rfl lT rfl h1 h2
theorem funD_mk {x qual:Str}{st:Stmt}{f T:Addr}{oc:Value}{od an:Option Addr}{osl:Array (Option Value)}{kV doc pm cdv ct:Value}(l:K.lookup f=some ⟨oc,od,.func (PySem.W.fnOf x qual (Zbk st) (Zbe st) (Zaf st) (.ref T) kV doc pm an cdv ct),osl⟩)
  (c:PySem.W.codeIn K cdv qual=true):FunD K x qual st f (PySem.W.fnOf x qual (Zbk st) (Zbe st) (Zaf st) (.ref T) kV doc pm an cdv ct) T:=⟨⟨oc,od,kV,doc,pm,an,cdv,ct,osl,rfl,l,c⟩⟩
end
end L2
namespace L2
open PySem PySem.Spec PyProof.Rows PySem.W
structure NIs (K:W.Frag)(D:Addr):Prop where
 hd:hasDictIn K D=true
 hg:plainGet K D "__class__" = true
 ha:findIn K (.ref D) "__class__" = some (some (.builtin "object.__class__"))
 hn:specialIn K (.builtin "object.__class__") "__get__" = some (some (.builtin "getset_descriptor.__get__"))
 ht:takesIn K (.builtin "object.__class__")=some true
 hm:PySem.W.mroIn K D (.type "object")=some true
theorem Zco {X:Cx}:Zcq X (.builtin "isinstance") (λxs H Q=>∃(a D C' dx:Addr) (fs:List (Str×V)),xs=[.ref a,.ref C']/\H a=some (.ins D dx fs)/\((isIn X.K (.ref D) C'=true/\Q (.bl true) H)\/(NIs X.K D/\kin_not X.K D C'=true/\Q (.bl false) H))):=by
 intro pins s σ H xs us Q I r h
 obtain⟨a,D,C',dx,fs,rfl,ha,q⟩:=h
 obtain⟨u1,u2,rfl,r1,r2⟩:=Zlr r
 cases r1
 cases r2
 rcases q with⟨hb,q⟩ | ⟨n,hb,q⟩
 ·obtain⟨_,_,_,ho,_⟩:=I.hok a _ ha
  exact isi_call I.kIn (λM=>(Looks.ld ho).andThen .now) hb (by intro z;cases z) ⟨.bl true,H,I,rfl,q⟩
 obtain⟨mA,O,_⟩:=Ze6 I.hok ha
 obtain⟨od,O',_⟩:=O.look
 exact kin_callC I.kIn O' hb n.hg n.hd n.ha n.hn n.ht n.hm ⟨.bl false,H,I.tok _,rfl,q⟩
def tTry0 (sp:Sp)(t:TA):TS:=λD σ H=>t σ H λvs H1=>sp vs H1 (λ_ H2=>D.nx σ H2) E0
theorem ps_try0 {X:Cx}{f:Addr}{k:Nat}{fd:FuncData}{ps:List Str}{sp:Sp}{y:Str}{p pos1 pos2 pos:Pos}{e:Expr}{es:List Expr}{h₀:ExceptHandler}{hs:List ExceptHandler}{t:TA}(F:FnOk X.prog X.w X.K X.mg X.base CX0 k f fd ps sp)(hr:Room k X.A)(hgf:Gl X y)(hmf:X.mg y=some (.ref f))
  (hkf:keepIn X.K (.ref f)=true)(hb:Binds X.K fd ps [])(ha:∀pn xe,PA (X.at' pn xe) (e::es) t)(hdf:(y == ("__debug__" : Str))=false:=by decide)(he:starEach (e::es) X.env=(false,eval e X.env)::starEach es X.env:=by rfl)(hpl:(backTo pos1 (starEach es X.env)).any (·.1)=false:=by rfl)
  (hsw:swapsWith (.Call (.Name y p) (e::es) [] pos1) none pos2.line X.env=pure false:=by rfl):PS X (.Try [.Expr (.Call (.Name y p) (e::es) [] pos1) pos2] (h₀::hs) [] [] pos) (tTry0 sp t):=by
 intro pins s σ H D I hw
 have J:Inv (X.at' (X.pn++pins) λ_ _=>False) [] σ H s:=I.at' _
 have body:wpAny (model X.prog X.w) X.A (execs [.Expr (.Call (.Name y p) (e::es) [] pos1) pos2] X.env) (λfl s1=>fl=.next/\∃H2,Inv X pins σ H2 s1/\D.nx σ H2) (λ_ _=>False) s:=by
  refine wpAny_execs_cons (wpAny_Expr_any ?_ I.quiet hsw)
  refine wpAny_Call_Name_kw (Zgp (X:=X.at' (X.pn++pins) λ_ _=>False) J hgf hmf ?_ hdf)
  refine PySem.W.callWith_K (h₀:=X.base) I.ok.mod.kin hkf (thn (ha (X.pn++pins) (λ_ _=>False) pos1 [] s σ H _ J hw) λus s1 hp0=>?_) he hpl
  obtain⟨vs,H1,J1,r,q⟩:=hp0
  refine⟨J1.kIn,?_⟩
  have I1:Inv X pins σ H1 s1:=J1.unat I.ok
  have hl:us.length=ps.length:=by rw[<- r.length];exact F.len _ _ _ _ q
  have hbind:=hb s1 us I1.kIn (by rw[append_nil];exact hl)
  rw[append_nil]at hbind
  refine wpAny_call (codeAny_mono (F.run X.A X.stack s1 H1 ⟨us,[]⟩ us vs _ E0 hr I1.env0 hbind r q) λrs s2 hq=>?_)
  cases rs with
  | error e'=>exact False.elim hq
  | ok fl=>
   cases fl with
   | ret u=>
    obtain⟨v,H2,I2,_,q2⟩:=I1.after hq
    exact wpAny_execs_nil ⟨rfl,H2,I2,q2⟩
   | next=>exact False.elim hq
   | brk=>exact False.elim hq
   | cont=>exact False.elim hq
 refine wpAny_Try_except (wpAny_mono body (λfl s1 hp0=>?_) λe' s1 h1=>h1.elim)
 obtain⟨ef,H2,I2,q⟩:=hp0
 subst ef
 exact Zan pins s1 σ H2 D I2 q
end L2
namespace L2
open PySem PyProof.Rows
section
variable {X:Cx}
def rEqN:R2:=λx y H Q=>∃(a b:Addr) (xs:List V),x=.ref a/\y=.ref b/\H a=some (.lst xs)/\H b=some (.lst [])/\Q (.bl xs.isEmpty) H
theorem Zn6 (hu:X.A.units+64<cLine):OpR X (compareOp .Eq) rEqN:=by
 intro pins s σ H x y v u Q I rx ry h
 obtain⟨a,b,xs,rfl,rfl,ha,hb,q⟩:=h
 obtain rfl:v=Value.ref a:=rx
 obtain rfl:u=Value.ref b:=ry
 obtain⟨z1,is1,n1,r1,h1⟩:=I.hok _ _ ha
 obtain⟨z2,is2,n2,r2,h2⟩:=I.hok _ _ hb
 cases r2
 have l1:s.heap.IsList a is1.toArray:=⟨_,h1,rfl,_,rfl⟩
 have l2:s.heap.IsList b ([]:List Value).toArray:=⟨_,h2,rfl,_,rfl⟩
 cases xs with
 | nil=>
  cases r1
  exact PySem.SeqAt.RcAt.lists (e:=λ_=>true) l1 l2 rfl (by lia) (λj h _=>absurd h (Nat.not_lt_zero _)) _ _ _ _ ⟨.bl _,H,I,rfl,q⟩
 | cons y r=>
  cases r1
  exact PySem.SeqAt.RcAt.lists_lengths l1 l2 rfl (by lia) _ _ _ _ ⟨.bl _,H,I,rfl,q⟩
end
end L2
namespace SG
open PySem PySem.W PyProof.Rows L2
section
variable {prog:Program}{w:World}{A:Around}{E:Value->Shared->Prop}{s:Shared}
def sv:Value->Str
 | .str x _=>x
 | _=>Str.empty
theorem Zly:∀{vs:List Value},(∀v∈vs,∃t,v=.str (sv v) t)->StrsAre vs (vs.map sv)
 | [],_=>.nil
 | v::r,h=>by
  obtain⟨t,e⟩:=h v mem_cons_self
  rw[e]
  exact .cons _ t (Zly λx hx=>h x (mem_cons_of_mem _ hx))
theorem sorted_setS {b:Addr}{es:Array (Int×Value)}{ep:Nat}{t:SetTable}{Q:Value->Shared->Prop}(hh:A.handled=none)(g:Gd w t)(ft:t.fits es.size=true)(hz:es.size<64)(hb:s.heap.get? b=some (oSet es ep t))(hi:∀e∈es.toList,∃t,e.2=.str (sv e.2) t)
  (q:∀(h':Heap) (d:Drawn) (tk e D:Nat) (out:Array Value) (ns:List Str),StrsAre out.toList ns->ns.Perm (es.toList.map λe=>sv e.2)->sortedS ns=true->h'.get? D=some (seqObj "list" out e)->s.heap.objs.size<=D->(∀c o,s.heap.get? c=some o->h'.get? c=some o) ->
   Q (.ref D) { s with heap:=h',drawn:=d,toks:=tk }):wpAny (model prog w) A (call (.builtin "sorted") [.ref b]) Q E s:=by
 (refine Calls.call_function_entry kind_sorted plain_sorted entry_sorted (args_sorted1 _) ?_)
 unfold Builtin.«sorted»
 (refine wpAny_bind (m:=checkCount "sorted" 1 1 _) (wpAny_pure ?_))
 refine wpAny_bind (Zgw (A:=A.in1) hh g ft (by lia) hb λh1 d tk ys pm lb k1=>?_)
 have hl:ys.length=es.size:=by have:=pm.length_eq;simpa using this
 (refine wpAny_bind (wpAny_newList ?_ (by rw[sizeLine_eq];lia)))
 have ai:∀v∈ys,∃t,v=.str (sv v) t:=λv hv=>by
  obtain⟨e,he,rfl⟩:=mem_map.mp (pm.mem_iff.mp hv)
  exact hi e he
 have pi:(ys.map sv).Perm (es.toList.map λe=>sv e.2):=by
  have:=pm.map sv
  rw[map_map]at this
  exact this
 have texts:=Zly ai
 have oL:(h1.push (seqObj "list" ys.toArray 0)).get? h1.objs.size=some (seqObj "list" ys.toArray 0):=Heap.get?_push_size _ rfl
 refine wpAny_bind (wpAny_holding (wpAny_call_entry slot_list_sort ⟨_,oL,rfl⟩ entry_list_sort ?_ (args_list_sort _)))
 refine list_sort_treeK (s:={ s with heap:=h1.push (seqObj "list" ys.toArray 0),drawn:=d,toks:=tk }) strKind_oneLt oL texts.keysOf (λv₁ v₂ rest e=>keyKind_strs (by rw[<- e];exact texts)) (by lia) λst' pm so=>?_
 obtain⟨zs,z1,z2,z3⟩:=sorted_out_str texts pm so
 obtain⟨e,he⟩:=sortedHeap_at (out:=(arrOf st').map (·.2)) oL
 refine⟨_,rfl,wpAny_pure ⟨_,rfl,q _ d tk e _ _ zs z1 (z2.trans pi) z3 he lb λc o z=>?_⟩⟩
 have lc:=Heap.lt_size (k1 c o z)
 rw[sortedHeap_old (ne_of_lt lc) (by rw[size_push'];exact lt_succ_of_lt lc)]
 exact Heap.get?_push_of_some _ (k1 c o z)
end
end SG
namespace L2
open PySem PySem.W PyProof.Rows
section
variable {X:Cx}
theorem call_sortedT (hc:X.calm=true):Zcq X (.builtin "sorted") (λxs H Q=>∃(a:Addr) (ns:List Str),xs=[.ref a]/\H a=some (setG X.prog X.w a (ns.map Sum.inr))/\ns.Nodup/\ns.length<64/\∀(l:Addr) (zs:List Str),H l=none->zs.Perm ns->sortedS zs=true->Q (.ref l) (upd H l (.lst (zs.map V.str)))):=by
 intro pins s σ H xs us Q I r h
 obtain⟨a,ns,rfl,ha,nd,hz,q⟩:=h
 obtain⟨u,rfl,ru⟩:=Zc5 r
 cases ru
 obtain⟨⟨es,ep,t,ho,i⟩,_,_⟩:=I.hok a _ ha
 have sz:=i.sz
 rw[length_map]at sz
 have key:∀e∈es.toList,∃n t,n∈ns/\e.2=.str n t:=λe he=>by
  obtain⟨⟨k,hk,_⟩,_⟩:=i.el e he
  have hm:=memB_iff.mp ((i.me k).mpr ⟨e,he,hk⟩)
  obtain⟨n,hn,rfl⟩:=mem_map.mp hm
  rcases Za1 (show Ze4 (.inr n) e.2=true from hk)with⟨j,t,e1,e2⟩ | ⟨y,t,e1,e2⟩
  ·cases e1
  cases e1
  exact⟨n,t,hn,e2⟩
 have pm:(es.toList.map λe=>SG.sv e.2).Perm ns:=by
  refine SG.perm_of nd (λx hx=>?_) (by rw[length_map,Array.length_toList];lia)
  obtain⟨e,he,hk⟩:=(i.me (.inr x)).mp (memB_iff.mpr (List.mem_map_of_mem hx))
  rcases Za1 (show Ze4 (.inr x) e.2=true from hk)with⟨j,t,e1,e2⟩ | ⟨y,t,e1,e2⟩
  ·cases e1
  cases e1
  exact mem_map.mpr ⟨e,he,by rw[e2];rfl⟩
 refine SG.sorted_setS (I.ok.hd hc) i.gd i.ft (by lia) ho (λe he=>?_) λh' d tk c D out zs a1 a2 a3 a4 a5 a6=>?_
 ·obtain⟨n,t,_,e2⟩:=key e he
  exact⟨t,by rw[e2];rfl⟩
 have pz:=a2.trans pm
 have hl:=pz.length_eq
 have hs:sizeLine=16777216:=sizeLine_eq
 refine⟨.ref _,_,(I.laid (a:=D) (o:=.lst (zs.map V.str)) (t':=tk) a6 a5 ⟨by rw[length_map];lia,out.toList,c,Zil a1,by simpa using a4⟩).dr d,rfl,q _ _ (I.hok.fresh a5) pz a3⟩
end
end L2
namespace RL
open PySem PyProof.Rows
theorem lri_no_len:typeLookup (.type "list_reverseiterator") "__len__" = pure none:=by rw[typeLookup_type,builtinLookup_eq_fast];kernel_rfl
theorem lri_hint:typeLookup (.type "list_reverseiterator") "__length_hint__" = pure (some (.builtin "list_reverseiterator.__length_hint__")):=by rw[typeLookup_type,builtinLookup_eq_fast];kernel_rfl
theorem lri_self:isSubtype (.type "list_reverseiterator") (.type "list_reverseiterator")=pure true:=by rw[isSubtype_type];kernel_rfl
theorem hint_split:splitId "list_reverseiterator.__length_hint__" = some ("list_reverseiterator", "__length_hint__"):=by first | rfl | decide +kernel | kernel_rfl
section
variable {prog:Program}{w:World}{A:Around}{E:Value->Shared->Prop}{s:Shared}
theorem hint {it l:Addr}{i:Int}{Q:Bool->Shared->Prop}(hit:s.heap.IsRevIter it l i)(hQ:Q false s):wpAny (model prog w) A (Builtin.List.listLengthHint (.ref it)) Q E s:=by
 (unfold Builtin.List.listLengthHint)
 refine wpAny_bind (wpAny_specialOf hit.typeIs lri_no_len ?_)
 show wpAny _ _ (specialOf (Value.ref it) (Str.ofString "__length_hint__") >>= _) _ _ _
 refine wpAny_bind (wpAny_specialOf hit.typeIs lri_hint ?_)
 dsimp only
 rw[hint_split]
 dsimp only
 refine wpAny_bind (wpAny_isInstance hit.typeIs lri_self ?_)
 rw[if_neg (by decide),if_pos (by decide +kernel),if_neg (by decide +kernel)]
 exact wpAny_pure hQ
variable {R:Result->Shared->Prop}
theorem extend {I l:Addr}{items:Array Value}(hh:A.handled=none)(hne:l≠I)(S:Addr)(res:Value)(c₀:Nat)(hit:s.heap.IsRevIter I l ((items.size:Int)-1))(hl:s.heap.IsList l items)(hSI:S≠I)(hSl:S≠l)(hs:items.size<=sizeLine)
  (hS:s.heap.get? S=some { cls:=.type "list",data:=.seq #[] c₀ })
  (hR:∀s' acc' c',Moved (S::[I]) (λa b=>b=a) s s'->s'.heap.get? S=some { cls:=.type "list",dict:=none,data:=.seq acc' c',slots:=#[] }->ItemsOf (λi v=>items[items.size-1-i]? = some v) acc' items.size->R (.ok (.ret res)) s') :
  wpAny (model prog w) A.in1 (Builtin.List.listExtendWith (.ref S) (.ref I) res)
   (λfin s'=>match fin with | .done f=>R (.ok f) s' | .again c'=>c'.quiet=true/\codeAny (model prog w) A c' R s') (λe s'=>R (.error e) s') s:=by
 have hSf:S∉[I,l]:=λh=>by
  simp only[mem_cons,not_mem_nil,or_false]at h
  rcases h with h | h
  ·exact hSI h
  exact hSl h
 (unfold Builtin.List.listExtendWith)
 refine wpAny_bind (wpAny_typeOf hit.typeIs ?_)
 (have h1:Builtin.List.listSameRef (.ref S) (.ref I)=false:=by simp[Builtin.List.listSameRef,hSI])
 have h2:(Value.type "list_reverseiterator" == Value.type "list")=false:=by decide
 have h3:(Value.type "list_reverseiterator" == Value.type "tuple")=false:=by decide
 (simp only[h1,h2,h3,Bool.or_false,false_eq_true,if_false])
 refine wpAny_bind (wpAny_pyIter_revIter hit ?_)
 refine wpAny_bind (wpAny_holding (hint hit ?_))
 (rw[if_neg (by decide +kernel)])
 refine wpAny_pure ⟨plainId_quiet F.plain_extend_loop _,codeAny_extend_loopS (Walks.listRev (prog:=prog) (w:=w) (A:=A.in1) hh I l hne items).toS hs _ hSf _ items.size 0 _ _ _ rfl (zero_le _) ⟨zero_le _,?_,hl⟩ hS (ItemsOf.nil _) λs' acc' c' hm hS' hacc=>?_⟩
 ·rw[show(items.size:Int)-1-((0:Nat):Int)=items.size-1 by lia]
  exact hit
 exact hR s' acc' c' hm hS' hacc
theorem init {I l:Addr}{items:Array Value}(hh:A.handled=none)(hne:l≠I)(S:Addr)(hit:s.heap.IsRevIter I l ((items.size:Int)-1))(hl:s.heap.IsList l items)(hSI:S≠I)(hSl:S≠l)(hs:items.size<=sizeLine)
  (hS:s.heap.get? S=some { cls:=.type "list",data:=.seq #[] })
  (hR:∀h' tk acc' c',(∀b o,b≠S->b≠I->s.heap.get? b=some o->h'.get? b=some o)->h'.get? S=some { cls:=.type "list",dict:=none,data:=.seq acc' c',slots:=#[] }->ItemsOf (λi v=>items[items.size-1-i]? = some v) acc' items.size->R (.ok (.ret .none)) { s with heap:=h',toks:=tk }) :
  wpAny (model prog w) A.in1 (Builtin.«list.__init__» ⟨[.ref S,.ref I],[]⟩)
   (λfin s'=>match fin with | .done f=>R (.ok f) s' | .again c'=>c'.quiet=true/\codeAny (model prog w) A c' R s') (λe s'=>R (.error e) s') s:=by
 (show wpAny _ A.in1 (do let old <- Builtin.List.listItems (.ref S);Builtin.List.listUpdate (.ref S) (λ_=>#[]);letGo old.toList.reverse;Builtin.List.listExtendWith (.ref S) (.ref I) .none) _ _ s)
 refine wpAny_bind ?_
 unfold Builtin.List.listItems
 (refine wpAny_bind (wpAny_seqItems hS rfl (wpAny_pure ?_)))
 (show wpAny _ A.in1 (updateSeq S (λ_=>#[]) >>= λ_=>letGo (#[]:Array Value).toList.reverse >>= λ_=>Builtin.List.listExtendWith (.ref S) (.ref I) .none) _ _ s)
 (refine wpAny_bind (wpAny_updateSeq hS rfl ?_))
 (have hS₂:=Heap.get?_update_self (Obj.mapSeq (λ_=>(#[]:Array Value))) hS rfl)
 have oth:∀b o,b≠S->s.heap.get? b=some o->(s.heap.update S (Obj.mapSeq (λ_=>(#[]:Array Value)))).get? b=some o:=
  λb o hb e=>(Heap.get?_update_other _ _ (Ne.symm hb)).trans e
 refine wpAny_bind (wpAny_letGo ?_)
 refine extend hh hne S .none _ (hit.at λo e=>oth I o hSI.symm e) (hl.at λo e=>oth l o hSl.symm e) hSI hSl hs hS₂ λs' acc' c' hm hS' hacc=>?_
 rw[Moved.eq_with hm]
 refine hR s'.heap s'.toks acc' c' (λb o hb hI e=>hm.heap b o (λh=>?_) (oth b o hb e)) hS' hacc
 rcases(mem_cons.mp h)with h | h
 ·exact hb h
 exact hI (mem_singleton.mp h)
theorem call_list {I l:Addr}{items:Array Value}{Q:Value->Shared->Prop}(hh:A.handled=none)(hne:l≠I)(hit:s.heap.IsRevIter I l ((items.size:Int)-1))(hl:s.heap.IsList l items)(hs:items.size<=sizeLine)
  (hQ:∀h' tk acc' c',(∀b o,b≠I->s.heap.get? b=some o->h'.get? b=some o)->h'.get? s.heap.objs.size=some { cls:=.type "list",dict:=none,data:=.seq acc' c',slots:=#[] }->ItemsOf (λi v=>items[items.size-1-i]? = some v) acc' items.size->Q (.ref s.heap.objs.size) { s with heap:=h',toks:=tk }) :
  (wpAny (model prog w) A (call (.type "list") [.ref I]) Q E s):=by
 refine callType_codes (Q₁:=λobj s₁=>obj=.ref s.heap.objs.size/\s₁ = { s with heap:=s.heap.push { cls:=.type "list",data:=.seq #[] } }) F.called_list (F.typeCall_list_1 _) F.entry_list_init
  (code_list_new _ ⟨rfl,rfl⟩) λobj s₁ h₁=>?_
 obtain⟨rfl,rfl⟩:=h₁
 (have hS:(s.heap.push { cls:=.type "list",data:=.seq #[] }).get? s.heap.objs.size=some { cls:=.type "list",data:=.seq #[] }:=Heap.get?_push_size _ rfl)
 obtain⟨oi,hoi,_⟩:=id hit
 obtain⟨ol,hol,_⟩:=id hl
 have li:=Heap.lt_size hoi
 have ll:=Heap.lt_size hol
 refine⟨⟨_,hS,rfl⟩,F.args_list_init_2 _ _,init (A:=A.in1) hh hne _ (hit.at λo e=>Heap.get?_push_of_some _ e) (hl.at λo e=>Heap.get?_push_of_some _ e) (ne_of_gt li) (ne_of_gt ll) hs hS λh' tk acc' c' hk hS' hacc=>?_⟩
 exact⟨rfl,hQ h' tk acc' c' (λb o hb e=>hk b o (ne_of_lt (Heap.lt_size e)) hb (Heap.get?_push_of_some _ e)) hS' hacc⟩
end
theorem rev_items {items acc:Array Value}(h:ItemsOf (λi v=>items[items.size-1-i]? = some v) acc items.size):acc=items.toList.reverse.toArray:=by
 apply Array.ext_getElem?
 intro i
 have hl:=h.1
 by_cases hi:i<items.size
 ·have h1:acc[i]? = some (acc[i]'(by lia)):=Array.getElem?_eq_getElem (by lia)
  rw[<- Array.getElem?_toList,<- Array.getElem?_toList,List.toList_toArray,List.getElem?_reverse (by simpa using hi),Array.getElem?_toList,Array.getElem?_toList,Array.length_toList,h.2 i _ h1,h1]
 rw[Array.getElem?_eq_none (by lia),Array.getElem?_eq_none (by simp;lia)]
end RL
namespace L2
open PySem PySem.Spec PyProof.Rows
def tLR (K:W.Frag)(ta:TA):TE:=λσ H Q=>ta σ H λvs H1=>∃a xs,vs=[.ref a]/\SqL K H1 a xs/\∀p,H1 p=none->Q (.ref p) (upd H1 p (.lst xs.reverse))
theorem Zim:∀{xs:List V}{us:List Value},Vals xs us->Vals xs.reverse us.reverse
 | _,_,.nil=>.nil
 | _,_,.cons a b=>by
  (rw[List.reverse_cons,List.reverse_cons])
  exact(Zim b).append (.cons a .nil)
theorem pe_lrev {X:Cx}(hc:X.calm=true){a:Expr}{ta:TA}{p1 p2 pos1 pos2:Pos}(hgl:Gl X "list")(hml:X.mg "list" = none)(hvl:bootBuiltins "list" = some (.type "list"))(hg:Gl X "reversed")(hm:X.mg "reversed" = none)(hv:bootBuiltins "reversed" = some (.type "reversed"))(ha:PA X [a] ta)
  (hs:starEach [a] X.env=[(false,eval a X.env)]:=by rfl)
  (hs0:starEach [.Call (.Name "reversed" p2) [a] [] pos2] X.env=[(false,eval (.Call (.Name "reversed" p2) [a] [] pos2) X.env)]:=by rfl) :
  PE X (.Call (.Name "list" p1) [.Call (.Name "reversed" p2) [a] [] pos2] [] pos1) (tLR X.K ta):=by
 intro pins s σ H Q I h
 refine wpAny_Call_Name_kw (Zdt I hgl hml hvl ?_)
 refine PyProof.Rows.callWith_type1 ?_ (by rw[hs0];rfl) rfl
 rw[hs0]
 show wpAny _ _ (spliced ((false,eval (.Call (.Name "reversed" p2) [a] [] pos2) X.env)::backTo pos1 [])) _ _ s
 refine Calls.spliced_cons ?_
 refine Call_ (Zdt I hg hm hv (PyProof.Rows.callWith_type1 (thn (ha pos2 pins s σ H _ I h) λus s1 hp0=>?_) (by rw[hs];rfl) (by rfl)))
 obtain⟨vs,H1,I1,r1,q1⟩:=hp0
 obtain⟨x,xs,rfl,qa,q⟩:=q1
 obtain⟨u,rfl,ru⟩:=Zc5 r1
 cases ru
 obtain⟨its,r2,pa,hz⟩:=I1.list qa
 have hl:=r2.length
 have hsl:sizeLine=16777216:=sizeLine_eq
 have hsz:its.toArray.size=its.length:=size_toArray
 have pl:=pa.isList
 obtain⟨ox,hox,_⟩:=id pl
 have hx:=Heap.lt_size hox
 refine call_reversed_list pl ?_
 refine Calls.spliced_nil ?_
 refine RL.call_list (A:=X.A) (l:=x) (items:=its.toArray) (I1.ok.hd hc) (ne_of_lt hx) ⟨_,Heap.get?_push_size _ rfl,rfl,rfl⟩ (pl.at λo e=>Heap.get?_push_of_some _ e) (by lia) λh' tk acc c' kk hS hacc=>?_
 have ea:=RL.rev_items hacc
 rw[List.toList_toArray]at ea
 subst ea
 have D:=I1.hok.fresh (a:=(s1.heap.push (revObj x (((its.toArray.size:Nat):Int)-1))).objs.size) (by rw[Heap.size_push];exact le_succ _)
 refine⟨.ref _,_,I1.laid (t':=tk) (o:=.lst xs.reverse) (λb o e=>kk b o (ne_of_lt (Heap.lt_size e)) (Heap.get?_push_of_some _ e)) (by rw[Heap.size_push];exact le_succ _) ⟨by rw[List.length_reverse];lia,its.reverse,c',Zim r2,hS⟩,rfl,q _ D⟩
def tLRng (ta:TA):TE:=λσ H Q=>ta σ H λvs H1=>∃j:Nat,vs=[.int (j:Int)]/\j<=1000/\∀p,H1 p=none->Q (.ref p) (upd H1 p (.lst (((List.range j).map λi:Nat=>(i:Int)).map V.int)))
theorem Zkf:∀(us:List Value) (k:Nat),(∀(i:Nat) (v:Value),us[i]? = some v->∃t,v=.int ((k+i:Nat):Int) t)->Vals (((List.range' k us.length).map λi:Nat=>(i:Int)).map V.int) us
 | [],_,_=>.nil
 | u::r,k,h=>by
  rw[length_cons,List.range'_succ,map_cons,map_cons]
  refine .cons ?_ (Zkf r (k+1) λi v e=>?_)
  ·obtain⟨t,e⟩:=h 0 u rfl
   exact⟨t,e⟩
  obtain⟨t,e⟩:=h (i+1) v e
  exact⟨t,by rw[e];congr 1;lia⟩
theorem pe_lrng {X:Cx}(hc:X.calm=true){a:Expr}{ta:TA}{p1 p2 pos1 pos2:Pos}(hgl:Gl X "list")(hml:X.mg "list" = none)(hvl:bootBuiltins "list" = some (.type "list"))(hg:Gl X "range")(hm:X.mg "range" = none)(ha:PA X [a] ta)
  (hs:starEach [a] X.env=[(false,eval a X.env)]:=by rfl)
  (hs0:starEach [.Call (.Name "range" p2) [a] [] pos2] X.env=[(false,eval (.Call (.Name "range" p2) [a] [] pos2) X.env)]:=by rfl) :
  PE X (.Call (.Name "list" p1) [.Call (.Name "range" p2) [a] [] pos2] [] pos1) (tLRng ta):=by
 intro pins s σ H Q I h
 refine wpAny_Call_Name_kw (Zdt I hgl hml hvl ?_)
 refine PyProof.Rows.callWith_type1 ?_ (by rw[hs0];rfl) rfl
 rw[hs0]
 show wpAny _ _ (spliced ((false,eval (.Call (.Name "range" p2) [a] [] pos2) X.env)::backTo pos1 [])) _ _ s
 refine Calls.spliced_cons ?_
 refine Call_ (Zdt I hg hm boot_range (PyProof.Rows.callWith_type1 (thn (ha pos2 pins s σ H _ I h) λus s1 hp0=>?_) hs rfl))
 obtain⟨vs,H1,I1,r1,q1⟩:=hp0
 obtain⟨j,rfl,hj,q⟩:=q1
 obtain⟨u,rfl,ru⟩:=Zc5 r1
 obtain⟨t,rfl⟩:=ru
 have hsl:sizeLine=16777216:=sizeLine_eq
 refine call_range_1 ?_
 refine Calls.spliced_nil ?_
 refine call_list_range (n:=j) (I1.ok.hd hc) (IsRange.new ..) (small_one (by lia) (by lia) (by lia) (by lia)) (by rw[rangeSize_one];split <;> lia) (by lia) λh' tk acc c' kk hS hacc=>?_
 have D:=λ(o:Obj)=>I1.hok.fresh (a:=(s1.heap.push o).objs.size) (by rw[Heap.size_push];exact le_succ _)
 have hl:acc.toList.length=j:=by rw[Array.length_toList];exact hacc.1
 have vr:=Zkf acc.toList 0 λi v e=>by
  rw[Array.getElem?_toList]at e
  obtain⟨t,e2⟩:=hacc.2 i v e
  exact⟨t,by rw[e2];congr 1;lia⟩
 rw[hl,<- List.range_eq_range']at vr
 refine⟨.ref _,_,I1.laid (t':=tk) (o:=.lst (((List.range j).map λi:Nat=>(i:Int)).map V.int)) (λb o e=>kk b o (Heap.get?_push_of_some _ e)) (by rw[Heap.size_push];exact le_succ _) ⟨by rw[length_map,length_map,length_range];lia,acc.toList,c',vr,by rw[Array.toArray_toList];exact hS⟩,rfl,q _ (D _)⟩
section
variable {K:W.Frag}
theorem FunD.bindsD {x qual:Str}{st:Stmt}{f T:Addr}{fd:FuncData}{ps:List Str}{ds:List Value}{oc:Value}{od:Option Addr}{items:Array Value}{n:Nat}{sl:Array (Option Value)}(F:FunD K x qual st f fd T)(lT:K.lookup T=some ⟨oc,od,.seq items n,sl⟩)
  (h:∀(kV doc pm:Value) (an:Option Addr) (cdv ct:Value) (us:List Value),(us++ds).length=ps.length->∃k,bindArgs (PySem.W.fnOf x qual (Zbk st) (Zbe st) (Zaf st) (.ref T) kV doc pm an cdv ct) ⟨us,[]⟩=seqItems? (.ref T) >>= k/\k (some items)=pure (ps.zip (us++ds))):Binds K fd ps ds:=by
 obtain⟨oc',od',kV,doc,pm,an,cdv,ct,osl,e,lk,hcd⟩:=F.ex
 subst e
 intro s us KX hl
 obtain⟨k,h1,h2⟩:=h kV doc pm an cdv ct us hl
 exact PySem.W.binds_K KX rfl lT rfl h1 h2
theorem FunD.bindsD3 {x qual:Str}{st:Stmt}{f T:Addr}{fd:FuncData}{ps:List Str}{d oc:Value}{od:Option Addr}{items:Array Value}{n:Nat}{sl:Array (Option Value)}(F:FunD K x qual st f fd T)(hp:ps.length=4)(lT:K.lookup T=some ⟨oc,od,.seq items n,sl⟩)
  (h:∀(kV doc pm:Value) (an:Option Addr) (cdv ct a b c:Value),∃k,bindArgs (PySem.W.fnOf x qual (Zbk st) (Zbe st) (Zaf st) (.ref T) kV doc pm an cdv ct) ⟨[a,b,c],[]⟩=seqItems? (.ref T) >>= k/\k (some items)=pure (ps.zip [a,b,c,d])):Binds K fd ps [d]:=
 F.bindsD lT λkV doc pm an cdv ct us hl=>by
  rw[hp,length_append]at hl
  match us,hl with
  | [a,b,c],_=>exact h kV doc pm an cdv ct a b c
end
theorem Zav {N ps:List Str}{sc:Scope}(h1:sc.kind=.function:=by rfl)(h2:sc.isCoroutine=false:=by rfl)(h3:sc.isGenerator=false:=by rfl)(h4:N.Nodup:=by decide +kernel)(h5:N.take ps.length=ps:=by rfl)
  (h6:∀x∈ps,sc.names.lookup x=some .local\/sc.names.lookup x=some .cell:=by decide +kernel)(h7:∀y∈sc.names,y.2≠.free:=by decide +kernel):FnScope N ps sc:=⟨h1,h2,h3,h4,h5,h6,h7⟩
theorem Zb4 {X:Cx}{N:List Str}{sc scope:Scope}{own fr:List Str}{js:List Nat}(h1:X.env.scope=sc:=by rfl)(h2:N=own++fr:=by rfl)(h3:scope.kind=.function:=by rfl)(h4:sc.kind=.function:=by rfl)(h5:∀y∈scope.names,y.2≠NameKind.cell:=by decide +kernel)
  (h6:∀y∈scope.names,y.2=NameKind.free->sc.names.lookup y.1=some NameKind.cell:=by decide +kernel)(h7:∀y∈scope.names,y.2=NameKind.local->scope.names.lookup y.1=some NameKind.local:=by decide +kernel)(h8:js.map (λj=>X.N[j]?)=fr.map some:=by rfl)
  (h9:∀x∈fr,sc.names.lookup x=some NameKind.cell/\scope.names.lookup x=some NameKind.free:=by decide +kernel):LcOk X N sc scope own fr js:=⟨h1,h2,h3,h4,h5,h6,h7,h8,h9⟩
section
variable {X:Cx}{i:Nat}{x:Str}{pos pos':Pos}
theorem Zaw {e:Expr}{te:TE}(hN:X.N.Nodup)(he:PE X e te)(hi:X.N[i]? = some x:=by rfl)(hx:Loc X.env.scope x:=by exact .inl rfl)(hs:swapsWith e (some (.Name x pos')) pos.line X.env=pure false:=by rfl)(hf:X.fn x=true\/X.env.scope.names.lookup x=some .local:=by first | exact .inl rfl | exact .inr rfl | assumption) :
  PS X (.Assign [.Name x pos'] e pos) (tAsg te (Zgt i)):=Ziw hN hi hx he hs hf
theorem Za3 (hN:X.N.Nodup)(hi:X.N[i]? = some x:=by rfl)(hx:Loc X.env.scope x:=by exact .inl rfl)(hf:X.fn x=true\/X.env.scope.names.lookup x=some .local:=by first | exact .inl rfl | exact .inr rfl | assumption):PG X (.Name x pos) (Zgt i):=Zjy hN hi hx hf
end
section
variable {P:Program}{w:World}{K:W.Frag}{mg:Str->Option Value}{base:Heap}{x qual:Str}{st:Stmt}{f:Addr}{fd:FuncData}{N ps:List Str}{k:Nat}{sp:Sp}
theorem Fun.oq (F:Fun K x qual st f fd)(S:FnScope N ps (Zaf st))
  (hbody:∀(cdv:Value) (A:Around) (outer:List Env) (s:Shared) (H:Hp) (vs:List V) (Q:VK) (E:XK),Room k (A.deeper (envOfC qual (Zaf st) s.heap.objs.size f cdv))->sp vs H Q E->∃t,PSs (cxOf CX0 P w K mg base N qual (Zaf st) f cdv A outer s H E).nox (Zbe st) t/\t { nx:=λ_ H'=>Q .non H',rt:=Q } (Zgy N vs) H)
  (len:∀vs H Q E,sp vs H Q E->vs.length=ps.length:=by intro _ _ _ _ h;cases h;subst_vars;rfl):FnOk P w K mg base CX0 (k+1) f fd ps sp:=F.ok S len hbody
end
theorem gen1 {H:Hp}{p:Addr}{o:HO}(h:H p=none):∃H',upd H p o=H'/\Same H H'/\H' p=some o:=⟨_,rfl,Same.new h,Zad⟩
theorem gen2 {H:Hp}{x d C:Addr}(hx:H x=none)(hd:H d=none)(n:d≠x):∃H',upd (upd H d (.own x)) x (.ins C d [])=H'/\Same H H'/\H' x=some (.ins C d []):=⟨_,rfl,(Same.new hd).trans (Same.new (by rw[Zaj n.symm];exact hx)),Zad⟩
inductive Qf (K:W.Frag)(x:Str)(s:Stmt)(f:Addr):Prop
 | mk {od an:Option Addr}{sl:Array (Option Value)}{oc kV dc pm cd ct:Value}(a:PySem.W.nsIn K mainGlobals x=some (some (.ref f))) (l:K.lookup f=some ⟨oc,od,.func (PySem.W.fnOf x x (Zbk s) (Zbe s) (Zaf s) .none kV dc pm an cd ct),sl⟩)
   (c:PySem.W.codeIn K cd x=true) (k:PySem.W.keepIn K (.ref f)=true):Qf K x s f
theorem Qf.df {K:W.Frag}{h:Heap}{mg:Str->Option Value}{x:Str}{s:Stmt}{f:Addr}(q:Qf K x s f)(X:K.In h)(G:h.Ns mainGlobals mg)(ps:List Str)
  (hb:∀(kV doc pm:Value) (an:Option Addr) (cdv ct:Value) (us:List Value),us.length=ps.length->bindArgs (PySem.W.fnOf x x (Zbk s) (Zbe s) (Zaf s) .none kV doc pm an cdv ct) ⟨us,[]⟩=pure (ps.zip us)):∃fd,Df K mg x s ps f fd:=by
 obtain⟨a,l,c,k⟩:=q
 exact⟨_,Zi9 l c k,PySem.W.mg_of X G a,(Zi9 l c k).binds hb⟩
inductive Qm (K:W.Frag)(C:Addr)(x q:Str)(s:Stmt)(f:Addr):Prop
 | mk {od an:Option Addr}{sl:Array (Option Value)}{oc kV dc pm cd ct:Value}(a:PySem.W.findIn K (.ref C) x=some (some (.ref f))) (i:PySem.W.isFn K (.ref f)=true) (l:K.lookup f=some ⟨oc,od,.func (PySem.W.fnOf x q (Zbk s) (Zbe s) (Zaf s) .none kV dc pm an cd ct),sl⟩)
   (c:PySem.W.codeIn K cd q=true) (k:PySem.W.keepIn K (.ref f)=true):Qm K C x q s f
theorem Qm.df {K:W.Frag}{C:Addr}{x qu:Str}{s:Stmt}{f:Addr}(q:Qm K C x qu s f)(ps:List Str)
  (hb:∀(kV doc pm:Value) (an:Option Addr) (cdv ct:Value) (us:List Value),us.length=ps.length->bindArgs (PySem.W.fnOf x qu (Zbk s) (Zbe s) (Zaf s) .none kV doc pm an cdv ct) ⟨us,[]⟩=pure (ps.zip us)):∃fd,Fun K x qu s f fd/\Binds K fd ps []/\Meth K C x f:=by
 obtain⟨a,i,l,c,k⟩:=q
 exact⟨_,Zi9 l c k,(Zi9 l c k).binds hb,a,i,k⟩
inductive Ca (P:Program)(w:World)(K:W.Frag)(mg:Str->Option Value)(base:Heap)(CX:CXT)(k:Nat)(x:Str)(st:Stmt)(ps:List Str)(sp:Sp):Prop
 | mk {f:Addr}{fd:FuncData}(D:Df K mg x st ps f fd) (G:FnOk P w K mg base CX k f fd ps sp):Ca P w K mg base CX k x st ps sp
section
variable {X:Cx}{CX:CXT}{k:Nat}{ps:List Str}{sp:Sp}{E:XK}{x:Str}{st:Stmt}{p pos:Pos}{e:Expr}{es:List Expr}{t:TA}
theorem Zaq (c:Ca X.prog X.w X.K X.mg X.base CX k x st ps sp)(hr:Room k X.A)(hx:Zfi CX X E)(ha:PA X (e::es) t)(hg:Gl X x:=by rfl)(hdb:(x == ("__debug__" : Str))=false:=by decide)(he:starEach (e::es) X.env=(false,eval e X.env)::starEach es X.env:=by rfl)
  (hpl:(backTo pos (starEach es X.env)).any (·.1)=false:=by rfl):PE X (.Call (.Name x p) (e::es) [] pos) (tCall sp [] E t):=by
 obtain⟨D,G⟩:=c
 exact Za5 G hr hg D.m D.F.kp D.b .nil hx ha hdb he hpl
end
end L2
namespace K39
open PySem L2 Tx Rk PyProof.Rows PySem.SeqAt
open PySem.PyData (strOk)
section
variable {P:Program}{w:World}{K:W.Frag}{mg:Str->Option Value}{base:Heap}
def top (i:Nat):Stmt:=PySem.Challenge.pw_grope_k39_walked.main.body.getD i (.Pass ⟨0,0,0,0⟩)
abbrev Zf0:Stmt:=top 9
abbrev Zci:Stmt:=top 10
abbrev Zfp:Stmt:=top 11
abbrev Zhn:Stmt:=top 12
abbrev Zfo:Stmt:=top 13
abbrev Zko:Stmt:=top 15
abbrev Zkp:Stmt:=top 16
abbrev Zir:Stmt:=top 17
abbrev Zc9:Stmt:=top 18
abbrev Zkh:Stmt:=top 19
abbrev Zdi:Stmt:=top 25
abbrev Zb8:Stmt:=top 26
abbrev Zdh:Stmt:=top 27
abbrev Zcr:Stmt:=top 28
abbrev Zb7:Stmt:=top 29
abbrev Zb9:Stmt:=top 30
abbrev Zcj:Stmt:=top 31
abbrev Zde:Stmt:=top 32
abbrev Zhp:Stmt:=top 33
abbrev Zbv:Stmt:=top 34
abbrev Zl1:Stmt:=Zbi (top 35) 0
abbrev Zon:Stmt:=Zbi (top 35) 1
abbrev Zhq:Stmt:=Zbi (top 35) 7
abbrev Zd4:Stmt:=Zbi (top 35) 8
abbrev Zjv:Stmt:=Zbi (top 35) 9
abbrev Zex:Stmt:=Zbi (top 35) 10
abbrev Zew:Stmt:=Zbi (top 35) 11
abbrev Zev:Stmt:=Zbi (top 35) 12
abbrev Zho:Stmt:=top 37
abbrev Zcl:Stmt:=top 38
abbrev Zdx:Stmt:=Zbi (top 40) 0
abbrev Zjw:Stmt:=Zbi (top 41) 0
abbrev Zf7:Stmt:=Zbi (top 41) 1
abbrev Zee:Stmt:=Zbi (top 42) 0
abbrev Zf1:Stmt:=Zbi (top 42) 1
abbrev Zdy:Stmt:=Zbi (top 42) 2
abbrev Zfz:Stmt:=top 44
abbrev Znj:Stmt:=top 45
abbrev Zcs:Stmt:=top 46
abbrev Zki:Stmt:=top 47
abbrev Zc8:Stmt:=top 48
abbrev Zhs:Stmt:=top 49
abbrev Zei:Stmt:=top 50
abbrev Zbp:Stmt:=Zbi (top 52) 0
abbrev Zc7:Stmt:=Zbi (top 52) 1
abbrev Zd3:Stmt:=Zbi (top 52) 2
abbrev Zd2:Stmt:=Zbi (top 52) 3
abbrev Zha:Stmt:=top 54
abbrev Zck:Stmt:=top 55
abbrev Zkk:Stmt:=top 56
abbrev Zdz:Stmt:=top 57
abbrev Zf3:Stmt:=top 58
abbrev Zhr:Stmt:=top 59
abbrev Zf6:Stmt:=top 60
abbrev Zkj:Stmt:=top 61
abbrev Zf5:Stmt:=top 62
abbrev Zls:Stmt:=top 63
abbrev Zef:Stmt:=top 64
abbrev Zd0:Stmt:=top 65
abbrev Zeg:Stmt:=top 66
abbrev Zkn:Stmt:=top 67
abbrev Zkm:Stmt:=top 68
abbrev Zf2:Stmt:=top 69
abbrev Ziu:Stmt:=top 70
abbrev Zg9:Stmt:=top 71
abbrev Zis:Stmt:=top 72
abbrev Znh:Stmt:=top 73
abbrev Zdg:Stmt:=top 74
abbrev Zf4:Stmt:=top 75
abbrev Zg8:Stmt:=top 76
abbrev Zni:Stmt:=top 77
abbrev Zd1:Stmt:=top 78
abbrev Zb6:Stmt:=top 79
abbrev Zit:Stmt:=top 80
abbrev Zeh:Stmt:=top 81
abbrev Zfq:Stmt:=top 82
abbrev Zdf:Stmt:=top 83
abbrev Zkl:Stmt:=top 84
abbrev sLaw:Stmt:=top 85
structure Bl (mg:Str->Option Value):Prop where
 len:mg "len" = none
 range:mg "range" = none
 tuple:mg "tuple" = none
 zip:mg "zip" = none
 isi:mg "isinstance" = none
 str:mg "str" = none
 list:mg "list" = none
 set:mg "set" = none
 all:mg "all" = none
 sorted:mg "sorted" = none
 int:mg "int" = none
 bool:mg "bool" = none
 sum:mg "sum" = none
 max:mg "max" = none
 enumerate:mg "enumerate" = none
 dict:mg "dict" = none
 ve:mg "ValueError" = none
 min:mg "min" = none
 reversed:mg "reversed" = none
def Wd (ns:List Int):Prop:=∀n∈ns,0<=n/\n<200
def bt (ns:List Int):Nat:=ns.foldl (λm n=>m|||2^n.toNat) 0
theorem Zda (a b:Nat):Builtin.bitOr (a:Int) b=((a|||b:Nat):Int):=by
 have h1:¬(0:Int)<=Builtin.bitNot a:=by unfold Builtin.bitNot;lia
 have h2:¬(0:Int)<=Builtin.bitNot b:=by unfold Builtin.bitNot;lia
 have h3:∀x:Int,Builtin.bitNot (Builtin.bitNot x)=x:=λx=>by unfold Builtin.bitNot;lia
 unfold Builtin.bitOr Builtin.bitAnd
 rw[decide_eq_false h1,decide_eq_false h2]
 dsimp only
 rw[h3,h3,h3,toNat_natCast,toNat_natCast]
theorem Zdc (a b:Nat):Builtin.bitAnd (a:Int) b=((a&&&b:Nat):Int):=rfl
theorem Zok {a b:Nat}(h:a&&&b=0):a|||b=a+b:=by
 have e:=bitOr_and (a:Int) b
 rw[Zda,Zdc,h]at e
 lia
theorem Zlf:∀(ns:List Int) (m i:Nat),(ns.foldl (λm n=>m|||2^n.toNat) m).testBit i=(m.testBit i || ns.any λn=>n.toNat == i)
 | [],m,i=>by simp
 | n::r,m,i=>by
  rw[foldl_cons,Zlf r,testBit_or,testBit_two_pow,any_cons,Bool.or_assoc,Bool.beq_eq_decide_eq]
theorem Zcp (ns:List Int)(i:Nat):(bt ns).testBit i=ns.any λn=>n.toNat == i:=by
 unfold bt
 rw[Zlf,zero_testBit,Bool.false_or]
theorem Zna {ns:List Int}(h:Wd ns){n:Int}(h0:0<=n):(bt ns).testBit n.toNat=decide (n∈ns):=by
 rw[Zcp,Bool.eq_iff_iff,any_eq_true,decide_eq_true_eq]
 constructor
 ·rintro⟨m,hm,e⟩
  have e2:m.toNat=n.toNat:=by simpa using e
  have:=(h m hm).1
  rw[show n=m by lia]
  exact hm
 intro hm
 exact⟨n,hm,by simp⟩
theorem Zj9 (ns:List Int)(n:Int):bt (ns++[n])=bt ns|||2^n.toNat:=by
 unfold bt
 rw[List.foldl_append]
 rfl
theorem Zlu (k:Nat):(2:Int)^k=((2^k:Nat):Int):=by
 rw[Int.natCast_pow]
 rfl
theorem Zle:∀(ns:List Int) (m:Nat),ns.Nodup->(∀n∈ns,0<=n/\m.testBit n.toNat=false)->(m:Int)+(ns.map λn=>(2:Int)^n.toNat).sum=((ns.foldl (λm n=>m|||2^n.toNat) m:Nat):Int)
 | [],m,_,_=>by simp
 | n::r,m,nd,h=>by
  (obtain⟨n1,n2⟩:=nodup_cons.mp nd)
  obtain⟨h0,hb⟩:=h n mem_cons_self
  have d:m&&&2^n.toNat=0:=by
   refine eq_of_testBit_eq λi=>?_
   rw[testBit_and,testBit_two_pow,zero_testBit]
   by_cases hi:n.toNat=i
   ·rw[<- hi,hb];rfl
   rw[decide_eq_false hi,Bool.and_false]
  have e:=Zle r (m|||2^n.toNat) n2 (λx hx=>⟨(h x (mem_cons_of_mem _ hx)).1,?_⟩)
  ·rw[map_cons,List.sum_cons,foldl_cons,<- e,Zok d,Zlu,Int.natCast_add]
   lia
  rw[testBit_or,(h x (mem_cons_of_mem _ hx)).2,testBit_two_pow,Bool.false_or]
  refine decide_eq_false λz=>n1 ?_
  have:=(h x (mem_cons_of_mem _ hx)).1
  rw[show n=x by lia]
  exact hx
theorem Znx {ns:List Int}(nd:ns.Nodup)(h:∀n∈ns,0<=n):(ns.map λn=>(2:Int)^n.toNat).sum=(bt ns:Int):=by
 have e:=Zle ns 0 nd λn hn=>⟨h n hn,zero_testBit _⟩
 unfold bt
 rw[<- e]
 simp
def nb (m:Nat):Nat:=Builtin.Int.intBits (m:Int)
theorem nb_top {m i:Nat}(h:nb m<=i):m.testBit i=false:=by
 unfold nb Builtin.Int.intBits at h
 refine testBit_lt_two_pow ?_
 split at h
 ·rename_i c
  have:m=0:=by simpa using c
  rw[this]
  exact two_pow_pos i
 rw[Int.natAbs_natCast]at h
 exact lt_of_lt_of_le Nat.lt_log2_self (pow_le_pow_right (by decide) h)
theorem Zno {m k:Nat}(h:m<2^k):nb m<=k:=by
 unfold nb Builtin.Int.intBits
 split
 ·exact zero_le _
 rename_i c
 have:m≠0:=by simpa using c
 rw[Int.natAbs_natCast]
 exact(Nat.log2_lt this).mpr h
def wl (m:Nat):List Int:=((List.range (nb m)).filter λi=>m.testBit i).map λ(i:Nat)=>(i:Int)
theorem wl_mem {m:Nat}{n:Int}:n∈wl m↔0<=n/\m.testBit n.toNat=true:=by
 unfold wl
 rw[mem_map]
 constructor
 ·rintro⟨i,hi,rfl⟩
  rw[toNat_natCast]
  exact⟨by lia,(mem_filter.mp hi).2⟩
 rintro⟨h0,hb⟩
 refine⟨n.toNat,mem_filter.mpr ⟨mem_range.mpr ?_,hb⟩,by lia⟩
 rcases lt_or_ge n.toNat (nb m)with z | z
 ·exact z
 rw[nb_top z]at hb
 cases hb
theorem wl_rise (m:Nat):(wl m).Pairwise (· < ·):=by
 unfold wl
 refine pairwise_map.mpr ((List.Pairwise.filter _ pairwise_lt_range).imp λh=>?_)
 lia
theorem Zlo (m i:Nat):Builtin.bitAnd ((m:Int) / 2^i) 1=if m.testBit i then 1 else 0:=by
 rw[Zlu,<- Int.natCast_ediv]
 show Builtin.bitAnd ((m / 2^i:Nat):Int) ((1:Nat):Int)=_
 rw[Zdc,Nat.and_one_is_mod,Nat.testBit_eq_decide_div_mod_eq]
 have:m / 2^i % 2<2:=mod_lt _ (by decide)
 by_cases h:m / 2^i % 2=1
 ·simp[h]
 have h2:m / 2^i % 2=0:=by lia
 simp[h2]
theorem out_is {xs ys:List Int}(hx:Wd xs)(hy:Wd ys):Builtin.bitXor (bt xs:Int) (Builtin.bitAnd (bt xs:Int) (bt ys))=(bt (xs.filter λx=>!decide (x∈ys)):Int):=by
 have hf:Wd (xs.filter λx=>!decide (x∈ys)):=λn hn=>hx n (mem_filter.mp hn).1
 have bitF:∀i:Nat,(bt (xs.filter λx=>!decide (x∈ys))).testBit i=((bt xs).testBit i && !(bt ys).testBit i):=λi=>by
  have h0:(0:Int)<=(i:Int):=by lia
  have e1:=Zna hx h0
  have e2:=Zna hy h0
  have e3:=Zna hf h0
  rw[toNat_natCast]at e1 e2 e3
  rw[e1,e2,e3,Bool.eq_iff_iff,decide_eq_true_eq,mem_filter]
  simp
 have c1:bt xs|||(bt xs&&&bt ys)=bt xs:=by
  refine eq_of_testBit_eq λi=>?_
  rw[testBit_or,testBit_and]
  cases (bt xs).testBit i <;> rfl
 have c2:bt xs&&&(bt xs&&&bt ys)=bt xs&&&bt ys:=by
  refine eq_of_testBit_eq λi=>?_
  rw[testBit_and,testBit_and]
  cases (bt xs).testBit i <;> rfl
 have c3:bt (xs.filter λx=>!decide (x∈ys))&&&(bt xs&&&bt ys)=0:=by
  refine eq_of_testBit_eq λi=>?_
  rw[testBit_and,testBit_and,bitF,zero_testBit]
  cases (bt xs).testBit i <;> cases (bt ys).testBit i <;> rfl
 have c4:bt (xs.filter λx=>!decide (x∈ys))|||(bt xs&&&bt ys)=bt xs:=by
  refine eq_of_testBit_eq λi=>?_
  rw[testBit_or,testBit_and,bitF]
  cases (bt xs).testBit i <;> cases (bt ys).testBit i <;> rfl
 have c5:=Zok c3
 rw[c4]at c5
 unfold Builtin.bitXor
 rw[Zdc,Zda,Zdc,c1,c2]
 lia
theorem Zoq {c:Bool}{A B:Prop}(h:c=true)(a:A):if c=true then A else B:=by rw[if_pos h];exact a
theorem Zor {c:Bool}{A B:Prop}(h:¬c=true)(b:B):if c=true then A else B:=by rw[if_neg h];exact b
theorem Zdw {s R:TS}{D:Ends}{σ:L2.St}{H:Hp}(I:L2.St->Hp->Prop)(hR:∀σ' H',I σ' H'->R D σ' H')(hs:∀N:L2.St->Hp->Prop,(∀σ' H',I σ' H'->N σ' H')->s { D with nx:=N } σ H):tSeq s R D σ H:=hs (R D) hR
theorem Zhl {i:Nat}{v:V}{s R:TS}{D:Ends}{σ:L2.St}{H:Hp}(I:L2.St->Hp->Prop)(hR:∀σ' H',I σ' H'->R D σ' H')(hs:∀N:L2.St->Hp->Prop,(∀σ' H',I σ' H'->N σ' H')->Zgt i v σ H λσ2 H2=>s { D with nx:=N } σ2 H2):Zgt i v σ H (tSeq s R D):=hs (R D) hR
theorem Zcu {H:Hp}:∀ns:List Int,RdVs H (ns.map V.int) (ns.map PyData.int)
 | []=>.nil
 | n::r=>.cons (.int n) (Zcu r)
theorem eqv_int1 (n:Int):PyData.eqv (.int n) (.int n)=true:=by simp[PyData.eqv]
theorem Zgv:∀ns:List Int,PyData.eqvAll (ns.map PyData.int) (ns.map PyData.int)=true
 | []=>by simp[PyData.eqvAll]
 | n::r=>by rw[map_cons,PyData.eqvAll,eqv_int1,Zgv r];rfl
theorem Zlg (ns:List Int):PyData.eqv (.list (ns.map PyData.int)) (.list (ns.map PyData.int))=true:=by
 rw[PyData.eqv,Zgv]
theorem Zlb:∀ns:List Int,PyData.canLayAll0 (ns.map PyData.int)=true
 | []=>by rw[map_nil,PyData.canLayAll0]
 | n::r=>by
  rw[map_cons,PyData.canLayAll0,Zlb r,PyData.canLay0]
  rfl
theorem Zjf:∀ns:List Int,PyData.depthAll (ns.map PyData.int)<=0
 | []=>by rw[map_nil,PyData.depthAll];exact zero_le _
 | n::r=>by
  have h:=Zjf r
  rw[map_cons,PyData.depthAll,PyData.depth]
  lia
theorem Zc6 (ns:List Int):shaped (.list (ns.map PyData.int))=true:=by
 unfold shaped
 rw[PyData.canLay0,Zlb,PyData.depth]
 have:=Zjf ns
 (rw[decide_eq_true (by lia)])
 rfl
theorem Zm7 (ns:List Int):∃ds:List Int,SK.dd (kAt (ns.map (Sum.inl:Int->Key))) (ns.map (Sum.inl:Int->Key)).length=ds.map Sum.inl/\ds.Nodup/\(∀n,n∈ds↔n∈ns)/\ds.length<=ns.length:=by
 have hl:(ns.map (Sum.inl:Int->Key)).length=ns.length:=length_map ..
 rw[hl]
 have go:∀i,i<=ns.length->∃ds:List Int,SK.dd (kAt (ns.map (Sum.inl:Int->Key))) i=ds.map Sum.inl/\ds.Nodup/\(∀n,n∈ds↔n∈ns.take i)/\ds.length<=i:=by
  intro i
  induction i with
  | zero=>exact λ_=>⟨[],rfl,nodup_nil,λn=>by simp,Nat.le_refl _⟩
  | succ i ih=>
   intro hi
   have hi2:i<ns.length:=hi
   obtain⟨ds,e,nd,me,le⟩:=ih (by lia)
   have ev:kAt (ns.map (Sum.inl:Int->Key)) i=Sum.inl ns[i]:=by simp[kAt,List.getD,hi2]
   have htk:=take_succ_eq_append_getElem hi2
   have hin:(Sum.inl ns[i]:Key)∈ds.map (Sum.inl:Int->Key)↔ns[i]∈ds:=by
    rw[mem_map]
    exact⟨λ⟨m,hm,e⟩=>by cases e;exact hm,λh=>⟨_,h,rfl⟩⟩
   by_cases hm:ns[i]∈ds
   ·refine⟨ds,?_,nd,λn=>?_,by lia⟩
    ·unfold SK.dd
     rw[e,ev,if_pos (hin.mpr hm)]
    rw[htk,mem_append,mem_singleton,me n]
    exact⟨.inl,λz=>z.elim id λz=>by rw[z];exact(me _).mp hm⟩
   refine⟨ds++[ns[i]],?_,Zh9 nd hm,λn=>?_,by rw[length_append];exact Nat.succ_le_succ le⟩
   ·unfold SK.dd
    rw[e,ev,if_neg λz=>hm (hin.mp z),map_append]
    rfl
   rw[htk,mem_append,mem_append,me n]
 obtain⟨ds,e,nd,me,le⟩:=go ns.length (Nat.le_refl _)
 rw[take_length]at me
 exact⟨ds,e,nd,me,le⟩
inductive spSetOf (K:W.Frag)(vs:List V)(H:Hp)(Q:VK)(E0_:XK):Prop
 | mk (a:Addr) (ns:List Int) (c0:vs=[.ref a]) (c1:SqL K H a (ns.map V.int)) (c2:Wd ns) (c3:Q (.int (bt ns:Nat)) H):spSetOf K vs H Q E0_
inductive spWof (vs:List V)(H:Hp)(Q:VK)(E0_:XK):Prop
 | mk (m:Nat) (c0:vs=[.int (m:Nat)]) (c1:m<2^200) (c2:∀(l:Addr) (H':Hp),Same H H'->H l=none->H' l=some (.lst ((wl m).map V.int))->Q (.ref l) H'):spWof  vs H Q E0_
def headV:List Int->V
 | []=>.non
 | n::_=>.int n
inductive spLeast (vs:List V)(H:Hp)(Q:VK)(E0_:XK):Prop
 | mk (m:Nat) (c0:vs=[.int (m:Nat)]) (c1:m<2^200) (c2:∀(H':Hp),Same H H'->Q (headV (wl m)) H'):spLeast  vs H Q E0_
inductive spIn (vs:List V)(H:Hp)(Q:VK)(E0_:XK):Prop
 | mk (i j:Int) (c0:vs=[.int i,.int j]) (c1:Q (.bl (decide (V.int (Builtin.bitAnd i j)=V.int i))) H):spIn  vs H Q E0_
inductive spOut (vs:List V)(H:Hp)(Q:VK)(E0_:XK):Prop
 | mk (i j:Int) (c0:vs=[.int i,.int j]) (c1:Q (.int (Builtin.bitXor i (Builtin.bitAnd i j))) H):spOut  vs H Q E0_
inductive spLaw (K:W.Frag)(vs:List V)(H:Hp)(Q:VK)(E0_:XK):Prop
 | mk (a:Addr) (ns:List Int) (c0:vs=[.ref a]) (c1:SqL K H a (ns.map V.int)) (c2:ns.length<=63) (c3:∀H',Q (.bl true) H'):spLaw K vs H Q E0_
abbrev Zhd:List Str:=["worlds"]
abbrev nSetOf:List Str:=["worlds", "some", "world"]
theorem scSetOf:FnScope nSetOf Zhd (Zaf Zf0):=Zav
abbrev Zel:List Str:=["some"]
abbrev nWorldsOf:List Str:=["some"]
theorem scWorldsOf:FnScope nWorldsOf Zel (Zaf Zci):=Zav
abbrev Zh0:List Str:=["some"]
abbrev nLeastOf:List Str:=["some", "worlds"]
theorem scLeastOf:FnScope nLeastOf Zh0 (Zaf Zfp):=Zav
abbrev Zj0:List Str:=["one", "other"]
abbrev nWithin:List Str:=["one", "other"]
theorem scWithin:FnScope nWithin Zj0 (Zaf Zhn):=Zav
abbrev Zhx:List Str:=["one", "other"]
abbrev nWithout:List Str:=["one", "other"]
theorem scWithout:FnScope nWithout Zhx (Zaf Zfo):=Zav
abbrev Zfe:List Str:=["_law_some"]
abbrev nLList:List Str:=["_law_some"]
theorem scLList:FnScope nLList Zfe (Zaf Zef):=Zav
abbrev Zmg:List Str:=["_law_script", "_law_k", "_law_answers"]
abbrev nLTold:List Str:=["_law_script", "_law_k", "_law_answers"]
theorem scLTold:FnScope nLTold Zmg (Zaf Zkj):=Zav
abbrev pLaw:List Str:=["_law_script"]
abbrev nLaw:List Str:=["_law_script", "_law_many_here", "_law_deeds_here", "_law_looks_here", "_law_some", "_law_far", "_law_data", "_law_tree", "_law_rows", "_law_goal", "_law_chart", "_law_made", "_law_plan_here", "_law_told_here"]
theorem scLaw:FnScope nLaw pLaw (Zaf sLaw):=Zav
theorem ok_setof {f:Addr}{fd:FuncData}(F:Fun K "set_of" "set_of" Zf0 f fd):FnOk P w K mg base CX0 1 f fd Zhd (spSetOf K):=by
 refine F.oq scSetOf λcdv A outer s H vs Q E hr h=>?_
 obtain⟨a,ns,rfl,hS,wd,q⟩:=h
 refine⟨_,(Zac (Zaw (i:=1) scSetOf.nd Zae)
  (Zac (Zbh PassesOwn.never rfl (Za4 (pv 0)) (Za3 (i:=2) scSetOf.nd)
   (Zag (Zaw (i:=1) scSetOf.nd (Zau Zh7 (pv 1) (Zau Zff Zae (pv 2))))))
  (Zag (Zam (pv 1))))),?_⟩
 refine⟨_,rfl,a,rfl,⟨_,hS⟩,Zbc (K:=K) (a:=a) (xs:=ns.map V.int) (λi σ H2=>∃v2:Option V,σ = [some (.ref a),some (.int (bt (ns.take i):Nat)),v2]/\H2=H) ⟨none,rfl,rfl⟩ (λi σ H2 _ hh0=>by obtain⟨_,_,e⟩:=hh0;rw[e];exact hS) ?_ ?_⟩
 ·rintro i x σ H2 hx ⟨v2,rfl,e⟩
  rw[getElem?_map]at hx
  obtain⟨n,en,rfl⟩:=map_eq_some_iff.mp hx
  have hi:i<ns.length:=(List.getElem?_eq_some_iff.mp en).1
  have hni:ns[i]=n:=(List.getElem?_eq_some_iff.mp en).2
  have hw:=wd n (mem_of_getElem? en)
  have key:Builtin.bitOr ((bt (ns.take i):Nat):Int) (1*2^n.toNat)=((bt (ns.take (i+1)):Nat):Int):=by
   rw[take_succ_eq_append_getElem hi,hni,Zj9,one_mul,Zlu,Zda]
  refine⟨_,rfl,_,rfl,_,_,rfl,rfl,⟨hw.1,by lia,by decide⟩,_,_,rfl,rfl,?_⟩
  exact⟨some (.int n),by rw[<- key];rfl,e⟩
 rintro σ H2 ⟨v2,rfl,e⟩
 rw[show(ns.map V.int).length=ns.length from length_map ..,take_length,e]
 exact⟨_,rfl,q⟩
structure Mc (mg:Str->Option Value):Prop where
 mw:∃t,mg "MOST_WORLDS" = some (.int 200 t)
 ms:∃t,mg "MOST_STEPS" = some (.int 40 t)
 mn:∃t,mg "MOST_SIGNS" = some (.int 30 t)
 mp:∃t,mg "MOST_PRICE" = some (.int 1000000000 t)
inductive StV (H:Hp)(v:V)(n:Str)(p:Int)(t:Addr):Prop
 | mk (a:Addr) (e:v=.ref a) (h:H a=some (.tup [.str n,.int p,.ref t])):StV H v n p t
theorem StV.same {H H':Hp}{v:V}{n:Str}{p:Int}{t:Addr}(s:Same H H')(h:StV H v n p t):StV H' v n p t:=by
 obtain⟨a,e,h⟩:=h
 exact⟨a,e,s _ _ h⟩
structure A2 {α:Type}(R:V->α->Prop)(vs:List V)(ts:List α):Prop where
 len:vs.length=ts.length
 got:∀(i:Nat) v t,vs[i]? = some v->ts[i]? = some t->R v t
theorem A2.mono {α:Type}{R S:V->α->Prop}{vs:List V}{ts:List α}(h:A2 R vs ts)(m:∀v t,v∈vs->R v t->S v t):A2 S vs ts:=⟨h.len,λi v t hv ht=>m v t (mem_of_getElem? hv) (h.got i v t hv ht)⟩
theorem A2.at {α:Type}{R:V->α->Prop}{vs:List V}{ts:List α}(h:A2 R vs ts){i:Nat}{v:V}(hv:vs[i]? = some v):∃t,ts[i]? = some t/\t∈ts/\R v t:=by
 have hl:=(List.getElem?_eq_some_iff.mp hv).1
 have hl2:i<ts.length:=by rw[<- h.len];exact hl
 exact⟨ts[i],getElem?_eq_getElem hl2,getElem_mem hl2,h.got i v _ hv (getElem?_eq_getElem hl2)⟩
theorem A2.app {α:Type}{R:V->α->Prop}{vs vs':List V}{ts ts':List α}(h:A2 R vs ts)(h':A2 R vs' ts'):A2 R (vs++vs') (ts++ts'):=⟨by rw[length_append,length_append,h.len,h'.len],λi v t hv ht=>by
 by_cases hi:i<vs.length
 ·rw[getElem?_append_left hi]at hv
  rw[getElem?_append_left (by rw[<- h.len];exact hi)]at ht
  exact h.got i v t hv ht
 rw[getElem?_append_right (by lia)]at hv
 rw[getElem?_append_right (by rw[<- h.len];lia),<- h.len]at ht
 exact h'.got _ v t hv ht⟩
structure Dee where
 name:Str
 price:Int
 tab:List (List Int)
structure Loo where
 name:Str
 price:Int
 tab:List (Option Str)
def oS:Option Str->V
 | none=>.non
 | some x=>.str x
inductive EnV (H:Hp)(v:V)(ns:List Int):Prop
 | mk (b:Addr) (e:v=.ref b) (h:H b=some (.lst (ns.map V.int))):EnV H v ns
inductive DeV (H:Hp)(v:V)(d:Dee):Prop
 | mk (t:Addr) (es:List V) (s:StV H v d.name d.price t) (ht:H t=some (.lst es)) (he:A2 (EnV H) es d.tab):DeV H v d
inductive LoV (H:Hp)(v:V)(l:Loo):Prop
 | mk (t:Addr) (s:StV H v l.name l.price t) (ht:H t=some (.lst (l.tab.map oS))):LoV H v l
theorem EnV.same {H H':Hp}{v:V}{ns:List Int}(s:Same H H')(h:EnV H v ns):EnV H' v ns:=by
 obtain⟨b,e,h⟩:=h
 exact⟨b,e,s _ _ h⟩
theorem DeV.same {H H':Hp}{v:V}{d:Dee}(s:Same H H')(h:DeV H v d):DeV H' v d:=by
 obtain⟨t,es,st,ht,he⟩:=h
 exact⟨t,es,st.same s,s _ _ ht,he.mono λv t _ r=>r.same s⟩
theorem LoV.same {H H':Hp}{v:V}{l:Loo}(s:Same H H')(h:LoV H v l):LoV H' v l:=by
 obtain⟨t,st,ht⟩:=h
 exact⟨t,st.same s,s _ _ ht⟩
inductive spCheckMany (vs:List V)(H:Hp)(Q:VK)(E0_:XK):Prop
 | mk (m:Int) (c0:vs=[.int m]) (c1:1<=m) (c2:m<=200) (c3:Q .non H):spCheckMany  vs H Q E0_
inductive spCheckName (vs:List V)(H:Hp)(Q:VK)(E0_:XK):Prop
 | mk (x:Str) (c0:vs=[.str x]) (c1:1<=x.length) (c2:x.length<=30) (c3:Q .non H):spCheckName  vs H Q E0_
inductive spCheckPrice (vs:List V)(H:Hp)(Q:VK)(E0_:XK):Prop
 | mk (p:Int) (c0:vs=[.int p]) (c1:1<=p) (c2:p<=1000000000) (c3:Q .non H):spCheckPrice  vs H Q E0_
inductive spCheckTable (vs:List V)(H:Hp)(Q:VK)(E0_:XK):Prop
 | mk (m:Int) (n:V) (t:Addr) (xs:List V) (c0:vs=[.int m,n,.ref t]) (c1:H t=some (.lst xs)) (c2:(xs.length:Int)=m) (c3:Q .non H):spCheckTable  vs H Q E0_
inductive spCheckEntry (vs:List V)(H:Hp)(Q:VK)(E0_:XK):Prop
 | mk (m:Int) (n:V) (b:Addr) (ns:List Int) (c0:vs=[.int m,n,.ref b]) (c1:H b=some (.lst (ns.map V.int))) (c2:ns.Pairwise (· < ·)) (c3:(∀x∈ns,0<=x/\x<m)) (c4:ns.length<=60) (c5:∀H':Hp,Same H H'->Q .non H'):spCheckEntry  vs H Q E0_
abbrev Zdn:List Str:=["many"]
abbrev nCheckMany:List Str:=["many"]
theorem scCheckMany:FnScope nCheckMany Zdn (Zaf Zdi):=Zav
abbrev Ze1:List Str:=["name"]
abbrev nCheckName:List Str:=["name"]
theorem scCheckName:FnScope nCheckName Ze1 (Zaf Zdh):=Zav
abbrev Zd7:List Str:=["price"]
abbrev nCheckPrice:List Str:=["price"]
theorem scCheckPrice:FnScope nCheckPrice Zd7 (Zaf Zcr):=Zav
abbrev Zc1:List Str:=["many", "name", "table"]
abbrev nCheckTable:List Str:=["many", "name", "table"]
theorem scCheckTable:FnScope nCheckTable Zc1 (Zaf Zb7):=Zav
abbrev Zd9:List Str:=["many", "name", "entry"]
abbrev nCheckEntry:List Str:=["many", "name", "entry"]
theorem scCheckEntry:FnScope nCheckEntry Zd9 (Zaf Zb9):=Zav
abbrev Zc2:List Str:=["deeds", "looks"]
abbrev nCheckSteps:List Str:=["deeds", "looks", "steps", "names", "step"]
theorem scCheckSteps:FnScope nCheckSteps Zc2 (Zaf Zb8):=Zav
structure StOk (s:Str×Int):Prop where
 n1:1<=s.1.length
 n2:s.1.length<=30
 p1:1<=s.2
 p2:s.2<=1000000000
inductive spCheckSteps (vs:List V)(H:Hp)(Q:VK)(E0_:XK):Prop
 | mk (a b:Addr) (ds ls:List V) (st:List (Str×Int)) (c0:vs=[.ref a,.ref b]) (c1:H a=some (.lst ds)) (c2:H b=some (.lst ls)) (c3:A2 (λv s=>∃t,StV H v s.1 s.2 t) (ds++ls) st) (c4:ds.length<=40) (c5:ls.length<=40) (c6:(st.map (·.1)).Nodup) (c7:(∀s∈st,StOk s)) (c8:∀H':Hp,Same H H'->Q .non H'):spCheckSteps  vs H Q E0_
structure KA {α:Type}(nm:α->Str)(R:V->α->Prop)(kvs:List (Key×V))(ds:List α):Prop where
 len:kvs.length=ds.length
 got:∀(i:Nat) kv d,kvs[i]? = some kv->ds[i]? = some d->kv.1=Sum.inr (nm d)/\R kv.2 d
theorem KA.nil {α:Type}{nm:α->Str}{R:V->α->Prop}:KA nm R [] []:=⟨rfl,λi kv d h _=>by cases h⟩
theorem KA.mono {α:Type}{nm:α->Str}{R S:V->α->Prop}{kvs:List (Key×V)}{ds:List α}(h:KA nm R kvs ds)(m:∀v d,d∈ds->R v d->S v d):KA nm S kvs ds:=⟨h.len,λi kv d h1 h2=>⟨(h.got i kv d h1 h2).1,m _ _ (mem_of_getElem? h2) (h.got i kv d h1 h2).2⟩⟩
theorem KA.snoc {α:Type}{nm:α->Str}{R:V->α->Prop}{kvs:List (Key×V)}{ds:List α}{d:α}{v:V}(h:KA nm R kvs ds)(r:R v d):KA nm R (kvs++[(Sum.inr (nm d),v)]) (ds++[d]):=⟨by simp[h.len],λi kv x hk hx=>by
 by_cases hi:i<kvs.length
 ·rw[getElem?_append_left hi]at hk
  rw[getElem?_append_left (by rw[<- h.len];exact hi)]at hx
  exact h.got i kv x hk hx
 rw[getElem?_append_right (by lia)]at hk
 rw[getElem?_append_right (by rw[<- h.len];lia),<- h.len]at hx
 have h0:i-kvs.length=0:=by
  have:=(List.getElem?_eq_some_iff.mp hk).1
  simp at this
  lia
 rw[h0]at hk hx
 cases hk
 cases hx
 exact⟨rfl,r⟩⟩
theorem KA.keysE {α:Type}{nm:α->Str}{R:V->α->Prop}{kvs:List (Key×V)}{ds:List α}(h:KA nm R kvs ds):kvs.map (·.1)=ds.map λd=>(Sum.inr (nm d):Key):=by
 apply List.ext_getElem?
 intro i
 rw[getElem?_map,getElem?_map]
 cases hk:kvs[i]? with
 | none=>
  have:kvs.length<=i:=List.getElem?_eq_none_iff.mp hk
  rw[getElem?_eq_none (by rw[<- h.len];exact this)]
  rfl
 | some kv=>
  have hl:=(List.getElem?_eq_some_iff.mp hk).1
  have hl2:i<ds.length:=by rw[<- h.len];exact hl
  rw[getElem?_eq_getElem hl2]
  show some kv.1=some _
  rw[(h.got i kv _ hk (getElem?_eq_getElem hl2)).1]
theorem KA.none {α:Type}{nm:α->Str}{R:V->α->Prop}{kvs:List (Key×V)}{ds:List α}(h:KA nm R kvs ds){x:Str}(hx:x∉ds.map nm):valV kvs (Sum.inr x:Key)=none:=by
 cases e:valV kvs (Sum.inr x:Key)with
 | none=>rfl
 | some v=>
  exfalso
  have:=Zhk e
  rw[h.keysE]at this
  obtain⟨d,hd,ed⟩:=mem_map.mp this
  exact hx (mem_map.mpr ⟨d,hd,Sum.inr.inj ed⟩)
theorem Zjt {kvs:List (Key×V)}(nd:(kvs.map (·.1)).Nodup){i:Nat}{kv:Key×V}(h:kvs[i]? = some kv):valV kvs kv.1=some kv.2:=by
 induction (kvs) generalizing i with
 | nil=>cases h
 | cons p r ih=>
  rw[map_cons]at nd
  (obtain⟨n1,n2⟩:=nodup_cons.mp nd)
  cases i with
  | zero=>
   cases h
   exact Zfl rfl
  | succ i=>
   have h':r[i]? = some kv:=h
   rw[Zfm (λe=>n1 (by rw[e];exact mem_map.mpr ⟨kv,mem_of_getElem? h',rfl⟩))]
   exact ih n2 h'
theorem KA.val {α:Type}{nm:α->Str}{R:V->α->Prop}{kvs:List (Key×V)}{ds:List α}(h:KA nm R kvs ds)(nd:(ds.map nm).Nodup){d:α}(hd:d∈ds):∃v,valV kvs (Sum.inr (nm d):Key)=some v/\R v d:=by
 obtain⟨i,hi⟩:=getElem?_of_mem hd
 have hl:=(List.getElem?_eq_some_iff.mp hi).1
 have hl2:i<kvs.length:=by rw[h.len];exact hl
 have hk:kvs[i]? = some kvs[i]:=getElem?_eq_getElem hl2
 obtain⟨e,r⟩:=h.got i _ d hk hi
 refine⟨kvs[i].2,?_,r⟩
 rw[<- e]
 refine Zjt ?_ hk
 rw[h.keysE]
 have:(ds.map λd=>(Sum.inr (nm d):Key))=(ds.map nm).map Sum.inr:=by rw[map_map];rfl
 rw[this]
 exact pairwise_map.mpr (List.Pairwise.imp (λh e=>h (Sum.inr.inj e)) nd)
inductive OuV (H:Hp)(v:V)(d:Dee):Prop
 | mk (t:Addr) (e:v=.ref t) (h:H t=some (.tup (d.tab.map λn=>V.int (bt n:Nat)))):OuV H v d
inductive AnV (H:Hp)(v:V)(l:Loo):Prop
 | mk (t:Addr) (e:v=.ref t) (h:H t=some (.tup (l.tab.map oS))):AnV H v l
structure DeOk (many:Nat)(d:Dee):Prop where
 len:d.tab.length=many
 up:∀e∈d.tab,e.Pairwise (· < ·)
 inn:∀e∈d.tab,∀x∈e,0<=x/\x<(many:Int)
 few:∀e∈d.tab,e.length<=60
theorem DeOk.wd {many:Nat}{d:Dee}(h:DeOk many d)(m:many<=200):∀e∈d.tab,Wd e:=λe he n hn=>⟨(h.inn e he n hn).1,by have:=(h.inn e he n hn).2;lia⟩
inductive spReadDeeds (vs:List V)(H:Hp)(Q:VK)(E0_:XK):Prop
 | mk (m:Nat) (a:Addr) (us:List V) (ds:List Dee) (c0:vs=[.int (m:Int),.ref a]) (c1:m<=200) (c2:H a=some (.lst us)) (c3:A2 (DeV H) us ds) (c4:(∀d∈ds,DeOk m d)) (c5:(ds.map Dee.name).Nodup) (c6:ds.length<=40) (c7:∀(d:Addr) (kvs:List (Key×V)) (H':Hp),Same H H'->H d=none->H' d=some (.dK kvs)->KA Dee.name (OuV H') kvs ds->Q (.ref d) H'):spReadDeeds  vs H Q E0_
inductive spReadLooks (vs:List V)(H:Hp)(Q:VK)(E0_:XK):Prop
 | mk (m:Nat) (a:Addr) (us:List V) (ls:List Loo) (c0:vs=[.int (m:Int),.ref a]) (c1:m<=200) (c2:H a=some (.lst us)) (c3:A2 (LoV H) us ls) (c4:(∀l∈ls,l.tab.length=m)) (c5:(ls.map Loo.name).Nodup) (c6:ls.length<=40) (c7:∀(d:Addr) (kvs:List (Key×V)) (H':Hp),Same H H'->H d=none->H' d=some (.dK kvs)->KA Loo.name (AnV H') kvs ls->Q (.ref d) H'):spReadLooks  vs H Q E0_
abbrev Zdm:List Str:=["many", "deeds"]
abbrev nReadDeeds:List Str:=["many", "deeds", "found", "deed", "name", "table", "entry"]
theorem scReadDeeds:FnScope nReadDeeds Zdm (Zaf Zcj):=Zav
abbrev Zdl:List Str:=["many", "looks"]
abbrev nReadLooks:List Str:=["many", "looks", "found", "look"]
theorem scReadLooks:FnScope nReadLooks Zdl (Zaf Zde):=Zav
theorem OuV.keep {H H':Hp}{v:V}{d:Dee}(k:∀b xs,H b=some (.tup xs)->H' b=some (.tup xs))(h:OuV H v d):OuV H' v d:=by
 obtain⟨t,e,h⟩:=h
 exact⟨t,e,k _ _ h⟩
theorem AnV.keep {H H':Hp}{v:V}{l:Loo}(k:∀b xs,H b=some (.tup xs)->H' b=some (.tup xs))(h:AnV H v l):AnV H' v l:=by
 obtain⟨t,e,h⟩:=h
 exact⟨t,e,k _ _ h⟩
theorem ok_checkmany {f:Addr}{fd:FuncData}(F:Fun K "check_many" "check_many" Zdi f fd)(M:Mc mg):FnOk P w K mg base CX0 1 f fd Zdn spCheckMany:=by
 obtain⟨t1,m1⟩:=M.mw
 refine F.oq scCheckMany λcdv A outer s H vs Q E hr h=>?_
 obtain⟨m,rfl,h1,h2,q⟩:=h
 refine⟨_,(Zag (Za2 (Zc4 (Zhu Zj7 Zj7 Zae (pv 0) (Zcc (v:=.int 200) (by rfl) m1 ⟨_,rfl⟩))) Zba Zan)),?_⟩
 refine⟨_,rfl,_,_,rfl,rfl,_,rfl,?_⟩
 rw[decide_eq_true h1]
 refine iteT ?_
 refine⟨_,_,rfl,rfl,_,rfl,?_⟩
 rw[decide_eq_true h2]
 exact iteF q
theorem ok_checkname {f:Addr}{fd:FuncData}(F:Fun K "check_name" "check_name" Zdh f fd)(T:Bl mg)(M:Mc mg):FnOk P w K mg base CX0 1 f fd Ze1 spCheckName:=by
 obtain⟨t1,m1⟩:=M.mn
 refine F.oq scCheckName λcdv A outer s H vs Q E hr h=>?_
 obtain⟨x,rfl,h1,h2,q⟩:=h
 have hsl:sizeLine=16777216:=sizeLine_eq
 refine⟨_,(Zag (Za2 (Zc4 (Zhu Zj7 Zj7 Zae (Zap Za8 (by rfl) T.len PySem.boot_len (Zaa (pv 0) Zab)) (Zcc (v:=.int 30) (by rfl) m1 ⟨_,rfl⟩))) Zba Zan)),?_⟩
 refine⟨_,rfl,_,_,rfl,⟨by lia,rfl⟩,_,_,rfl,rfl,_,rfl,?_⟩
 rw[decide_eq_true (show(1:Int)<=(x.length:Int) by lia)]
 refine iteT ?_
 refine⟨_,_,rfl,rfl,_,rfl,?_⟩
 rw[decide_eq_true (show(x.length:Int)<=30 by lia)]
 exact iteF q
theorem ok_checkprice {f:Addr}{fd:FuncData}(F:Fun K "check_price" "check_price" Zcr f fd)(M:Mc mg):FnOk P w K mg base CX0 1 f fd Zd7 spCheckPrice:=by
 obtain⟨t1,m1⟩:=M.mp
 refine F.oq scCheckPrice λcdv A outer s H vs Q E hr h=>?_
 obtain⟨m,rfl,h1,h2,q⟩:=h
 refine⟨_,(Zag (Za2 (Zc4 (Zhu Zj7 Zj7 Zae (pv 0) (Zcc (v:=.int 1000000000) (by rfl) m1 ⟨_,rfl⟩))) Zba Zan)),?_⟩
 refine⟨_,rfl,_,_,rfl,rfl,_,rfl,?_⟩
 rw[decide_eq_true h1]
 refine iteT ?_
 refine⟨_,_,rfl,rfl,_,rfl,?_⟩
 rw[decide_eq_true h2]
 exact iteF q
theorem ok_checktable {f:Addr}{fd:FuncData}(F:Fun K "check_table" "check_table" Zb7 f fd)(T:Bl mg):FnOk P w K mg base CX0 1 f fd Zc1 spCheckTable:=by
 refine F.oq scCheckTable λcdv A outer s H vs Q E hr h=>?_
 obtain⟨m,n,t,xs,rfl,ht,hm,q⟩:=h
 refine⟨_,(Zag (Za2 (Zao Zh8 (Zap Za8 (by rfl) T.len PySem.boot_len (Zaa (pv 2) Zab)) (pv 0) (Zar _)) Zba Zan)),?_⟩
 refine⟨_,rfl,_,_,rfl,.inl ⟨_,SqL.of ht,rfl⟩,_,rfl,rfl,_,rfl,?_⟩
 rw[hm]
 refine ite2 (λz=>?_) (λ_=>q)
 simp at z
theorem ok_checkentry {f:Addr}{fd:FuncData}(F:Fun K "check_entry" "check_entry" Zb9 f fd)(T:Bl mg):FnOk P w K mg base CX0 1 f fd Zd9 spCheckEntry:=by
 refine F.oq scCheckEntry λcdv A outer s H vs Q E hr h=>?_
 obtain⟨m,n,b,ns,rfl,hb,hp,hx,hl,q⟩:=h
 have hun:=hr.units
 have hsl:sizeLine=16777216:=sizeLine_eq
 refine⟨_,(Zac (Za2 (Zao (op_neLD hun) (Zay Zbf (by rfl) T.list Zbx (Zaa (pv 2) Zab)) (Zap (Zfh rfl) (by rfl) T.sorted Zet (Zaa (Zay (Zgx rfl) (by rfl) T.set Zjm (Zaa (pv 2) Zab)) Zab)) (Zar _)) Zba Zan)
  (Zag (Za2 (Zc4 (Zby (Zap (call_all rfl) (by rfl) T.all Znb (Zaa (Zcw (N:=["world", "many"]) (sc:=Zaf Zb9) (own:=["world"]) (fr:=["many"]) (js:=[0]) Zb4 rfl (Za4 (pv 2)) (λ_ _ _ _=>Za3 (i:=0) (show List.Nodup (["world", "many"]:List Str) by decide +kernel)) (λ_ _ _ _=>Zbn) (λ_ _ _ _=>(pe_chain Zj7 Zmn Zae (pv 0) (pv 1)))) Zab)))) Zba Zan))),?_⟩
 refine⟨_,rfl,b,_,rfl,.inl (SqL.of hb),λl1 hl1=>?_⟩
 obtain⟨H1,g0,s1,e1⟩:=gen1 (H:=H) (o:=.lst (ns.map V.int)) hl1
 rw[g0]
 have hb1:=s1 _ _ hb
 obtain⟨ds,ed,nd,me,ld⟩:=Zm7 ns
 have ek:ns.map V.int=(ns.map (Sum.inl:Int->Key)).map kV:=by rw[map_map];rfl
 refine⟨_,rfl,b,ns.map Sum.inl,rfl,SqL.of (by rw[<- ek];exact hb1),by rw[length_map];lia,λst hst=>?_⟩
 rw[ed]
 have s2:Same H1 (upd H1 st (setG P w st (ds.map Sum.inl))):=Same.new hst
 refine⟨st,ds,rfl,Zad,nd,by lia,λl2 zs hl2 pm so=>?_⟩
 have hz:zs=ns:=by
  have pn:ds.Perm ns:=(perm_ext_iff_of_nodup nd (hp.imp λh=>Int.ne_of_lt h)).mpr me
  exact List.Perm.eq_of_pairwise (le:=(·<=·)) (λa b _ _ h1 h2=>by lia) so (hp.imp λh=>Int.le_of_lt h) (pm.trans pn)
 subst hz
 have s3:Same H1 (upd (upd H1 st (setG P w st (ds.map Sum.inl))) l2 (.lst (zs.map V.int))):=Same.put (H':=upd H1 st (setG P w st (ds.map Sum.inl))) (o:=.lst (zs.map V.int)) s2 (s2.free hl2)
 have e3:(upd (upd H1 st (setG P w st (ds.map Sum.inl))) l2 (.lst (zs.map V.int))) l2=some (.lst (zs.map V.int)):=Zad
 refine⟨l1,l2,_,_,_,_,rfl,rfl,s3 _ _ e1,e3,Zcu _,Zcu _,Zc6 _,Zc6 _,_,rfl,?_⟩
 rw[Zlg]
 refine iteF ?_
 have hb2:=s3 _ _ hb1
 refine⟨_,rfl,b,rfl,⟨_,SqL.of hb2⟩,λD hD=>?_⟩
 refine lcJ (n:=zs.length) (λi ys H3=>ys=(replicate i true).map V.bl/\Same (upd (upd H1 st (setG P w st (ds.map Sum.inl))) l2 (.lst (zs.map V.int))) H3/\H3 D=some (.lst ys)) ⟨rfl,Same.new hD,Zad⟩
  (λi ys H3 hi hh0=>by obtain⟨_,s4,_⟩:=hh0;exact⟨_,.int zs[i],SqL.of (s4 _ _ hb2),by simp[hi]⟩) (λys H3 hh0=>by obtain⟨_,s4,_⟩:=hh0;exact⟨_,SqL.of (s4 _ _ hb2),by simp⟩) ?_ ?_
 ·rintro i ys H3 y H4 hi ⟨rfl,s4,e4⟩ ⟨rfl,hy⟩
  refine Zbu ?_
  have hy2:y=.int zs[i]:=by
   have:=hy _ (SqL.of (s4 _ _ hb2))
   rw[getElem?_map,getElem?_eq_getElem hi]at this
   (exact(Option.some.inj this).symm)
  subst hy2
  obtain⟨x0,x1⟩:=hx _ (getElem_mem hi)
  refine⟨_,rfl,_,_,rfl,rfl,_,rfl,?_⟩
  rw[decide_eq_true x0]
  refine iteT ?_
  refine⟨_,rfl,_,_,rfl,rfl,?_⟩
  rw[decide_eq_true x1]
  refine⟨_,e4,by rw[length_map,length_replicate];lia,?_,s4.put hD,Zad⟩
  rw[List.replicate_succ',map_append]
  rfl
 rintro ys H3 ⟨rfl,s4,e4⟩
 refine⟨D,_,rfl,SqL.of e4,_,rfl,?_⟩
 rw[show(replicate zs.length true).all (λb=>b)=true from all_eq_true.mpr λb hb=>(List.mem_replicate.mp hb).2]
 exact iteF (q H3 ((s1.trans s3).trans s4))
theorem ok_checksteps {f:Addr}{fd:FuncData}(F:Fun K "check_steps" "check_steps" Zb8 f fd)(T:Bl mg)(M:Mc mg)(C_check_name:Ca P w K mg base CX0 1 "check_name" Zdh Ze1 spCheckName)(C_check_price:Ca P w K mg base CX0 1 "check_price" Zcr Zd7 spCheckPrice):FnOk P w K mg base CX0 2 f fd Zc2 spCheckSteps:=by
 obtain⟨t1,m1⟩:=M.ms
 refine F.oq scCheckSteps λcdv A outer s H vs Q E hr1 h=>?_
 obtain⟨a,b,ds,ls,st,rfl,ha,hb,hst,fd',fl,nd,ok,q⟩:=h
 have hsl:sizeLine=16777216:=sizeLine_eq
 refine⟨_,(Zac (Za2 (PW.pt (Zgz (Zao Zmo (Zap Za8 (by rfl) T.len PySem.boot_len (Zaa (pv 0) Zab)) (Zcc (v:=.int 40) (by rfl) m1 ⟨_,rfl⟩) (Zar _)) (Zej (Zao Zmo (Zap Za8 (by rfl) T.len PySem.boot_len (Zaa (pv 1) Zab)) (Zcc (v:=.int 40) (by rfl) m1 ⟨_,rfl⟩) (Zar _))))) Zba Zan)
  (Zac (Zaw (i:=2) scCheckSteps.nd (Zau Zmp (Zay Zbf (by rfl) T.list Zbx (Zaa (pv 0) Zab)) (Zay Zbf (by rfl) T.list Zbx (Zaa (pv 1) Zab))))
  (Zac (Zlt (i:=3) (N:=["step"]) (sc:=Zaf Zb8) (own:=["step"]) (fr:=[]) (js:=[]) scCheckSteps.nd rfl rfl Zb4 rfl (Za4 (pv 2)) (λ_ _ _ _=>Za3 (i:=0) (show List.Nodup (["step"]:List Str) by decide +kernel)) (λ_ _ _ _=>Zbn) (λ_ _ _ _=>(Zas (Zb2 K rfl) (pv 0) Zae (λ_ _=>rfl))))
  (Zac (Za2 (Zao Zmn (Zap Zjk (by rfl) T.len PySem.boot_len (Zaa (Zay (Zjj rfl) (by rfl) T.set Zjm (Zaa (pv 3) Zab)) Zab)) (Zap Za8 (by rfl) T.len PySem.boot_len (Zaa (pv 3) Zab)) (Zar _)) Zba Zan)
  (Zag (Zbh PassesOwn.never rfl (Za4 (pv 2)) (Za3 (i:=4) scCheckSteps.nd)
   (Zac (Zaz (Zaq C_check_name hr1 Zak (Zaa (Zas Zat (pv 4) Zae (λ_ _=>rfl)) Zab)))
  (Zag (Zaz (Zaq C_check_price hr1 Zak (Zaa (Zas Zat (pv 4) Zae (λ_ _=>rfl)) Zab))))))))))),?_⟩
 refine⟨_,rfl,_,_,rfl,.inl ⟨_,SqL.of ha,rfl⟩,_,_,rfl,rfl,_,rfl,?_⟩
 refine ite2 (λz=>?_) (λ_=>?_)
 ·exfalso
  have:=of_decide_eq_true z
  lia
 refine⟨_,rfl,_,_,rfl,.inl ⟨_,SqL.of hb,rfl⟩,_,_,rfl,rfl,_,rfl,?_⟩
 refine ite2 (λz=>?_) (λ_=>?_)
 ·exfalso
  have:=of_decide_eq_true z
  lia
 refine⟨_,rfl,a,_,rfl,.inl (SqL.of ha),λl1 hl1=>?_⟩
 obtain⟨H1,g0,s1,e1⟩:=gen1 (H:=H) (o:=.lst ds) hl1
 rw[g0]
 refine⟨_,rfl,b,_,rfl,.inl (SqL.of (s1 _ _ hb)),λl2 hl2=>?_⟩
 obtain⟨H2,g0,s2,e2⟩:=gen1 (H:=H1) (o:=.lst ls) hl2
 rw[g0]
 refine⟨l1,l2,_,_,rfl,rfl,s2 _ _ e1,e2,by lia,λl3 hl3=>?_⟩
 obtain⟨H3,g0,s3,e3⟩:=gen1 (H:=H2) (o:=.lst (ds++ls)) hl3
 rw[g0]
 have s13:=(s1.trans s2).trans s3
 have hst3:=hst.mono λv s _ ⟨t,r⟩=>(⟨t,r.same s13⟩:∃t,StV H3 v s.1 s.2 t)
 have hsl2:=hst.len
 have hdl:(ds++ls).length<=80:=by rw[length_append];lia
 generalize ds++ls=xs at e3 hst3 hsl2 hdl
 -- the names
 refine⟨_,rfl,l3,rfl,⟨_,SqL.of e3⟩,λD hD=>?_⟩
 refine lcJ (n:=xs.length) (λi ys H4=>ys=((st.take i).map (·.1)).map V.str/\Same H3 H4/\H4 D=some (.lst ys)) ⟨rfl,Same.new hD,Zad⟩
  (λi ys H4 hi hh0=>by obtain⟨_,s4,_⟩:=hh0;exact⟨_,xs[i],SqL.of (s4 _ _ e3),by simp[hi]⟩) (λys H4 hh0=>by obtain⟨_,s4,_⟩:=hh0;exact⟨_,SqL.of (s4 _ _ e3),by simp⟩) ?_ ?_
 ·rintro i ys H4 y H5 hi ⟨rfl,s4,e4⟩ ⟨rfl,hy⟩
  refine Zbu ?_
  obtain⟨sp,hsp,hmem,t,a',rfl,et⟩:=hst3.at (hy _ (SqL.of (s4 _ _ e3)))
  have at0:atI [V.str sp.1,V.int sp.2,V.ref t] ((0:Nat):Int)=some (.str sp.1):=Zal rfl
  refine⟨_,rfl,a',_,_,_,rfl,rfl,SqT.of (s4 _ _ et),at0,_,e4,by simp only[length_map,length_take];lia,?_,s4.put hD,Zad⟩
  obtain⟨hi2,e⟩:=List.getElem?_eq_some_iff.mp hsp
  rw[take_succ_eq_append_getElem hi2,map_append,map_append,e]
  rfl
 rintro ys H4 ⟨rfl,s4,e4⟩
 rw[hsl2,take_length]at e4
 have hnl:(st.map (·.1)).length=st.length:=length_map ..
 have ek:(st.map (·.1)).map V.str=((st.map (·.1)).map (Sum.inr:Str->Key)).map kV:=by
  rw[map_map,map_map,map_map]
  rfl
 have hdd:=Zl0 nd
 have hks:((st.map (·.1)).map (Sum.inr:Str->Key)).length=st.length:=by rw[length_map,length_map]
 refine⟨_,rfl,D,(st.map (·.1)).map Sum.inr,rfl,SqL.of (by rw[<- ek];exact e4),by lia,λst' hst'=>?_⟩
 have s5:Same H4 (upd H4 st' (setO P w st' (SK.dd (kAt ((st.map (·.1)).map (Sum.inr:Str->Key))) ((st.map (·.1)).map (Sum.inr:Str->Key)).length).length)):=Same.new hst'
 refine⟨st',_,rfl,Zad,_,rfl,_,_,rfl,.inl ⟨_,SqL.of (s5 _ _ e4),rfl⟩,_,_,rfl,rfl,_,rfl,?_⟩
 have hml:((st.map (·.1)).map V.str).length=(st.map (·.1)).length:=length_map ..
 refine ite2 (λhlt=>?_) (λ_=>?_)
 ·exfalso
  have:=of_decide_eq_true hlt
  rw[hml,hdd]at this
  lia
 have s45:=s4.trans s5
 have e35:=s45 _ _ e3
 refine⟨_,rfl,l3,rfl,⟨_,SqL.of e35⟩,Zbc (K:=K) (a:=l3) (xs:=xs) (λi σ H6=>∃v4:Option V,σ = [some (.ref a),some (.ref b),some (.ref l3),some (.ref D),v4]/\Same H3 H6) ⟨none,rfl,s45⟩ (λi σ H6 _ hh0=>by obtain⟨_,_,s6⟩:=hh0;exact SqL.of (s6 _ _ e3)) ?_ ?_⟩
 ·rintro i y σ H6 hy ⟨v4,rfl,s6⟩
  obtain⟨sp,hsp,hmem,t,a',rfl,et⟩:=hst3.at hy
  have at0:atI [V.str sp.1,V.int sp.2,V.ref t] ((0:Nat):Int)=some (.str sp.1):=Zal rfl
  have at1:atI [V.str sp.1,V.int sp.2,V.ref t] ((1:Nat):Int)=some (.int sp.2):=Zal rfl
  have et6:=s6 _ _ et
  have o:=ok _ hmem
  refine⟨_,rfl,a',_,_,_,rfl,rfl,SqT.of et6,at0,sp.1,rfl,o.n1,o.n2,?_⟩
  refine⟨_,rfl,a',_,_,_,rfl,rfl,SqT.of et6,at1,sp.2,rfl,o.p1,o.p2,?_⟩
  exact⟨_,rfl,s6⟩
 rintro σ H6 ⟨v4,rfl,s6⟩
 exact q H6 (s13.trans s6)
theorem ok_readlooks {f:Addr}{fd:FuncData}(F:Fun K "read_looks" "read_looks" Zde f fd)(T:Bl mg)(C_check_table:Ca P w K mg base CX0 1 "check_table" Zb7 Zc1 spCheckTable):FnOk P w K mg base CX0 2 f fd Zdl spReadLooks:=by
 refine F.oq scReadLooks λcdv A outer s H vs Q E hr1 h=>?_
 obtain⟨m,a,us,ls,rfl,hm,ha,hl,ok,nd,few,q⟩:=h
 have hu:=Zfk hr1
 have hsl:sizeLine=16777216:=sizeLine_eq
 have hul:=hl.len
 refine⟨_,(Zac (Zaw (i:=2) scReadLooks.nd Zfs)
  (Zac (Zbh PassesOwn.never rfl (Za4 (pv 1)) (Za3 (i:=3) scReadLooks.nd)
   (Zac (Zaz (Zaq C_check_table hr1 Zak (Zaa (pv 0) (Zaa (Zas Zat (pv 3) Zae (λ_ _=>rfl)) (Zaa (Zas Zat (pv 3) Zae (λ_ _=>rfl)) Zab)))))
  (Zag (Zgb hu (pv 2) (Zas Zat (pv 3) Zae (λ_ _=>rfl)) (Zay Zb5 (by rfl) T.tuple Zes (Zaa (Zas Zat (pv 3) Zae (λ_ _=>rfl)) Zab)) rfl))))
  (Zag (Zam (pv 2))))),?_⟩
 intro d hd
 have s0:Same H (upd H d (.dK [])):=Same.new hd
 refine⟨_,rfl,a,rfl,⟨_,SqL.of (s0 _ _ ha)⟩,Zbc (K:=K) (a:=a) (xs:=us) (λi σ H2=>∃(v3:Option V) (kvs:List (Key×V)),σ = [some (.int (m:Int)),some (.ref a),some (.ref d),v3]/\Same H H2/\H2 d=some (.dK kvs)/\KA Loo.name (AnV H2) kvs (ls.take i)) ⟨none,[],rfl,s0,Zad,by rw[take_zero];exact KA.nil⟩
  (λi σ H2 _ hh0=>by obtain⟨_,_,_,s2,_⟩:=hh0;exact SqL.of (s2 _ _ ha)) ?_ ?_⟩
 ·rintro i y σ H2 hy ⟨v3,kvs,rfl,s2,e2,ka⟩
  obtain⟨l,hli,hlm,t,⟨a',rfl,et⟩,ht⟩:=hl.at hy
  have at0:atI [V.str l.name,V.int l.price,V.ref t] ((0:Nat):Int)=some (.str l.name):=Zal rfl
  have at2:atI [V.str l.name,V.int l.price,V.ref t] ((2:Nat):Int)=some (.ref t):=Zal rfl
  have et2:=s2 _ _ et
  have ht2:=s2 _ _ ht
  have htl:(l.tab.map oS).length=m:=by rw[length_map];exact ok l hlm
  have hkl:=ka.len
  rw[length_take]at hkl
  obtain⟨hi2,ei⟩:=List.getElem?_eq_some_iff.mp hli
  have hnone:valV kvs (Sum.inr l.name:Key)=none:=ka.none λz=>by
   have hnd:((ls.take (i+1)).map Loo.name).Nodup:=by
    rw[map_take]
    exact List.Sublist.nodup (take_sublist _ _) nd
   rw[take_succ_eq_append_getElem hi2,ei,map_append]at hnd
   exact(nodup_append.mp hnd).2.2 _ z l.name (mem_singleton.mpr rfl) rfl
  refine⟨_,rfl,_,rfl,a',_,_,_,rfl,rfl,SqT.of et2,at0,_,rfl,a',_,_,_,rfl,rfl,SqT.of et2,at2,_,_,t,_,rfl,ht2,by rw[htl],?_⟩
  refine⟨_,rfl,a',_,_,_,rfl,rfl,SqT.of et2,at2,t,_,rfl,.inl ⟨SqL.of ht2,λtp htp=>?_⟩⟩
  have s3:Same H2 (upd H2 tp (.tup (l.tab.map oS))):=Same.new htp
  refine⟨_,rfl,_,rfl,a',_,_,_,rfl,rfl,SqT.of (s3 _ _ et2),at0,d,_,rfl,DPut.k (k:=(Sum.inr l.name:Key)) (s3 _ _ e2) (by lia),?_⟩
  rw[Zdk _ hnone]
  refine⟨_,_,rfl,(s2.trans s3).put hd,Zad,?_⟩
  have dt:tp≠d:=(Zah e2 htp).symm
  rw[take_succ_eq_append_getElem hi2,ei]
  refine KA.snoc (ka.mono λv x _ r=>r.keep λb xs e=>?_) ⟨tp,rfl,by rw[Zaj dt];exact Zad⟩
  rw[Zaj (Zbg e e2 (by intro z;cases z))]
  exact s3 _ _ e
 rintro σ H2 ⟨v3,kvs,rfl,s2,e2,ka⟩
 rw[hul,take_length]at ka
 exact⟨_,rfl,q d kvs H2 s2 hd e2 ka⟩
theorem ok_readdeeds {f:Addr}{fd:FuncData}(F:Fun K "read_deeds" "read_deeds" Zcj f fd)(T:Bl mg)(C_check_table:Ca P w K mg base CX0 1 "check_table" Zb7 Zc1 spCheckTable)(C_check_entry:Ca P w K mg base CX0 1 "check_entry" Zb9 Zd9 spCheckEntry)(C_set_of:Ca P w K mg base CX0 1 "set_of" Zf0 Zhd (spSetOf K)):FnOk P w K mg base CX0 2 f fd Zdm spReadDeeds:=by
 refine F.oq scReadDeeds λcdv A outer s H vs Q E hr1 h=>?_
 obtain⟨m,a,us,ds,rfl,hm,ha,hl,ok,nd,few,q⟩:=h
 have hu:=Zfk hr1
 have hsl:sizeLine=16777216:=sizeLine_eq
 have hul:=hl.len
 refine⟨_,(Zac (Zaw (i:=2) scReadDeeds.nd Zfs)
  (Zac (Zbh PassesOwn.never rfl (Za4 (pv 1)) (Za3 (i:=3) scReadDeeds.nd)
   (Zac (Zaw (i:=4) scReadDeeds.nd (Zas Zat (pv 3) Zae (λ_ _=>rfl)))
  (Zac (Zaw (i:=5) scReadDeeds.nd (Zas Zat (pv 3) Zae (λ_ _=>rfl)))
  (Zac (Zaz (Zaq C_check_table hr1 Zak (Zaa (pv 0) (Zaa (pv 4) (Zaa (pv 5) Zab)))))
  (Zac (Zbh PassesOwn.never rfl (Za4 (pv 5)) (Za3 (i:=6) scReadDeeds.nd)
   (Zag (Zaz (Zaq C_check_entry hr1 Zak (Zaa (pv 0) (Zaa (pv 4) (Zaa (pv 6) Zab)))))))
  (Zag (Zgb hu (pv 2) (pv 4) (Zay Zb5 (by rfl) T.tuple Zes (Zaa (Zcw (N:=["entry"]) (sc:=Zaf Zcj) (own:=["entry"]) (fr:=[]) (js:=[]) Zb4 rfl (Za4 (pv 5)) (λ_ _ _ _=>Za3 (i:=0) (show List.Nodup (["entry"]:List Str) by decide +kernel)) (λ_ _ _ _=>Zbn) (λ_ _ _ _=>(Zaq C_set_of hr1 Zak (Zaa (pv 0) Zab)))) Zab)) rfl)))))))
  (Zag (Zam (pv 2))))),?_⟩
 intro d hd
 have s0:Same H (upd H d (.dK [])):=Same.new hd
 refine⟨_,rfl,a,rfl,⟨_,SqL.of (s0 _ _ ha)⟩,Zbc (K:=K) (a:=a) (xs:=us) (λi σ H2=>∃(v3 v4 v5 v6:Option V) (kvs:List (Key×V)),σ = [some (.int (m:Int)),some (.ref a),some (.ref d),v3,v4,v5,v6]/\Same H H2/\H2 d=some (.dK kvs)/\KA Dee.name (OuV H2) kvs (ds.take i)) ⟨none,none,none,none,[],rfl,s0,Zad,by rw[take_zero];exact KA.nil⟩
  (λi σ H2 _ hh0=>by obtain⟨_,_,_,_,_,_,s2,_⟩:=hh0;exact SqL.of (s2 _ _ ha)) ?_ ?_⟩
 ·rintro i y σ H2 hy ⟨v3,v4,v5,v6,kvs,rfl,s2,e2,ka⟩
  obtain⟨l,hli,hlm,t,es,⟨a',rfl,et⟩,ht,he⟩:=hl.at hy
  have at0:atI [V.str l.name,V.int l.price,V.ref t] ((0:Nat):Int)=some (.str l.name):=Zal rfl
  have at2:atI [V.str l.name,V.int l.price,V.ref t] ((2:Nat):Int)=some (.ref t):=Zal rfl
  have et2:=s2 _ _ et
  have ht2:=s2 _ _ ht
  have o:=ok l hlm
  have hel:=he.len
  have hkl:=ka.len
  rw[length_take]at hkl
  obtain⟨hi2,ei⟩:=List.getElem?_eq_some_iff.mp hli
  have hnone:valV kvs (Sum.inr l.name:Key)=none:=ka.none λz=>by
   have hnd:((ds.take (i+1)).map Dee.name).Nodup:=by
    rw[map_take]
    exact List.Sublist.nodup (take_sublist _ _) nd
   rw[take_succ_eq_append_getElem hi2,ei,map_append]at hnd
   exact(nodup_append.mp hnd).2.2 _ z l.name (mem_singleton.mpr rfl) rfl
  refine⟨_,rfl,a',_,_,_,rfl,rfl,SqT.of et2,at0,?_⟩
  refine⟨_,rfl,a',_,_,_,rfl,rfl,SqT.of et2,at2,?_⟩
  refine⟨_,rfl,_,rfl,_,rfl,_,_,t,_,rfl,ht2,by rw[hel,o.len],?_⟩
  refine⟨_,rfl,t,rfl,⟨_,SqL.of ht2⟩,Zbc (K:=K) (a:=t) (xs:=es) (λj σ H3=>(∃v6':Option V,σ = [some (.int (m:Int)),some (.ref a),some (.ref d),some (.ref a'),some (.str l.name),some (.ref t),v6'])/\Same H2 H3) ⟨⟨_,rfl⟩,Same.refl _⟩ (λj σ H3 _ hh0=>by obtain⟨_,s3⟩:=hh0;exact SqL.of (s3 _ _ ht2)) ?_ ?_⟩
  ·rintro j y σ H3 hy' ⟨⟨v6',rfl⟩,s3⟩
   obtain⟨ns,hns,hnm,b,rfl,eb⟩:=he.at hy'
   exact⟨_,rfl,_,rfl,_,rfl,_,_,b,ns,rfl,(s2.trans s3) _ _ eb,o.up ns hnm,o.inn ns hnm,o.few ns hnm,λH4 s4=>⟨⟨_,rfl⟩,s3.trans s4⟩⟩
  rintro σ H3 ⟨⟨v6',rfl⟩,s3⟩
  have ht3:=s3 _ _ ht2
  refine⟨_,rfl,t,rfl,⟨_,SqL.of ht3⟩,λD hD=>?_⟩
  refine lcJ (n:=es.length) (λj ys H4=>ys=(l.tab.take j).map (λn=>V.int (bt n:Nat))/\Same H3 H4/\H4 D=some (.lst ys)) ⟨rfl,Same.new hD,Zad⟩
   (λj ys H4 hj hh0=>by obtain⟨_,s4,_⟩:=hh0;exact⟨_,es[j],SqL.of (s4 _ _ ht3),by simp[hj]⟩) (λys H4 hh0=>by obtain⟨_,s4,_⟩:=hh0;exact⟨_,SqL.of (s4 _ _ ht3),by simp⟩) ?_ ?_
  ·rintro j ys H4 y H5 hj ⟨rfl,s4,e4⟩ ⟨rfl,hy'⟩
   refine Zbu ?_
   obtain⟨ns,hns,hnm,b,rfl,eb⟩:=he.at (hy' _ (SqL.of (s4 _ _ ht3)))
   refine⟨_,rfl,b,ns,rfl,SqL.of (((s2.trans s3).trans s4) _ _ eb),o.wd hm ns hnm,_,e4,by rw[length_map,length_take,o.len];lia,?_,s4.put hD,Zad⟩
   obtain⟨hj2,ej⟩:=List.getElem?_eq_some_iff.mp hns
   rw[take_succ_eq_append_getElem hj2,map_append,ej]
   rfl
  rintro ys H4 ⟨rfl,s4,e4⟩
  rw[hel,take_length]at e4
  refine⟨D,_,rfl,.inl ⟨SqL.of e4,λtp htp=>?_⟩⟩
  have s24:=s3.trans s4
  have s3':Same H4 (upd H4 tp (.tup (l.tab.map λn=>V.int (bt n:Nat)))):=Same.new htp
  have e24:=s24 _ _ e2
  refine⟨_,rfl,_,rfl,d,_,rfl,DPut.k (k:=(Sum.inr l.name:Key)) (s3' _ _ e24) (by lia),?_⟩
  rw[Zdk _ hnone]
  refine⟨_,_,_,_,_,rfl,((s2.trans s24).trans s3').put hd,Zad,?_⟩
  have dt:tp≠d:=(Zah e24 htp).symm
  rw[take_succ_eq_append_getElem hi2,ei]
  refine KA.snoc (ka.mono λv x _ r=>r.keep λb xs e=>?_) ⟨tp,rfl,by rw[Zaj dt];exact Zad⟩
  rw[Zaj (Zbg e e2 (by intro z;cases z))]
  exact s3' _ _ (s24 _ _ e)
 rintro σ H2 ⟨v3,v4,v5,v6,kvs,rfl,s2,e2,ka⟩
 rw[hul,take_length]at ka
 exact⟨_,rfl,q d kvs H2 s2 hd e2 ka⟩
theorem Zka:bootBuiltins "enumerate" = some (.type "enumerate"):=by decide +kernel
theorem Zii:bootBuiltins "dict" = some (.type "dict"):=by decide +kernel
theorem lcJ2 {J:It}{n:Nat}{D:Addr}{ρ:L2.St}{tc:TT}{te:TE}{fin:Hp->Prop}{H0:Hp}(Pv:Nat->List V->Hp->Prop)(h0:Pv 0 [] (upd H0 D (.lst [])))
  (go:∀i ys H,i<n->Pv i ys H->J.go i H)(stop:∀ys H,Pv n ys H->J.stop n H)
  (hs:∀i ys H x H1,i<n->Pv i ys H->J.yld i H x H1->∃(a:Addr) (u v:V),x=.ref a/\SqT K H1 a [u,v]/\tc (some u::some v::ρ) H1 λb H3=>if b=true then te (some u::some v::ρ) H3 λy H4=>∃zs,H4 D=some (.lst zs)/\zs.length<sizeLine/\Pv (i+1) (zs++[y]) (upd H4 D (.lst (zs++[y])))else Pv (i+1) ys H3)
  (hd:∀ys H,Pv n ys H->fin H):∃W:Nat->Nat->List V->Hp->Prop,(∃m,W 0 m [] (upd H0 D (.lst [])))/\tLcB J D (none::none::ρ) (gTup K 2 (gCons (Zgt 0) (gCons (Zgt 1) gNil))) tc te fin W:=by
 refine⟨λi m ys H=>m=n-i/\i<=n/\Pv i ys H,⟨n,rfl,zero_le _,h0⟩,?_⟩
 rintro i m ys H ⟨rfl,hi,p⟩
 by_cases hlt:i<n
 ·refine .inr ⟨go i ys H hlt p,Pv (i+1),λys' H' p'=>⟨n-(i+1),by lia,rfl,hlt,p'⟩,λx H1 y=>?_⟩
  obtain⟨a,u,v,rfl,hq,h⟩:=hs i ys H x H1 hlt p y
  exact⟨a,_,rfl,hq,rfl,_,_,rfl,_,_,rfl,rfl,sub_nones,h⟩
 have e:i=n:=by lia
 subst e
 exact .inl ⟨stop ys H p,hd ys H p⟩
theorem for_enum {a:Addr}{xs:List V}{g:TG}{tb:TS}{D:Ends}{σ:L2.St}{H:Hp}(Pv:Nat->L2.St->Hp->Prop)(h0:Pv 0 σ H)(hl:∀i σ H,i<=xs.length->Pv i σ H->SqT K H a xs)
  (hs:∀i x p σ H,xs[i]? = some x->Pv i σ H->H p=none->g (.ref p) σ (upd H p (.tup [.int (i:Nat),x])) λσ2 H2=>tb { D with nx:=Pv (i+1),ct:=Pv (i+1),bk:=D.nx } σ2 H2)(hd:∀σ H,Pv xs.length σ H->D.nx σ H) :
  ∃W:Nat->Nat->L2.St->Hp->Prop,(∃m,W 0 m σ H)/\∀i m σ H,W i m σ H ->
   ((Ite K a).stop i H/\D.nx σ H)\/((Ite K a).go i H/\∃N:L2.St->Hp->Prop,(∀σ' H',N σ' H'->∃m',m'<m/\W (i+1) m' σ' H')/\∀x H',(Ite K a).yld i H x H'->g x σ H' λσ2 H2=>tb { D with nx:=N,ct:=N,bk:=D.nx } σ2 H2):=by
 refine⟨λi m σ H=>m=xs.length-i/\i<=xs.length/\Pv i σ H,⟨xs.length,by simp,zero_le _,h0⟩,?_⟩
 rintro i m σ H ⟨rfl,hi,p⟩
 have q:=hl i σ H hi p
 by_cases hlt:i<xs.length
 ·refine .inr ⟨⟨xs,xs[i],q,by simp[hlt]⟩,Pv (i+1),λσ' H' p'=>⟨xs.length-(i+1),by lia,rfl,hlt,p'⟩,λx H' y=>?_⟩
  obtain⟨pp,x',rfl,hp,rfl,hx⟩:=y
  exact hs i x' pp σ H (hx xs q) p hp
 have e:i=xs.length:=by lia
 subst e
 exact .inl ⟨⟨xs,q,rfl⟩,hd σ H p⟩
theorem Zja {a:Addr}{o:Obj}{kvs:List (Key×V)}{g:TG}{tb:TS}{D:Ends}{σ:L2.St}{H:Hp}(Pv:Nat->L2.St->Hp->Prop)(h0:Pv 0 σ H)(hl:∀i σ H,i<=kvs.length->Pv i σ H->H a=some (.frz o (.dK kvs)))
  (hs:∀i kv p σ H,kvs[i]? = some kv->Pv i σ H->H p=none->g (.ref p) σ (upd H p (.tup [kV kv.1,kv.2])) λσ2 H2=>tb { D with nx:=Pv (i+1),ct:=Pv (i+1),bk:=D.nx } σ2 H2)(hd:∀σ H,Pv kvs.length σ H->D.nx σ H) :
  ∃W:Nat->Nat->L2.St->Hp->Prop,(∃m,W 0 m σ H)/\∀i m σ H,W i m σ H ->
   ((Iti a o kvs).stop i H/\D.nx σ H)\/((Iti a o kvs).go i H/\∃N:L2.St->Hp->Prop,(∀σ' H',N σ' H'->∃m',m'<m/\W (i+1) m' σ' H')/\∀x H',(Iti a o kvs).yld i H x H'->g x σ H' λσ2 H2=>tb { D with nx:=N,ct:=N,bk:=D.nx } σ2 H2):=by
 refine⟨λi m σ H=>m=kvs.length-i/\i<=kvs.length/\Pv i σ H,⟨kvs.length,by simp,zero_le _,h0⟩,?_⟩
 rintro i m σ H ⟨rfl,hi,p⟩
 have q:=hl i σ H hi p
 by_cases hlt:i<kvs.length
 ·refine .inr ⟨⟨hlt,q⟩,Pv (i+1),λσ' H' p'=>⟨kvs.length-(i+1),by lia,rfl,hlt,p'⟩,λx H' y=>?_⟩
  obtain⟨pp,k,v,rfl,hp,rfl,hx⟩:=y
  exact hs i (k,v) pp σ H hx p hp
 have e:i=kvs.length:=by lia
 subst e
 exact .inl ⟨⟨Nat.le_refl _,q⟩,hd σ H p⟩
def ixs (tab:List (Option Str))(s:Str):List Int:=((List.range tab.length).filter λi=>decide (tab[i]? = some (some s))).map λi:Nat=>(i:Int)
theorem Zic (tab:List (Option Str))(x:Option Str)(s:Str):ixs (tab++[x]) s=ixs tab s++(if x=some s then [(tab.length:Int)]else []):=by
 unfold ixs
 rw[length_append,length_singleton,range_succ,filter_append,map_append]
 congr 1
 ·congr 1
  refine filter_congr λi hi=>?_
  rw[getElem?_append_left (mem_range.mp hi)]
 by_cases h:x=some s
 ·rw[if_pos h,List.filter_cons_of_pos (by simp[h])]
  rfl
 rw[if_neg h,List.filter_cons_of_neg (by simp[h])]
 rfl
structure PsOk (tab:List (Option Str))(ps:List (Str×V)):Prop where
 nd:(ps.map (·.1)).Nodup
 val:∀p∈ps,p.2=V.int (bt (ixs tab p.1):Nat)
 has:∀s,some s∈tab↔s∈ps.map (·.1)
abbrev kf (p:Str×V):Key×V:=(Sum.inr p.1,p.2)
theorem PsOk.zero:PsOk [] []:=⟨nodup_nil,(λp h=>nomatch h),λs=>⟨(λh=>nomatch h),(λh=>nomatch h)⟩⟩
theorem PsOk.skip {tab:List (Option Str)}{ps:List (Str×V)}(h:PsOk tab ps):PsOk (tab++[none]) ps:=⟨h.nd,λp hp=>by
 rw[Zic,if_neg (by simp),append_nil]
 exact h.val p hp,λs=>by
 rw[<- h.has s]
 simp⟩
theorem Zip {ps:List (Str×V)}{s:Str}(h:s∉ps.map (·.1)):valV (ps.map kf) (Sum.inr s:Key)=none:=by
 cases e:valV (ps.map kf) (Sum.inr s:Key)with
 | none=>rfl
 | some v=>
  exfalso
  have:=Zhk e
  rw[map_map]at this
  obtain⟨p,hp,ep⟩:=mem_map.mp this
  exact h (mem_map.mpr ⟨p,hp,Sum.inr.inj ep⟩)
theorem PsOk.old {tab:List (Option Str)}{ps:List (Str×V)}(h:PsOk tab ps)(s:Str):(valV (ps.map kf) (Sum.inr s:Key)).getD (.int 0)=V.int (bt (ixs tab s):Nat):=by
 by_cases hs:s∈ps.map (·.1)
 ·obtain⟨p,hp,ep⟩:=mem_map.mp hs
  obtain⟨i,hi⟩:=getElem?_of_mem hp
  have hk:(ps.map kf)[i]? = some (kf p):=by rw[getElem?_map,hi];rfl
  have nd:((ps.map kf).map (·.1)).Nodup:=by
   rw[map_map,show((λx:Key×V=>x.1) ∘ kf)=(Sum.inr ∘ λp:Str×V=>p.1) from rfl,<- map_map]
   exact pairwise_map.mpr (List.Pairwise.imp (λh e=>h (Sum.inr.inj e)) h.nd)
  have:=Zjt nd hk
  rw[show(kf p).1=(Sum.inr s:Key) from by rw[<- ep]]at this
  rw[this,<- ep]
  exact h.val p hp
 rw[Zip hs]
 have e:ixs tab s=[]:=by
  unfold ixs
  rw[filter_eq_nil_iff.mpr λi hi z=>?_]
  ·rfl
  exact hs ((h.has s).mp (mem_of_getElem? (of_decide_eq_true z)))
 rw[e]
 rfl
theorem PsOk.put {tab:List (Option Str)}{ps:List (Str×V)}(h:PsOk tab ps)(s:Str):∃ps':List (Str×V),putK (ps.map kf) (Sum.inr s:Key) (V.int (bt (ixs (tab++[some s]) s):Nat))=ps'.map kf/\PsOk (tab++[some s]) ps':=by
 generalize hv:V.int (bt (ixs (tab++[some s]) s):Nat)=v
 have other:∀x,x≠s->ixs (tab++[some s]) x=ixs tab x:=λx hx=>by
  rw[Zic,if_neg (λe=>hx (Option.some.inj e).symm),append_nil]
 have mem:∀x,some x∈tab++[some s]↔(some x∈tab\/x=s):=λx=>by
  rw[mem_append,mem_singleton,Option.some.injEq]
 by_cases hs:s∈ps.map (·.1)
 ·refine⟨ps.map λp=>if p.1=s then(p.1,v)else p,?_,?_⟩
  ·unfold putK
   rw[if_pos]
   ·rw[map_map,map_map]
    refine map_congr_left λp _=>?_
    show(if (Sum.inr p.1:Key)=Sum.inr s then((Sum.inr p.1:Key),v)else(Sum.inr p.1,p.2))=kf (if p.1=s then(p.1,v)else p)
    by_cases e:p.1=s
    ·rw[if_pos (by rw[e]),if_pos e]
    rw[if_neg (λz=>e (Sum.inr.inj z)),if_neg e]
   obtain⟨p,hp,ep⟩:=mem_map.mp hs
   exact any_eq_true.mpr ⟨kf p,mem_map.mpr ⟨p,hp,rfl⟩,decide_eq_true (by rw[<- ep])⟩
  have ek:(ps.map λp=>if p.1=s then(p.1,v)else p).map (·.1)=ps.map (·.1):=by
   rw[map_map]
   refine map_congr_left λp _=>?_
   show(if p.1=s then(p.1,v)else p).1=p.1
   split <;> rfl
  refine⟨by rw[ek];exact h.nd,λp hp=>?_,λx=>?_⟩
  ·obtain⟨p0,hp0,e⟩:=mem_map.mp hp
   by_cases e0:p0.1=s
   ·rw[if_pos e0]at e
    rw[<- e]
    show v=_
    rw[<- hv,e0]
   rw[if_neg e0]at e
   rw[<- e,other _ e0]
   exact h.val p0 hp0
  rw[ek,mem,h.has]
  exact⟨λz=>z.elim id (λe=>by rw[e];exact hs),.inl⟩
 refine⟨ps++[(s,v)],?_,?_⟩
 ·rw[Zdk _ (Zip hs),map_append]
  rfl
 refine⟨?_,λp hp=>?_,λx=>?_⟩
 ·rw[map_append]
  exact nodup_append.mpr ⟨h.nd,by simp,λa ha b hb e=>hs (by
   have hb':b=s:=mem_singleton.mp hb
   rw[<- hb',<- e]
   exact ha)⟩
 ·rcases(mem_append.mp hp)with z | z
  ·rw[other _ (λe=>hs (by rw[<- e];exact mem_map.mpr ⟨p,z,rfl⟩))]
   exact h.val p z
  rw[mem_singleton.mp z]
  exact hv.symm
 rw[mem,h.has,map_append,mem_append]
 simp
inductive spParted (vs:List V)(H:Hp)(Q:VK)(E0_:XK):Prop
 | mk (t:Addr) (tab:List (Option Str)) (as:List Str) (c0:vs=[.ref t]) (c1:H t=some (.tup (tab.map oS))) (c2:tab.length<=200) (c3:(∀s,some s∈tab->s∈as)) (c4:as.length<=3) (c5:as.Nodup) (c6:∀(r:Addr) (ro:Obj) (ts:List Addr) (ps zs:List (Str×V)) (H':Hp),Same H H'->ro.dict=none->H' r=some (.frz ro (.tup (ts.map V.ref)))->PrAt H' ts zs->zs.Perm ps->ltP zs=true->PsOk tab ps->Q (.ref r) H'):spParted  vs H Q E0_
abbrev Zhy:List Str:=["answers"]
abbrev nParted:List Str:=["answers", "found", "world", "answer"]
theorem scParted:FnScope nParted Zhy (Zaf Zhp):=Zav
theorem ok_parted {f:Addr}{fd:FuncData}(F:Fun K "parted" "parted" Zhp f fd)(T:Bl mg)(C_set_of:Ca P w K mg base CX0 1 "set_of" Zf0 Zhd (spSetOf K)):FnOk P w K mg base CX0 2 f fd Zhy spParted:=by
 refine F.oq scParted λcdv A outer s H vs Q E hr1 h=>?_
 obtain⟨t,tab,as,rfl,ht,hl,has,a3,and',q⟩:=h
 have hu:=Zfk hr1
 have hsl:sizeLine=16777216:=sizeLine_eq
 refine⟨_,(Zac (Zaw (i:=1) scParted.nd Zfs)
  (Zac (Zbh PassesOwn.never rfl (Zjx (by rfl) T.enumerate Zka (Zaa (pv 0) Zab)) (Zcm rfl (Zax (Za3 (i:=2) scParted.nd) (Zax (Za3 (i:=3) scParted.nd) Zbw)))
   (Zag (Za2 (Zao Zgn (pv 3) Zbz (Zar _)) (Zag (Zgb hu (pv 1) (pv 3) (Zau Zh7 (Zkw hu (pv 1) (pv 3) Zae ⟨by rfl,by rfl,by rfl,by rfl⟩) (Zaq C_set_of hr1 Zak (Zaa (Zbs (Zaa (pv 2) Zab)) Zab))) rfl)) Zan)))
  (Zag (Zam (Zay call_tupF (by rfl) T.tuple Zes (Zaa (Zap (call_sortedI rfl) (by rfl) T.sorted Zet (Zaa (Zkx PySem.F.plainAttrs_dict PySem.F.slot_dict_items PySem.F.type_dict_items mt_items (pv 1)) Zab)) Zab)))))),?_⟩
 intro d hd
 have s0:Same H (upd H d (.dK [])):=Same.new hd
 refine⟨_,rfl,t,rfl,⟨_,SqT.of (s0 _ _ ht)⟩,for_enum (K:=K) (a:=t) (xs:=tab.map oS) (λi σ H2=>∃(v2 v3:Option V) (ps:List (Str×V)),σ = [some (.ref t),some (.ref d),v2,v3]/\Same H H2/\H2 d=some (.dK (ps.map kf))/\PsOk (tab.take i) ps) ⟨none,none,[],rfl,s0,Zad,by rw[take_zero];exact PsOk.zero⟩
  (λi σ H2 _ hh0=>by obtain⟨_,_,_,_,s2,_⟩:=hh0;exact SqT.of (s2 _ _ ht)) ?_ ?_⟩
 ·rintro i x p σ H2 hx ⟨v2,v3,ps,rfl,s2,e2,po⟩ hp
  rw[getElem?_map]at hx
  cases hti:tab[i]? with
  | none=>rw[hti]at hx;cases hx
  | some o=>
   rw[hti]at hx
   have hx':x=oS o:=(Option.some.inj hx).symm
   subst hx'
   obtain⟨hi,ei⟩:=List.getElem?_eq_some_iff.mp hti
   have htk:tab.take (i+1)=tab.take i++[o]:=by rw[take_succ_eq_append_getElem hi,ei]
   have s3:Same H2 (upd H2 p (.tup [.int (i:Nat),oS o])):=Same.new hp
   refine⟨p,_,rfl,SqT.of Zad,rfl,_,_,rfl,_,_,rfl,rfl,?_⟩
   generalize (upd H2 p (.tup [.int (i:Nat),oS o]))=H3 at s3 ⊢
   have e3:=s3 _ _ e2
   cases o with
   | none=>
    refine⟨_,rfl,rfl,_,rfl,?_⟩
    refine iteF ⟨_,_,ps,rfl,s2.trans s3,e3,?_⟩
    rw[htk]
    exact po.skip
   | some sa=>
    refine⟨_,rfl,rfl,_,rfl,?_⟩
    refine iteT ?_
    refine⟨_,rfl,d,rfl,.inl ⟨_,.inl e3⟩,_,rfl,_,DGet.k (k:=(Sum.inr sa:Key)) e3,?_⟩
    rw[po.old sa]
    refine⟨_,rfl,by show 1<=sizeLine;lia,λlb hlb=>?_⟩
    have s4:Same H3 (upd H3 lb (.lst [.int (i:Nat)])):=Same.new hlb
    refine⟨lb,[(i:Int)],rfl,SqL.of Zad,λn hn=>by rw[mem_singleton.mp hn];exact⟨by lia,by lia⟩,_,_,rfl,rfl,?_⟩
    have hbo:Builtin.bitOr ((bt (ixs (tab.take i) sa):Nat):Int) ((bt [(i:Int)]:Nat):Int)=((bt (ixs (tab.take (i+1)) sa):Nat):Int):=by
     rw[Zda,htk,Zic,if_pos rfl,length_take,Nat.min_eq_left (by lia),Zj9,show bt [(i:Int)]=2^((i:Int)).toNat from by unfold bt;simp]
    rw[hbo]
    obtain⟨ps',e',po'⟩:=po.put sa
    rw[<- htk]at e' po'
    have hpl:(ps.map kf).length<=200:=by
     have h1:(ps.map (·.1)).length<=as.length:=List.Nodup.length_le_of_subset po.nd λz hz=>has z (mem_of_mem_take ((po.has z).mpr hz))
     rw[length_map]at h1 ⊢
     lia
    refine⟨_,rfl,_,rfl,d,_,rfl,DPut.k (k:=(Sum.inr sa:Key)) (s4 _ _ e3) (by lia),?_⟩
    rw[e']
    exact⟨_,_,ps',rfl,((s2.trans s3).trans s4).put hd,Zad,po'⟩
 rintro σ H2 ⟨v2,v3,ps,rfl,s2,e2,po⟩
 rw[length_map,take_length]at po
 have h3:ps.length<=3:=by
  have h1:(ps.map (·.1)).length<=as.length:=List.Nodup.length_le_of_subset po.nd λz hz=>has z ((po.has z).mpr hz)
  rw[length_map]at h1
  lia
 refine⟨_,rfl,.inr (.inr (.inl ⟨rfl,.inl ⟨_,e2⟩⟩)),d,_,rfl,rfl,e2,λv hv=>?_⟩
 have s3:Same H2 (upd H2 v (Zch v d)):=Same.new hv
 refine⟨v,d,ps,rfl,Zad,s3 _ _ e2,h3,λl ts zs H4 s4 hl4 pm lt el pr=>?_⟩
 refine⟨l,_,rfl,SqL.of el,λr ro hr hd0=>?_⟩
 have s5:Same H4 (upd H4 r (.frz ro (.tup (ts.map V.ref)))):=Same.new hr
 exact q r ro ts ps zs _ (((s2.trans s3).trans s4).trans s5) hd0 Zad ⟨pr.1,λi a p h1 h2=>s5 _ _ (pr.2 i a p h1 h2)⟩ pm lt po
abbrev Zc0:List Str:=["outs", "answers"]
abbrev nDoableSets:List Str:=["outs", "answers", "found", "name", "sets", "told"]
theorem scDoableSets:FnScope nDoableSets Zc0 (Zaf Zbv):=Zav
def doI {α:Type}(p:α->Bool)(tab:List α):List Int:=((List.range tab.length).filter λi=>(tab[i]?.map p).getD false).map λi:Nat=>(i:Int)
theorem Zli {α:Type}(p:α->Bool)(tab:List α)(x:α):doI p (tab++[x])=doI p tab++(if p x=true then [(tab.length:Int)]else []):=by
 unfold doI
 rw[length_append,length_singleton,range_succ,filter_append,map_append]
 congr 1
 ·congr 1
  refine filter_congr λi hi=>?_
  rw[getElem?_append_left (mem_range.mp hi)]
 by_cases h:p x=true
 ·rw[if_pos h,List.filter_cons_of_pos (by simp[h])]
  rfl
 rw[if_neg h,List.filter_cons_of_neg (by simp[h])]
 rfl
theorem Zog {α:Type}(p:α->Bool){tab:List α}(h:tab.length<=200):Wd (doI p tab):=λn hn=>by
 unfold doI at hn
 obtain⟨i,hi,rfl⟩:=mem_map.mp hn
 have:=mem_range.mp (mem_filter.mp hi).1
 exact⟨by lia,by lia⟩
theorem doI_len {α:Type}(p:α->Bool)(tab:List α):(doI p tab).length<=tab.length:=by
 unfold doI
 rw[length_map]
 exact le_trans (length_filter_le _ _) (by rw[length_range];exact Nat.le_refl _)
inductive spDoable (vs:List V)(H:Hp)(Q:VK)(E0_:XK):Prop
 | mk (a b:Addr) (ka kb:List (Key×V)) (ds:List Dee) (ls:List Loo) (o2:Obj) (c0:vs=[.ref a,.ref b]) (c1:a≠b) (c2:H a=some (.dK ka)) (c3:H b=some (.frz o2 (.dK kb))) (c4:KA Dee.name (OuV H) ka ds) (c5:KA Loo.name (AnV H) kb ls) (c6:(ds.map Dee.name++ls.map Loo.name).Nodup) (c7:ds.length<=40) (c8:ls.length<=40) (c9:(∀d∈ds,d.tab.length<=200)) (c10:(∀l∈ls,l.tab.length<=200)) (c11:∀(d:Addr) (kvs:List (Key×V)) (H':Hp) (o1:Obj),(∀c u,H c=some u->c≠a->H' c=some u)->H d=none->H' d=some (.dK kvs)->H' a=some (.frz o1 (.dK ka)) ->     KA (λp:Str×Nat=>p.1) (λv p=>v=V.int (p.2:Int)) kvs (ds.map (λd=>(d.name,bt (doI (λn=>decide (bt n≠0)) d.tab)))++ls.map λl=>(l.name,bt (doI isSome l.tab)))->Q (.ref d) H'):spDoable  vs H Q E0_
theorem KA.snoc2 {kvs:List (Key×V)}{L:List (Str×Nat)}{n:Str}{k:Nat}(h:KA (λp:Str×Nat=>p.1) (λv p=>v=V.int (p.2:Int)) kvs L):KA (λp:Str×Nat=>p.1) (λv p=>v=V.int (p.2:Int)) (kvs++[(Sum.inr n,V.int (k:Int))]) (L++[(n,k)]):=KA.snoc (d:=(n,k)) h rfl
theorem Zdd {α:Type}{xs:List α}{i:Nat}{x:α}(h:xs[i]? = some x):xs.take (i+1)=xs.take i++[x]:=by
 (obtain⟨hi,e⟩:=List.getElem?_eq_some_iff.mp h)
 rw[take_succ_eq_append_getElem hi,e]
theorem Zof {α:Type}(p:α->Bool){K:W.Frag}{t D:Addr}{xs:List V}{tab:List α}{H3:Hp}(hlen:xs.length=tab.length)(ht3:H3 t=some (.tup xs))(hl:tab.length<=200){fin:Hp->Prop}{tc:TT}{ρ:L2.St}(hD:H3 D=none)
  (test:∀(j:Nat) (x:V) (y:α) (H4:Hp) (A B:Hp->Prop),xs[j]? = some x->tab[j]? = some y->(p y=true->A H4)->(¬p y=true->B H4)->tc (some (.int (j:Nat))::some x::ρ) H4 λb H5=>if b=true then A H5 else B H5)
  (q:∀H4:Hp,Same H3 H4->H4 D=some (.lst ((doI p tab).map V.int))->fin H4):∃W:Nat->Nat->List V->Hp->Prop,(∃m,W 0 m [] (upd H3 D (.lst [])))/\tLcB (Ite K t) D (none::none::ρ) (gTup K 2 (gCons (Zgt 0) (gCons (Zgt 1) gNil))) tc (tVar 0) fin W:=by
 have hsl:sizeLine=16777216:=sizeLine_eq
 refine lcJ2 (K:=K) (n:=xs.length) (λj ys H4=>ys=(doI p (tab.take j)).map V.int/\Same H3 H4/\H4 D=some (.lst ys)) ⟨rfl,Same.new hD,Zad⟩
  (λj ys H4 hj hh0=>by obtain⟨_,s4,_⟩:=hh0;exact⟨_,xs[j],SqT.of (s4 _ _ ht3),by simp[hj]⟩) (λys H4 hh0=>by obtain⟨_,s4,_⟩:=hh0;exact⟨_,SqT.of (s4 _ _ ht3),rfl⟩) ?_ ?_
 ·rintro j ys H4 x H5 hj ⟨rfl,s4,e4⟩ ⟨pp,x',rfl,hpp,rfl,hx⟩
  have hx2:=hx _ (SqT.of (s4 _ _ ht3))
  have hjt:j<tab.length:=by lia
  have hy:tab[j]? = some tab[j]:=getElem?_eq_getElem hjt
  have s5:Same H4 (upd H4 pp (.tup [.int (j:Nat),x'])):=Same.new hpp
  have htk:tab.take (j+1)=tab.take j++[tab[j]]:=Zdd hy
  have hlk:(tab.take j).length=j:=by rw[length_take];lia
  have hle:=doI_len p (tab.take j)
  refine⟨pp,_,_,rfl,SqT.of Zad,test j x' _ _ _ _ hx2 hy (λh=>?_) (λh=>⟨?_,s4.trans s5,s5 _ _ e4⟩)⟩
  ·refine⟨_,rfl,_,s5 _ _ e4,by rw[length_map];lia,?_,(s4.trans s5).put hD,Zad⟩
   rw[htk,Zli,if_pos h,map_append,hlk]
   rfl
  rw[htk,Zli,if_neg h,append_nil]
 rintro ys H4 ⟨rfl,s4,e4⟩
 rw[hlen,take_length]at e4
 exact q H4 s4 e4
theorem ok_doable {f:Addr}{fd:FuncData}(F:Fun K "doable_sets" "doable_sets" Zbv f fd)(T:Bl mg)(C_set_of:Ca P w K mg base CX0 1 "set_of" Zf0 Zhd (spSetOf K)):FnOk P w K mg base CX0 2 f fd Zc0 spDoable:=by
 refine F.oq scDoableSets λcdv A outer s H vs Q E hr1 h=>?_
 obtain⟨a,b,ka,kb,ds,ls,o2,rfl,ab,ha,hb,hka,hkb,nd,fd',fl,td,tl,q⟩:=h
 have hu:=Zfk hr1
 have hsl:sizeLine=16777216:=sizeLine_eq
 refine⟨_,(Zac (Zaw (i:=2) scDoableSets.nd Zfs)
  (Zac (Zbh PassesOwn.never rfl (Zgc (Zhw (pv 0))) (Zcm rfl (Zax (Za3 (i:=3) scDoableSets.nd) (Zax (Za3 (i:=4) scDoableSets.nd) Zbw)))
   (Zag (Zgb hu (pv 2) (pv 3) (Zaq C_set_of hr1 Zak (Zaa (Zcw (N:=["world", "some"]) (sc:=Zaf Zbv) (own:=["world", "some"]) (fr:=[]) (js:=[]) Zb4 rfl (Zjx (by rfl) T.enumerate Zka (Zaa (pv 4) Zab)) (λ_ _ _ _=>Zmu K rfl (Zcm (n:=2) rfl (Zax (Za3 (i:=0) (show List.Nodup (["world", "some"]:List Str) by decide +kernel)) (Zax (Za3 (i:=1) (show List.Nodup (["world", "some"]:List Str) by decide +kernel)) Zbw)))) (λ_ _ _ _=>Zcv (Zao Zh8 (pv 1) Zae (Zar _))) (λ_ _ _ _=>(pv 0))) Zab)) rfl)))
  (Zac (Zbh PassesOwn.never rfl (Zgc (Zhw (pv 1))) (Zcm rfl (Zax (Za3 (i:=3) scDoableSets.nd) (Zax (Za3 (i:=5) scDoableSets.nd) Zbw)))
   (Zag (Zgb hu (pv 2) (pv 3) (Zaq C_set_of hr1 Zak (Zaa (Zcw (N:=["world", "answer"]) (sc:=Zaf Zbv) (own:=["world", "answer"]) (fr:=[]) (js:=[]) Zb4 rfl (Zjx (by rfl) T.enumerate Zka (Zaa (pv 5) Zab)) (λ_ _ _ _=>Zmu K rfl (Zcm (n:=2) rfl (Zax (Za3 (i:=0) (show List.Nodup (["world", "answer"]:List Str) by decide +kernel)) (Zax (Za3 (i:=1) (show List.Nodup (["world", "answer"]:List Str) by decide +kernel)) Zbw)))) (λ_ _ _ _=>Zcv (Zao Zgn (pv 1) Zbz (Zar _))) (λ_ _ _ _=>(pv 0))) Zab)) rfl)))
  (Zag (Zam (pv 2)))))),?_⟩
 intro d hd
 have s0:Same H (upd H d (.dK [])):=Same.new hd
 have da:a≠d:=Zah ha hd
 have db:b≠d:=Zah hb hd
 refine⟨_,rfl,a,ka,rfl,.inl (s0 _ _ ha),λv hv=>?_⟩
 have s1:Same (upd H d (.dK [])) (upd (upd H d (.dK [])) v (Zch v a)):=Same.new hv
 have s01:=s0.trans s1
 have vd:d≠v:=λz=>by rw[<- z,Zad]at hv;cases hv
 refine⟨v,a,ka,rfl,Zad,.inl ⟨s01 _ _ ha,λo1=>?_⟩⟩
 have kp0:∀c u,H c=some u->c≠a->(upd (upd (upd H d (.dK [])) v (Zch v a)) a (.frz o1 (.dK ka))) c=some u:=λc u e hc=>by rw[Zaj hc];exact s01 _ _ e
 have ea0:(upd (upd (upd H d (.dK [])) v (Zch v a)) a (.frz o1 (.dK ka))) a=some (.frz o1 (.dK ka)):=Zad
 have ed0:(upd (upd (upd H d (.dK [])) v (Zch v a)) a (.frz o1 (.dK ka))) d=some (.dK []):=by rw[Zaj da.symm,Zaj vd];exact Zad
 generalize (upd (upd (upd H d (.dK [])) v (Zch v a)) a (.frz o1 (.dK ka)))=H1 at kp0 ea0 ed0 ⊢
 have hkl:=hka.len
 have hkl2:=hkb.len
 refine Zja (a:=a) (o:=o1) (kvs:=ka) (λi σ H2=>∃(v3 v4 v5:Option V) (kvs:List (Key×V)),σ = [some (.ref a),some (.ref b),some (.ref d),v3,v4,v5]/\(∀c u,H c=some u->c≠a->H2 c=some u)/\H2 a=some (.frz o1 (.dK ka))/\H2 d=some (.dK kvs)/\KA (λp:Str×Nat=>p.1) (λv p=>v=V.int (p.2:Int)) kvs ((ds.map (λd=>(d.name,bt (doI (λn=>decide (bt n≠0)) d.tab)))).take i)) ⟨none,none,none,[],rfl,kp0,ea0,ed0,by rw[take_zero];exact KA.nil⟩
  (λi σ H2 _ hh0=>by obtain⟨_,_,_,_,_,_,e,_⟩:=hh0;exact e) ?_ ?_
 ·rintro i kv p σ H2 hkv ⟨v3,v4,v5,kvs,rfl,kp,ea,ed,kk⟩ hp
  have hil:i<ds.length:=by
   have:=(List.getElem?_eq_some_iff.mp hkv).1
   lia
  have hdi:ds[i]? = some ds[i]:=getElem?_eq_getElem hil
  obtain⟨ek,t,ev,ht⟩:=hka.got i kv _ hkv hdi
  have hdm:ds[i]∈ds:=getElem_mem hil
  generalize ds[i]=de at hdi ek ht hdm
  obtain⟨k0,v0⟩:=kv
  have ek':k0=Sum.inr de.name:=ek
  have ev':v0=V.ref t:=ev
  subst ek' ev'
  have s3:Same H2 (upd H2 p (.tup [kV (Sum.inr de.name:Key),V.ref t])):=Same.new hp
  refine⟨p,_,rfl,SqT.of Zad,rfl,_,_,rfl,_,_,rfl,rfl,?_⟩
  have ta:t≠a:=Zbg ht ha (by intro z;cases z)
  have ht3:=s3 _ _ (kp _ _ ht ta)
  have ed3:=s3 _ _ ed
  have ea3:=s3 _ _ ea
  have kp3:∀c u,H c=some u->c≠a->(upd H2 p (.tup [kV (Sum.inr de.name:Key),V.ref t])) c=some u:=λc u e hc=>s3 _ _ (kp c u e hc)
  generalize (upd H2 p (.tup [kV (Sum.inr de.name:Key),V.ref t]))=H3 at ht3 ed3 ea3 kp3 ⊢
  have htl:=td de hdm
  refine⟨_,rfl,t,rfl,⟨_,SqT.of ht3⟩,λD hD=>?_⟩
  refine Zof (λn=>decide (bt n≠0)) (length_map ..) ht3 htl hD (λj x y H4 A B hx hy h1 h2=>?_) λH4 s4 e4=>?_
  ·rw[getElem?_map,hy]at hx
   have hx':x=V.int (bt y:Nat):=(Option.some.inj hx).symm
   subst hx'
   refine⟨_,rfl,rfl,_,rfl,?_⟩
   refine ite2 (λz=>h1 (decide_eq_true λe=>?_)) (λz=>h2 λe=>z ?_)
   ·rw[e]at z
    exact absurd z (by decide)
   have:=of_decide_eq_true e
   show(!decide (V.int ((bt y:Nat):Int)=V.int 0))=true
   rw[decide_eq_false λw=>this (by have:=V.int.inj w;lia)]
   rfl
  refine⟨D,_,rfl,SqL.of e4,Zog _ htl,?_⟩
  have ed4:=s4 _ _ ed3
  have hnone:valV kvs (Sum.inr de.name:Key)=none:=kk.none λz=>?_
  ·have hkl4:=kk.len
   rw[length_take,length_map]at hkl4
   refine⟨_,rfl,_,rfl,d,_,rfl,DPut.k (k:=(Sum.inr de.name:Key)) ed4 (by lia),?_⟩
   rw[Zdk _ hnone]
   refine⟨_,_,_,_,rfl,λc u e hc=>?_,?_,Zad,?_⟩
   ·rw[Zaj (λz=>by rw[z,hd]at e;cases e)]
    exact s4 _ _ (kp3 c u e hc)
   ·rw[Zaj da]
    exact s4 _ _ ea3
   rw[Zdd (x:=(de.name,bt (doI (λn=>decide (bt n≠0)) de.tab))) (by rw[getElem?_map,hdi];rfl)]
   exact kk.snoc2
  rw[<- map_take,map_map]at z
  have nd1:=(nodup_append.mp nd).1
  have hnd:((ds.take (i+1)).map Dee.name).Nodup:=by
   rw[map_take]
   exact List.Sublist.nodup (take_sublist _ _) nd1
  rw[Zdd hdi,map_append]at hnd
  exact(nodup_append.mp hnd).2.2 _ z de.name (mem_singleton.mpr rfl) rfl
 rintro σ H2 ⟨v3,v4,v5,kvs0,rfl,kp,ea,ed,kk0⟩
 rw[hkl,take_of_length_le (by rw[length_map];exact Nat.le_refl _)]at kk0
 have hb2:=kp _ _ hb ab.symm
 refine⟨_,rfl,b,kb,rfl,.inr ⟨o2,hb2⟩,λv hv=>?_⟩
 have s1:Same H2 (upd H2 v (Zch v b)):=Same.new hv
 refine⟨v,b,kb,rfl,Zad,.inr ⟨o2,s1 _ _ hb2,?_⟩⟩
 have hb1:=s1 _ _ hb2
 have kp1:∀c u,H c=some u->c≠a->(upd H2 v (Zch v b)) c=some u:=λc u e hc=>s1 _ _ (kp c u e hc)
 have ea1:=s1 _ _ ea
 have ed1:=s1 _ _ ed
 generalize (upd H2 v (Zch v b))=H1 at kp1 ea1 ed1 hb1 ⊢
 refine Zja (a:=b) (o:=o2) (kvs:=kb) (λi σ H2=>∃(v3 v4 v5:Option V) (kvs:List (Key×V)),σ = [some (.ref a),some (.ref b),some (.ref d),v3,v4,v5]/\(∀c u,H c=some u->c≠a->H2 c=some u)/\H2 a=some (.frz o1 (.dK ka))/\H2 d=some (.dK kvs)/\KA (λp:Str×Nat=>p.1) (λv p=>v=V.int (p.2:Int)) kvs (ds.map (λd=>(d.name,bt (doI (λn=>decide (bt n≠0)) d.tab)))++(ls.map λl=>(l.name,bt (doI isSome l.tab))).take i)) ⟨_,_,_,kvs0,rfl,kp1,ea1,ed1,by rw[take_zero,append_nil];exact kk0⟩
  (λi σ H2 _ hh0=>by obtain⟨_,_,_,_,_,k,_⟩:=hh0;exact k _ _ hb ab.symm) ?_ ?_
 ·rintro i kv p σ H2 hkv ⟨v3,v4,v5,kvs,rfl,kp,ea,ed,kk⟩ hp
  have hil:i<ls.length:=by
   have:=(List.getElem?_eq_some_iff.mp hkv).1
   lia
  have hdi:ls[i]? = some ls[i]:=getElem?_eq_getElem hil
  obtain⟨ek,t,ev,ht⟩:=hkb.got i kv _ hkv hdi
  have hdm:ls[i]∈ls:=getElem_mem hil
  generalize ls[i]=de at hdi ek ht hdm
  obtain⟨k0,v0⟩:=kv
  have ek':k0=Sum.inr de.name:=ek
  have ev':v0=V.ref t:=ev
  subst ek' ev'
  have s3:Same H2 (upd H2 p (.tup [kV (Sum.inr de.name:Key),V.ref t])):=Same.new hp
  refine⟨p,_,rfl,SqT.of Zad,rfl,_,_,rfl,_,_,rfl,rfl,?_⟩
  have ta:t≠a:=Zbg ht ha (by intro z;cases z)
  have ht3:=s3 _ _ (kp _ _ ht ta)
  have ed3:=s3 _ _ ed
  have ea3:=s3 _ _ ea
  have kp3:∀c u,H c=some u->c≠a->(upd H2 p (.tup [kV (Sum.inr de.name:Key),V.ref t])) c=some u:=λc u e hc=>s3 _ _ (kp c u e hc)
  generalize (upd H2 p (.tup [kV (Sum.inr de.name:Key),V.ref t]))=H3 at ht3 ed3 ea3 kp3 ⊢
  have htl:=tl de hdm
  refine⟨_,rfl,t,rfl,⟨_,SqT.of ht3⟩,λD hD=>?_⟩
  refine Zof isSome (length_map ..) ht3 htl hD (λj x y H4 A B hx hy h1 h2=>?_) λH4 s4 e4=>?_
  ·rw[getElem?_map,hy]at hx
   have hx':x=oS y:=(Option.some.inj hx).symm
   subst hx'
   refine⟨_,rfl,rfl,_,rfl,?_⟩
   cases y with
   | none=>exact iteF (h2 (by decide))
   | some z=>exact iteT (h1 rfl)
  refine⟨D,_,rfl,SqL.of e4,Zog _ htl,?_⟩
  have ed4:=s4 _ _ ed3
  have hnone:valV kvs (Sum.inr de.name:Key)=none:=kk.none λz=>?_
  ·have hkl4:=kk.len
   rw[length_append,length_take,length_map,length_map]at hkl4
   refine⟨_,rfl,_,rfl,d,_,rfl,DPut.k (k:=(Sum.inr de.name:Key)) ed4 (by lia),?_⟩
   rw[Zdk _ hnone]
   refine⟨_,_,_,_,rfl,λc u e hc=>?_,?_,Zad,?_⟩
   ·rw[Zaj (λz=>by rw[z,hd]at e;cases e)]
    exact s4 _ _ (kp3 c u e hc)
   ·rw[Zaj da]
    exact s4 _ _ ea3
   rw[Zdd (x:=(de.name,bt (doI isSome de.tab))) (by rw[getElem?_map,hdi];rfl),<- append_assoc]
   exact kk.snoc2
  rw[map_append,map_map,<- map_take,map_map]at z
  have hnd:(ds.map Dee.name++(ls.take (i+1)).map Loo.name).Nodup:=by
   rw[map_take]
   exact List.Sublist.nodup (List.Sublist.append (List.Sublist.refl _) (take_sublist _ _)) nd
  rw[Zdd hdi,map_append,<- append_assoc]at hnd
  exact(nodup_append.mp hnd).2.2 _ z de.name (mem_singleton.mpr rfl) rfl
 rintro σ H2 ⟨v3,v4,v5,kvs,rfl,kp,ea,ed,kk⟩
 rw[hkl2,take_of_length_le (by rw[length_map];exact Nat.le_refl _)]at kk
 exact⟨_,rfl,q d kvs H2 o1 kp hd ed ea kk⟩
structure Cl (K:W.Frag)(C:Addr):Prop where
 cl:Cls K C
 n1:NoAttr K C "many"
 n2:NoAttr K C "prices"
 n3:NoAttr K C "told_outs"
 n4:NoAttr K C "told_answers"
 n5:NoAttr K C "told_parts"
 n6:NoAttr K C "told_doable"
def f1 (m:Int):List (Str×V):=putF "many" (.int m) []
def f2 (m:Int)(p:Addr):List (Str×V):=putF "prices" (.ref p) (f1 m)
def f3 (m:Int)(p o:Addr):List (Str×V):=putF "told_outs" (.ref o) (f2 m p)
def f4 (m:Int)(p o a:Addr):List (Str×V):=putF "told_answers" (.ref a) (f3 m p o)
def f5 (m:Int)(p o a q:Addr):List (Str×V):=putF "told_parts" (.ref q) (f4 m p o a)
def f6 (m:Int)(p o a q d:Addr):List (Str×V):=putF "told_doable" (.ref d) (f5 m p o a q)
structure ChOk (m:Nat)(ds:List Dee)(ls:List Loo)(as:List Str):Prop where
 m1:1<=m
 m2:m<=200
 fd:ds.length<=40
 fl:ls.length<=40
 nd:(ds.map Dee.name++ls.map Loo.name).Nodup
 so:∀d∈ds,StOk (d.name,d.price)
 sl:∀l∈ls,StOk (l.name,l.price)
 de:∀d∈ds,DeOk m d
 lo:∀l∈ls,l.tab.length=m
 an:∀l∈ls,∀s,some s∈l.tab->s∈as
 a3:as.length<=3
 ad:as.Nodup
abbrev Zbq (ds:List Dee)(ls:List Loo):List (Str×Int):=ds.map (λd=>(d.name,d.price))++ls.map λl=>(l.name,l.price)
abbrev doOf (ds:List Dee)(ls:List Loo):List (Str×Nat):=ds.map (λd=>(d.name,bt (doI (λn=>decide (bt n≠0)) d.tab)))++ls.map λl=>(l.name,bt (doI isSome l.tab))
inductive PaV (H:Hp)(v:V)(l:Loo):Prop
 | mk (r:Addr) (ro:Obj) (ts:List Addr) (ps zs:List (Str×V)) (e:v=.ref r) (d0:ro.dict=none) (h:H r=some (.frz ro (.tup (ts.map V.ref)))) (hp:PrAt H ts zs) (pm:zs.Perm ps) (lt:ltP zs=true) (ok:PsOk l.tab ps):PaV H v l
structure ChAt (C:Addr)(H:Hp)(x:Addr)(m:Nat)(ds:List Dee)(ls:List Loo):Prop where
 ex:∃(dx p o a q d:Addr) (kp ko ka kq kd:List (Key×V)) (o1 o2:Obj),H x=some (.ins C dx (f6 (m:Int) p o a q d))/\H p=some (.dK kp)/\H o=some (.frz o1 (.dK ko))/\H a=some (.frz o2 (.dK ka))/\H q=some (.dK kq)/\H d=some (.dK kd) /\
  KA (λs:Str×Int=>s.1) (λv s=>v=V.int s.2) kp (Zbq ds ls)/\KA Dee.name (OuV H) ko ds/\KA Loo.name (AnV H) ka ls/\KA Loo.name (PaV H) kq ls/\KA (λs:Str×Nat=>s.1) (λv s=>v=V.int (s.2:Int)) kd (doOf ds ls)
inductive spInitC (C:Addr)(vs:List V)(H:Hp)(Q:VK)(E0_:XK):Prop
 | mk (x dx a b:Addr) (m:Nat) (us ws:List V) (ds:List Dee) (ls:List Loo) (as:List Str) (c0:vs=[.ref x,.int (m:Int),.ref a,.ref b]) (c1:H x=some (.ins C dx [])) (c2:H a=some (.lst us)) (c3:H b=some (.lst ws)) (c4:A2 (DeV H) us ds) (c5:A2 (LoV H) ws ls) (c6:ChOk m ds ls as) (c7:∀H':Hp,(∀c u,H c=some u->c≠x->H' c=some u)->ChAt C H' x m ds ls->Q .non H'):spInitC C vs H Q E0_
abbrev Zoo:List Str:=["self", "many", "deeds", "looks"]
abbrev nInit:List Str:=["self", "many", "deeds", "looks"]
theorem scInit:FnScope nInit Zoo (Zaf Zl1):=Zav
theorem StV.kx {H H':Hp}{x C dx:Addr}{fs:List (Str×V)}(k:∀c u,H c=some u->c≠x->H' c=some u)(hx:H x=some (.ins C dx fs)){v:V}{n:Str}{p:Int}{t:Addr}(h:StV H v n p t):StV H' v n p t:=by
 obtain⟨a,e,h⟩:=h
 exact⟨a,e,k _ _ h (Zbg h hx (by intro z;cases z))⟩
theorem EnV.kx {H H':Hp}{x C dx:Addr}{fs:List (Str×V)}(k:∀c u,H c=some u->c≠x->H' c=some u)(hx:H x=some (.ins C dx fs)){v:V}{ns:List Int}(h:EnV H v ns):EnV H' v ns:=by
 obtain⟨a,e,h⟩:=h
 exact⟨a,e,k _ _ h (Zbg h hx (by intro z;cases z))⟩
theorem DeV.kx {H H':Hp}{x C dx:Addr}{fs:List (Str×V)}(k:∀c u,H c=some u->c≠x->H' c=some u)(hx:H x=some (.ins C dx fs)){v:V}{d:Dee}(h:DeV H v d):DeV H' v d:=by
 obtain⟨t,es,st,ht,he⟩:=h
 exact⟨t,es,st.kx k hx,k _ _ ht (Zbg ht hx (by intro z;cases z)),he.mono λv t _ r=>r.kx k hx⟩
theorem LoV.kx {H H':Hp}{x C dx:Addr}{fs:List (Str×V)}(k:∀c u,H c=some u->c≠x->H' c=some u)(hx:H x=some (.ins C dx fs)){v:V}{l:Loo}(h:LoV H v l):LoV H' v l:=by
 obtain⟨t,st,ht⟩:=h
 exact⟨t,st.kx k hx,k _ _ ht (Zbg ht hx (by intro z;cases z))⟩
theorem A2.map {α β:Type}{R:V->α->Prop}{S:V->β->Prop}{g:α->β}{vs:List V}{ts:List α}(h:A2 R vs ts)(m:∀v t,R v t->S v (g t)):A2 S vs (ts.map g):=⟨by rw[length_map];exact h.len,λi v t hv ht=>by
 rw[getElem?_map]at ht
 cases e:ts[i]? with
 | none=>rw[e]at ht;cases ht
 | some x=>
  rw[e]at ht
  cases ht
  exact m v x (h.got i v x hv e)⟩
theorem putAll_go (kvs:List (Key×V)):∀acc:List (Key×V),((acc++kvs).map (·.1)).Nodup->kvs.foldl (λm kv=>putK m kv.1 kv.2) acc=acc++kvs:=by
 induction kvs with
 | nil=>exact λacc _=>(append_nil _).symm
 | cons p r ih=>
  intro acc nd
  have e:acc++p::r=(acc++[p])++r:=by simp
  rw[foldl_cons,Zdk,ih]
  ·rw[e]
  ·rw[<- e];exact nd
  cases hv:valV acc p.1 with
  | none=>rfl
  | some v=>
   exfalso
   rw[map_append,map_cons]at nd
   exact(nodup_append.mp nd).2.2 _ (Zhk hv) p.1 mem_cons_self rfl
theorem Zek {kvs:List (Key×V)}(nd:(kvs.map (·.1)).Nodup):L2.putAll kvs=kvs:=by
 show kvs.foldl (λm kv=>putK m kv.1 kv.2) []=kvs
 rw[putAll_go kvs [] (by simpa using nd)]
 rfl
theorem Zmr {α:Type}{g:α->Str}{xs:List α}(nd:(xs.map g).Nodup):(xs.map λx=>(Sum.inr (g x):Key)).Nodup:=by
 have:(xs.map λx=>(Sum.inr (g x):Key))=(xs.map g).map Sum.inr:=by rw[map_map];rfl
 rw[this]
 exact pairwise_map.mpr (List.Pairwise.imp (λh e=>h (Sum.inr.inj e)) nd)
theorem Zfv (ds:List Dee)(ls:List Loo):(Zbq ds ls).map (λs=>s.1)=ds.map Dee.name++ls.map Loo.name:=by
 unfold Zbq
 rw[map_append,map_map,map_map]
 rfl
theorem PaV.same {H H':Hp}(s:Same H H'){v:V}{l:Loo}(h:PaV H v l):PaV H' v l:=by
 obtain⟨r,ro,ts,ps,zs,e,d0,h,hp,pm,lt,ok⟩:=h
 exact⟨r,ro,ts,ps,zs,e,d0,s _ _ h,⟨hp.1,λi a p h1 h2=>s _ _ (hp.2 i a p h1 h2)⟩,pm,lt,ok⟩
theorem PaV.keep {H H':Hp}(k:∀b xs,H b=some (.tup xs)->H' b=some (.tup xs))(k2:∀b o xs,H b=some (.frz o (.tup xs))->H' b=some (.frz o (.tup xs))){v:V}{l:Loo}(h:PaV H v l):PaV H' v l:=by
 obtain⟨r,ro,ts,ps,zs,e,d0,h,hp,pm,lt,ok⟩:=h
 exact⟨r,ro,ts,ps,zs,e,d0,k2 _ _ _ h,⟨hp.1,λi a p h1 h2=>k _ _ (hp.2 i a p h1 h2)⟩,pm,lt,ok⟩
theorem KA.of_map {α:Type}{nm:α->Str}{R:V->α->Prop}{g:α->V}(xs:List α)(r:∀x,R (g x) x):KA nm R (xs.map λx=>((Sum.inr (nm x):Key),g x)) xs:=⟨length_map ..,λi kv d h1 h2=>by
 rw[getElem?_map,h2]at h1
 cases h1
 exact⟨rfl,r d⟩⟩
theorem ok_init {f C f1' f2' f3' f4' f5' f6':Addr}{fd d1 d2 d3 d4 d5 d6:FuncData}(F:Fun K "__init__" "Chart.__init__" Zl1 f fd)(L:Cl K C)(T:Bl mg)(D_check_many:Df K mg "check_many" Zdi Zdn f1' d1)(G_check_many:FnOk P w K mg base CX0 1 f1' d1 Zdn spCheckMany)(D_check_steps:Df K mg "check_steps" Zb8 Zc2 f2' d2)(G_check_steps:FnOk P w K mg base CX0 2 f2' d2 Zc2 spCheckSteps)
  (D_read_deeds:Df K mg "read_deeds" Zcj Zdm f3' d3)(G_read_deeds:FnOk P w K mg base CX0 2 f3' d3 Zdm spReadDeeds)(D_read_looks:Df K mg "read_looks" Zde Zdl f4' d4)(G_read_looks:FnOk P w K mg base CX0 2 f4' d4 Zdl spReadLooks)(D_parted:Df K mg "parted" Zhp Zhy f5' d5)(G_parted:FnOk P w K mg base CX0 2 f5' d5 Zhy spParted)
  (D_doable_sets:Df K mg "doable_sets" Zbv Zc0 f6' d6)(G_doable_sets:FnOk P w K mg base CX0 2 f6' d6 Zc0 spDoable):FnOk P w K mg base CX0 3 f fd Zoo (spInitC C):=by
 refine F.oq scInit λcdv A outer s H vs Q E hr2 h=>?_
 obtain⟨x,dx,a,b,m,us,ws,ds,ls,as,rfl,hx,ha,hb,hd,hl,ok,q⟩:=h
 have hr1:Room 1 _:=hr2.mono (by decide)
 have hsl:sizeLine=16777216:=sizeLine_eq
 refine⟨_,(Zac (Zaz (Za5 G_check_many hr1 (by rfl) D_check_many.m D_check_many.F.kp D_check_many.b .nil Zak (Zaa (pv 1) Zab)))
  (Zac (Zaz (Za5 G_check_steps hr2 (by rfl) D_check_steps.m D_check_steps.F.kp D_check_steps.b .nil Zak (Zaa (pv 2) (Zaa (pv 3) Zab))))
  (Zac (Zb3 (pv 0) (pv 1) rfl)
  (Zac (Zb3 (pv 0) (Zay (Zdr rfl) (by rfl) T.dict Zii (Zaa (Zcw (N:=["step"]) (sc:=Zaf Zl1) (own:=["step"]) (fr:=[]) (js:=[]) Zb4 rfl (Za4 (Zau Zmp (Zay Zbf (by rfl) T.list Zbx (Zaa (pv 2) Zab)) (Zay Zbf (by rfl) T.list Zbx (Zaa (pv 3) Zab)))) (λ_ _ _ _=>Za3 (i:=0) (show List.Nodup (["step"]:List Str) by decide +kernel)) (λ_ _ _ _=>Zbn) (λ_ _ _ _=>(Zbb (Zaa (Zas (Zb2 K rfl) (pv 0) Zae (λ_ _=>rfl)) (Zaa (Zas (Zb2 K rfl) (pv 0) Zae (λ_ _=>rfl)) Zab))))) Zab)) rfl)
  (Zac (Zb3 (pv 0) (Za5 G_read_deeds hr2 (by rfl) D_read_deeds.m D_read_deeds.F.kp D_read_deeds.b .nil Zak (Zaa (pv 1) (Zaa (pv 2) Zab))) rfl)
  (Zac (Zb3 (pv 0) (Za5 G_read_looks hr2 (by rfl) D_read_looks.m D_read_looks.F.kp D_read_looks.b .nil Zak (Zaa (pv 1) (Zaa (pv 3) Zab))) rfl)
  (Zac (Zb3 (pv 0) (Zay (Zdr rfl) (by rfl) T.dict Zii (Zaa (Zcw (N:=["name", "answers"]) (sc:=Zaf Zl1) (own:=["name", "answers"]) (fr:=[]) (js:=[]) Zb4 rfl (Zgc (Zhw (Zbm (pv 0) rfl))) (λ_ _ _ _=>Zmu K rfl (Zcm (n:=2) rfl (Zax (Za3 (i:=0) (show List.Nodup (["name", "answers"]:List Str) by decide +kernel)) (Zax (Za3 (i:=1) (show List.Nodup (["name", "answers"]:List Str) by decide +kernel)) Zbw)))) (λ_ _ _ _=>Zbn) (λ_ _ _ _=>(Zbb (Zaa (pv 0) (Zaa (Za5 G_parted hr2 (by rfl) D_parted.m D_parted.F.kp D_parted.b .nil Zak (Zaa (pv 1) Zab)) Zab))))) Zab)) rfl)
  (Zag (Zb3 (pv 0) (Za5 G_doable_sets hr2 (by rfl) D_doable_sets.m D_doable_sets.F.kp D_doable_sets.b .nil Zak (Zaa (Zbm (pv 0) rfl) (Zaa (Zbm (pv 0) rfl) Zab))) rfl))))))))),?_⟩
 -- the checks
 refine⟨_,rfl,(m:Int),rfl,by have:=ok.m1;lia,by have:=ok.m2;lia,?_⟩
 have hst:A2 (λv s=>∃t,StV H v s.1 s.2 t) (us++ws) (Zbq ds ls):=A2.app (hd.map λv d r=>by obtain⟨t,es,st,_⟩:=r;exact⟨t,st⟩) (hl.map λv l r=>by obtain⟨t,st,_⟩:=r;exact⟨t,st⟩)
 have fd':=ok.fd
 have fl':=ok.fl
 have hdl:=hd.len
 have hll:=hl.len
 have snd:((Zbq ds ls).map (λs=>s.1)).Nodup:=by rw[Zfv];exact ok.nd
 refine⟨_,rfl,_,rfl,a,b,us,ws,Zbq ds ls,rfl,ha,hb,hst,by lia,by lia,snd,λs hs=>?_,λH1 s1=>?_⟩
 ·rcases(mem_append.mp hs)with z | z
  ·obtain⟨d,hd',rfl⟩:=mem_map.mp z
   exact ok.so d hd'
  obtain⟨l,hl',rfl⟩:=mem_map.mp z
  exact ok.sl l hl'
 -- the number of worlds
 have hx1:=s1 _ _ hx
 refine⟨_,rfl,_,rfl,x,C,dx,[],rfl,hx1,L.cl,L.n1,by show 0<1000;decide,?_⟩
 have kc2:∀c u,H c=some u->c≠x->(upd H1 x (.ins C dx (putF "many" (.int (m:Int)) []))) c=some u:=λc u e hc=>by rw[Zaj hc];exact s1 _ _ e
 have xc2:(upd H1 x (.ins C dx (putF "many" (.int (m:Int)) []))) x=some (.ins C dx (putF "many" (.int (m:Int)) [])):=Zad
 generalize (upd H1 x (.ins C dx (putF "many" (.int (m:Int)) [])))=H2 at kc2 xc2 ⊢
 have ax:a≠x:=Zbg ha hx (by intro z;cases z)
 have bx:b≠x:=Zbg hb hx (by intro z;cases z)
 -- the prices
 refine⟨_,rfl,a,_,rfl,.inl (SqL.of (kc2 _ _ ha ax)),λl1 hl1=>?_⟩
 obtain⟨H3,g0,s3,e3⟩:=gen1 (H:=H2) (o:=.lst us) hl1
 rw[g0]
 refine⟨_,rfl,b,_,rfl,.inl (SqL.of (s3 _ _ (kc2 _ _ hb bx))),λl2 hl2=>?_⟩
 obtain⟨H4,g0,s4,e4⟩:=gen1 (H:=H3) (o:=.lst ws) hl2
 rw[g0]
 refine⟨l1,l2,_,_,rfl,rfl,s4 _ _ e3,e4,by lia,λl3 hl3=>?_⟩
 obtain⟨H5,g0,s5,e5⟩:=gen1 (H:=H4) (o:=.lst (us++ws)) hl3
 rw[g0]
 have s25:=(s3.trans s4).trans s5
 have kc5:∀c u,H c=some u->c≠x->H5 c=some u:=λc u e hc=>s25 _ _ (kc2 c u e hc)
 have hst5:A2 (λv s=>∃t,StV H5 v s.1 s.2 t) (us++ws) (Zbq ds ls):=hst.mono λv s _ ⟨t,r⟩=>⟨t,r.kx kc5 hx⟩
 have hsl2:=hst.len
 have hul:(us++ws).length<=80:=by rw[length_append];lia
 refine⟨l3,rfl,⟨_,SqL.of e5⟩,λD hD=>?_⟩
 refine lcJ (n:=(us++ws).length) (λi ys H6=>∃ts:List Addr,ys=ts.map V.ref/\ts.length=i/\(∀(j:Nat) t s,ts[j]? = some t->(Zbq ds ls)[j]? = some s->H6 t=some (.tup [.str s.1,.int s.2]))/\Same H5 H6/\H6 D=some (.lst ys)) ⟨[],rfl,rfl,(λj t s h=>by cases h),Same.new hD,Zad⟩
  (λi ys H6 hi ⟨_,_,_,_,s6,_⟩=>⟨_,(us++ws)[i],SqL.of (s6 _ _ e5),getElem?_eq_getElem hi⟩) (λys H6 hh0=>by obtain⟨_,_,_,_,s6,_⟩:=hh0;exact⟨_,SqL.of (s6 _ _ e5),Nat.le_refl _⟩) ?_ ?_
 ·rintro i ys H6 y H7 hi ⟨ts,rfl,hts,ht,s6,e6⟩ ⟨rfl,hy⟩
  refine Zbu ?_
  obtain⟨sp,hsp,hmem,t,a',rfl,et⟩:=hst5.at (hy _ (SqL.of (s6 _ _ e5)))
  have at0:atI [V.str sp.1,V.int sp.2,V.ref t] ((0:Nat):Int)=some (.str sp.1):=Zal rfl
  have at1:atI [V.str sp.1,V.int sp.2,V.ref t] ((1:Nat):Int)=some (.int sp.2):=Zal rfl
  have et6:=s6 _ _ et
  refine⟨_,rfl,a',_,_,_,rfl,rfl,SqT.of et6,at0,_,rfl,a',_,_,_,rfl,rfl,SqT.of et6,at1,by show 2<=sizeLine;lia,λtp htp=>?_⟩
  have s7:Same H7 (upd H7 tp (.tup [.str sp.1,.int sp.2])):=Same.new htp
  have tD:tp≠D:=(Zah e6 htp).symm
  refine⟨_,s7 _ _ e6,by rw[length_map];lia,ts++[tp],by rw[map_append];rfl,by rw[length_append,hts];rfl,λj t' s' h1 h2=>?_,(s6.trans s7).put hD,Zad⟩
  by_cases hj:j<ts.length
  ·rw[getElem?_append_left hj]at h1
   have:=ht j t' s' h1 h2
   rw[Zaj (Zbg this e6 (by intro z;cases z))]
   exact s7 _ _ this
  rw[getElem?_append_right (by lia)]at h1
  have h0:j-ts.length=0:=by
   have:=(List.getElem?_eq_some_iff.mp h1).1
   simp at this
   lia
  rw[h0]at h1
  cases h1
  have ej:j=i:=by lia
  subst ej
  rw[hsp]at h2
  cases h2
  rw[Zaj tD]
  exact Zad
 rintro ys H6 ⟨ts,rfl,hts,ht,s6,e6⟩
 have nk:(((Zbq ds ls).map λs=>((Sum.inr s.1:Key),V.int s.2)).map (·.1)).Nodup:=by
  rw[map_map]
  exact Zmr (g:=λs:Str×Int=>s.1) snd
 refine⟨D,ts,(Zbq ds ls).map λs=>((Sum.inr s.1:Key),V.int s.2),rfl,e6,by rw[length_map,hts,hsl2],by rw[length_map,<- hsl2];lia,λi t k v h1 h2=>?_,λdp hdp=>?_⟩
 ·rw[getElem?_map]at h2
  cases hs:(Zbq ds ls)[i]? with
  | none=>rw[hs]at h2;cases h2
  | some s=>
   rw[hs]at h2
   cases h2
   exact ht i t s h1 hs
 rw[Zek nk]
 have kaP:KA (λs:Str×Int=>s.1) (λv s=>v=V.int s.2) ((Zbq ds ls).map λs=>((Sum.inr s.1:Key),V.int s.2)) (Zbq ds ls):=KA.of_map (nm:=λs:Str×Int=>s.1) (g:=λs:Str×Int=>V.int s.2) _ λ_=>rfl
 generalize ((Zbq ds ls).map λs=>((Sum.inr s.1:Key),V.int s.2))=kp at kaP ⊢
 have s7:Same H6 (upd H6 dp (.dK kp)):=Same.new hdp
 have s27:=(s25.trans s6).trans s7
 have xp:x≠dp:=λz=>by
  have:=(s25.trans s6) _ _ xc2
  rw[z,hdp]at this
  cases this
 refine⟨_,rfl,x,C,dx,_,rfl,s27 _ _ xc2,L.cl,L.n2,by show 1<1000;decide,?_⟩
 have kcA:∀c u,H c=some u->c≠x->(upd (upd H6 dp (.dK kp)) x (.ins C dx (putF "prices" (.ref dp) (putF "many" (.int (m:Int)) [])))) c=some u:=λc u e hc=>by rw[Zaj hc];exact s27 _ _ (kc2 c u e hc)
 have xcA:(upd (upd H6 dp (.dK kp)) x (.ins C dx (putF "prices" (.ref dp) (putF "many" (.int (m:Int)) [])))) x=some (.ins C dx (f2 (m:Int) dp)):=Zad
 have pA:(upd (upd H6 dp (.dK kp)) x (.ins C dx (putF "prices" (.ref dp) (putF "many" (.int (m:Int)) [])))) dp=some (.dK kp):=by rw[Zaj xp.symm];exact Zad
 generalize (upd (upd H6 dp (.dK kp)) x (.ins C dx (putF "prices" (.ref dp) (putF "many" (.int (m:Int)) []))))=HA at kcA xcA pA ⊢
 -- the deeds
 have ndD:=(nodup_append.mp ok.nd).1
 have ndL:=(nodup_append.mp ok.nd).2.1
 refine⟨_,rfl,_,rfl,m,a,us,ds,rfl,ok.m2,kcA _ _ ha ax,hd.mono (λv d _ r=>r.kx kcA hx),ok.de,ndD,fd',λdO kO HB sB fB eB kaO=>?_⟩
 have xO:x≠dO:=λz=>by rw[z,fB]at xcA;cases xcA
 refine⟨_,rfl,x,C,dx,_,rfl,sB _ _ xcA,L.cl,L.n3,by show 2<1000;decide,?_⟩
 have kcC:∀c u,H c=some u->c≠x->(upd HB x (.ins C dx (putF "told_outs" (.ref dO) (f2 (m:Int) dp)))) c=some u:=λc u e hc=>by rw[Zaj hc];exact sB _ _ (kcA c u e hc)
 have xcC:(upd HB x (.ins C dx (putF "told_outs" (.ref dO) (f2 (m:Int) dp)))) x=some (.ins C dx (f3 (m:Int) dp dO)):=Zad
 have pC:(upd HB x (.ins C dx (putF "told_outs" (.ref dO) (f2 (m:Int) dp)))) dp=some (.dK kp):=by rw[Zaj xp.symm];exact sB _ _ pA
 have oC:(upd HB x (.ins C dx (putF "told_outs" (.ref dO) (f2 (m:Int) dp)))) dO=some (.dK kO):=by rw[Zaj xO.symm];exact eB
 have kaOC:KA Dee.name (OuV (upd HB x (.ins C dx (putF "told_outs" (.ref dO) (f2 (m:Int) dp))))) kO ds:=kaO.mono λv d _ r=>r.keep λb xs e=>by
  rw[Zaj (Zbg e (sB _ _ xcA) (by intro z;cases z))]
  exact e
 generalize (upd HB x (.ins C dx (putF "told_outs" (.ref dO) (f2 (m:Int) dp))))=HC at kcC xcC pC oC kaOC ⊢
 -- the looks
 refine⟨_,rfl,_,rfl,m,b,ws,ls,rfl,ok.m2,kcC _ _ hb bx,hl.mono (λv d _ r=>r.kx kcC hx),ok.lo,ndL,fl',λdA kA HD sD fD eD kaA=>?_⟩
 have xA:x≠dA:=λz=>by rw[z,fD]at xcC;cases xcC
 have pOA:dO≠dA:=λz=>by rw[z,fD]at oC;cases oC
 refine⟨_,rfl,x,C,dx,_,rfl,sD _ _ xcC,L.cl,L.n4,by show 3<1000;decide,?_⟩
 have kcE:∀c u,H c=some u->c≠x->(upd HD x (.ins C dx (putF "told_answers" (.ref dA) (f3 (m:Int) dp dO)))) c=some u:=λc u e hc=>by rw[Zaj hc];exact sD _ _ (kcC c u e hc)
 have xcE:(upd HD x (.ins C dx (putF "told_answers" (.ref dA) (f3 (m:Int) dp dO)))) x=some (.ins C dx (f4 (m:Int) dp dO dA)):=Zad
 have pE:(upd HD x (.ins C dx (putF "told_answers" (.ref dA) (f3 (m:Int) dp dO)))) dp=some (.dK kp):=by rw[Zaj xp.symm];exact sD _ _ pC
 have oE:(upd HD x (.ins C dx (putF "told_answers" (.ref dA) (f3 (m:Int) dp dO)))) dO=some (.dK kO):=by rw[Zaj xO.symm];exact sD _ _ oC
 have aE:(upd HD x (.ins C dx (putF "told_answers" (.ref dA) (f3 (m:Int) dp dO)))) dA=some (.dK kA):=by rw[Zaj xA.symm];exact eD
 have tupE:∀b xs,HD b=some (.tup xs)->(upd HD x (.ins C dx (putF "told_answers" (.ref dA) (f3 (m:Int) dp dO)))) b=some (.tup xs):=λb xs e=>by
  rw[Zaj (Zbg e (sD _ _ xcC) (by intro z;cases z))]
  exact e
 have kaOE:=kaOC.mono λv d _ r=>OuV.keep (λb xs e=>tupE b xs (sD _ _ e)) r
 have kaAE:=kaA.mono λv d _ r=>AnV.keep tupE r
 generalize (upd HD x (.ins C dx (putF "told_answers" (.ref dA) (f3 (m:Int) dp dO))))=HE at kcE xcE pE oE aE kaOE kaAE ⊢
 -- the parts
 have lk4:(f4 (m:Int) dp dO dA).lookup ("told_answers" : Str)=some (.ref dA):=by
  unfold f4
  rw[Zai,if_pos rfl]
 refine⟨_,rfl,x,C,dx,_,_,rfl,xcE,L.cl,L.n4,lk4,dA,kA,rfl,.inl aE,λv hv=>?_⟩
 have sv:Same HE (upd HE v (Zch v dA)):=Same.new hv
 refine⟨v,dA,kA,rfl,Zad,.inl ⟨sv _ _ aE,λo2=>?_⟩⟩
 have kF:∀c u,HE c=some u->c≠dA->(upd (upd HE v (Zch v dA)) dA (.frz o2 (.dK kA))) c=some u:=λc u e hc=>by rw[Zaj hc];exact sv _ _ e
 have aF:(upd (upd HE v (Zch v dA)) dA (.frz o2 (.dK kA))) dA=some (.frz o2 (.dK kA)):=Zad
 generalize (upd (upd HE v (Zch v dA)) dA (.frz o2 (.dK kA)))=HF at kF aF ⊢
 have pAA:dp≠dA:=λz=>by rw[z,fD]at pC;cases pC
 have xF:=kF _ _ xcE xA
 have pF:=kF _ _ pE pAA
 have oF:=kF _ _ oE pOA
 have tupF:∀b xs,HE b=some (.tup xs)->HF b=some (.tup xs):=λb xs e=>kF _ _ e (Zbg e aE (by intro z;cases z))
 have kaOF:=kaOE.mono λv d _ r=>OuV.keep tupF r
 have kaAF:=kaAE.mono λv d _ r=>AnV.keep tupF r
 have hkA:=kaAF.len
 intro D hD
 refine lcJ2 (K:=K) (n:=kA.length) (λi ys HG=>∃(ts:List Addr) (kvs:List (Key×V)),ys=ts.map V.ref/\ts.length=kvs.length/\(∀(j:Nat) t k v,ts[j]? = some t->kvs[j]? = some (k,v)->HG t=some (.tup [kV k,v]))/\KA Loo.name (PaV HG) kvs (ls.take i)/\Same HF HG/\HG D=some (.lst ys)) ⟨[],[],rfl,rfl,(λj t k v h=>by cases h),by rw[take_zero];exact KA.nil,Same.new hD,Zad⟩
  (λi ys HG hi hh0=>by obtain⟨_,_,_,_,_,_,sG,_⟩:=hh0;exact⟨hi,sG _ _ aF⟩) (λys HG hh0=>by obtain⟨_,_,_,_,_,_,sG,_⟩:=hh0;exact⟨Nat.le_refl _,sG _ _ aF⟩) ?_ ?_
 ·rintro i ys HG y HH hi ⟨ts,kvs,rfl,hts,ht,kk,sG,eG⟩ ⟨pp,k,v,rfl,hpp,rfl,hx2⟩
  have hil:i<ls.length:=by lia
  have hli:ls[i]? = some ls[i]:=getElem?_eq_getElem hil
  have hlm:ls[i]∈ls:=getElem_mem hil
  obtain⟨ek,t,ev,htt⟩:=kaAF.got i _ _ hx2 hli
  generalize ls[i]=lo at hli hlm ek htt
  have ek':k=Sum.inr lo.name:=ek
  have ev':v=V.ref t:=ev
  subst ek' ev'
  have sP:Same HG (upd HG pp (.tup [kV (Sum.inr lo.name:Key),V.ref t])):=Same.new hpp
  refine⟨pp,_,_,rfl,SqT.of Zad,Zbu ?_⟩
  have lt:=ok.lo lo hlm
  have m2:=ok.m2
  refine⟨_,rfl,_,rfl,t,lo.tab,as,rfl,(sG.trans sP) _ _ htt,by lia,ok.an lo hlm,ok.a3,ok.ad,λr ro ts' ps zs HI sI rd0 er pr pm ltz po=>?_⟩
  refine⟨by show 2<=sizeLine;lia,λtp htp=>?_⟩
  have sT:Same HI (upd HI tp (.tup [.str lo.name,.ref r])):=Same.new htp
  have eI:=(sP.trans sI) _ _ eG
  have tD:tp≠D:=(Zah eI htp).symm
  have kkl:=kk.len
  rw[length_take]at kkl
  have sAll:=(sP.trans sI).trans sT
  have tupU:∀b xs (o:HO),(upd HI tp (.tup [.str lo.name,.ref r])) b=some (.tup xs)->(upd (upd HI tp (.tup [.str lo.name,.ref r])) D o) b=some (.tup xs):=λb xs o e=>by
   rw[Zaj (Zbg e (sT _ _ eI) (by intro z;cases z))]
   exact e
  have tupV:∀b ob xs (o:HO),(upd HI tp (.tup [.str lo.name,.ref r])) b=some (.frz ob (.tup xs))->(upd (upd HI tp (.tup [.str lo.name,.ref r])) D o) b=some (.frz ob (.tup xs)):=λb ob xs o e=>by
   rw[Zaj (Zbg e (sT _ _ eI) (by intro z;cases z))]
   exact e
  refine⟨_,sT _ _ eI,by rw[length_map];lia,ts++[tp],kvs++[(Sum.inr lo.name,.ref r)],by rw[map_append];rfl,by rw[length_append,length_append,hts];rfl,λj t' k' v' h1 h2=>?_,?_,(sG.trans sAll).put hD,Zad⟩
  ·by_cases hj:j<ts.length
   ·rw[getElem?_append_left hj]at h1
    rw[getElem?_append_left (by lia)]at h2
    exact tupU _ _ _ (sAll _ _ (ht j t' k' v' h1 h2))
   rw[getElem?_append_right (by lia)]at h1
   rw[getElem?_append_right (by lia),<- hts]at h2
   have h0:j-ts.length=0:=by
    have:=(List.getElem?_eq_some_iff.mp h1).1
    simp at this
    lia
   rw[h0]at h1 h2
   cases h1
   cases h2
   rw[Zaj tD]
   exact Zad
  rw[Zdd hli]
  refine KA.snoc (kk.mono λv d _ rr=>(rr.same sAll).keep (λb xs e=>tupU _ _ _ e) (λb o xs e=>tupV _ _ _ _ e)) ?_
  have pv:PaV HI (V.ref r) lo:=⟨r,ro,ts',ps,zs,rfl,rd0,er,pr,pm,ltz,po⟩
  exact(pv.same sT).keep (λb xs e=>tupU _ _ _ e) (λb o xs e=>tupV _ _ _ _ e)
 rintro ys HG ⟨ts,kq,rfl,hts,ht,kk,sG,eG⟩
 rw[hkA,take_length]at kk
 have nkq:(kq.map (·.1)).Nodup:=by
  rw[kk.keysE]
  exact Zmr ndL
 have kql:=kk.len
 refine⟨D,ts,kq,rfl,eG,hts,by lia,ht,λdq hdq=>?_⟩
 rw[Zek nkq]
 have sq:Same HG (upd HG dq (.dK kq)):=Same.new hdq
 have sGq:=sG.trans sq
 have xq:x≠dq:=λz=>by
  have:=sG _ _ xF
  rw[z,hdq]at this
  cases this
 refine⟨_,rfl,x,C,dx,_,rfl,sGq _ _ xF,L.cl,L.n5,by show 4<1000;decide,?_⟩
 have xI:(upd (upd HG dq (.dK kq)) x (.ins C dx (putF "told_parts" (.ref dq) (f4 (m:Int) dp dO dA)))) x=some (.ins C dx (f5 (m:Int) dp dO dA dq)):=Zad
 have kI:∀c u,HF c=some u->c≠x->(upd (upd HG dq (.dK kq)) x (.ins C dx (putF "told_parts" (.ref dq) (f4 (m:Int) dp dO dA)))) c=some u:=λc u e hc=>by rw[Zaj hc];exact sGq _ _ e
 have qI:(upd (upd HG dq (.dK kq)) x (.ins C dx (putF "told_parts" (.ref dq) (f4 (m:Int) dp dO dA)))) dq=some (.dK kq):=by rw[Zaj xq.symm];exact Zad
 have tupI:∀b xs,HG b=some (.tup xs)->(upd (upd HG dq (.dK kq)) x (.ins C dx (putF "told_parts" (.ref dq) (f4 (m:Int) dp dO dA)))) b=some (.tup xs):=λb xs e=>by
  rw[Zaj (Zbg e (sG _ _ xF) (by intro z;cases z))]
  exact sq _ _ e
 have frzI:∀b ob xs,HG b=some (.frz ob (.tup xs))->(upd (upd HG dq (.dK kq)) x (.ins C dx (putF "told_parts" (.ref dq) (f4 (m:Int) dp dO dA)))) b=some (.frz ob (.tup xs)):=λb ob xs e=>by
  rw[Zaj (Zbg e (sG _ _ xF) (by intro z;cases z))]
  exact sq _ _ e
 have kkI:=kk.mono λv d _ r=>PaV.keep tupI frzI r
 generalize (upd (upd HG dq (.dK kq)) x (.ins C dx (putF "told_parts" (.ref dq) (f4 (m:Int) dp dO dA))))=HI at xI kI qI tupI kkI ⊢
 have pI:=kI _ _ pF xp.symm
 have oI:=kI _ _ oF xO.symm
 have aI:=kI _ _ aF xA.symm
 have tupI2:∀b xs,HF b=some (.tup xs)->HI b=some (.tup xs):=λb xs e=>tupI b xs (sG _ _ e)
 have kaOI:=kaOF.mono λv d _ r=>OuV.keep tupI2 r
 have kaAI:=kaAF.mono λv d _ r=>AnV.keep tupI2 r
 -- what can be done
 have lk3:(f5 (m:Int) dp dO dA dq).lookup ("told_outs" : Str)=some (.ref dO):=by
  unfold f5 f4 f3
  rw[Zai,if_neg (by decide +kernel),Zai,if_neg (by decide +kernel),Zai,if_pos rfl]
 have lk4':(f5 (m:Int) dp dO dA dq).lookup ("told_answers" : Str)=some (.ref dA):=by
  unfold f5 f4
  rw[Zai,if_neg (by decide +kernel),Zai,if_pos rfl]
 have m2:=ok.m2
 refine⟨_,rfl,x,C,dx,_,_,rfl,xI,L.cl,L.n3,lk3,_,rfl,x,C,dx,_,_,rfl,xI,L.cl,L.n4,lk4',dO,dA,kO,kA,ds,ls,o2,rfl,pOA,oI,aI,kaOI,kaAI,ok.nd,fd',fl',(λd hd'=>by rw[(ok.de d hd').len];exact m2),(λl hl'=>by rw[ok.lo l hl'];exact m2),λdd kd HJ o1 kJ fJ eJ oJ kaD=>?_⟩
 have xO':x≠dO:=xO
 have xJ:=kJ _ _ xI xO'
 have xd:x≠dd:=λz=>by rw[z,fJ]at xI;cases xI
 refine⟨_,rfl,x,C,dx,_,rfl,xJ,L.cl,L.n6,by show 5<1000;decide,?_⟩
 have pO:dp≠dO:=λz=>by rw[z,fB]at pA;cases pA
 have qO:dq≠dO:=λz=>by
  have:=sG _ _ oF
  rw[<- z,hdq]at this
  cases this
 have keep:∀c u,HJ c=some u->c≠x->(upd HJ x (.ins C dx (putF "told_doable" (.ref dd) (f5 (m:Int) dp dO dA dq)))) c=some u:=λc u e hc=>by rw[Zaj hc];exact e
 have tupJ:∀b xs,HI b=some (.tup xs)->(upd HJ x (.ins C dx (putF "told_doable" (.ref dd) (f5 (m:Int) dp dO dA dq)))) b=some (.tup xs):=λb xs e=>
  keep _ _ (kJ _ _ e (Zbg e oI (by intro z;cases z))) (Zbg e xI (by intro z;cases z))
 have frzJ:∀b ob xs,HI b=some (.frz ob (.tup xs))->(upd HJ x (.ins C dx (putF "told_doable" (.ref dd) (f5 (m:Int) dp dO dA dq)))) b=some (.frz ob (.tup xs)):=λb ob xs e=>
  keep _ _ (kJ _ _ e (Zbg e oI (by intro z;cases z))) (Zbg e xI (by intro z;cases z))
 refine q _ (λc u e hc=>keep c u (kJ c u (kI c u (kF c u (kcE c u e hc) ?_) hc) ?_) hc) ⟨dx,dp,dO,dA,dq,dd,kp,kO,kA,kq,kd,o1,o2,Zad,keep _ _ (kJ _ _ pI pO) xp.symm,keep _ _ oJ xO.symm,keep _ _ (kJ _ _ aI pOA.symm) xA.symm,keep _ _ (kJ _ _ qI qO) xq.symm,keep _ _ eJ xd.symm,kaP,kaOI.mono λv d _ r=>OuV.keep tupJ r,kaAI.mono λv d _ r=>AnV.keep tupJ r,kkI.mono λv d _ r=>PaV.keep tupJ frzJ r,kaD⟩
 ·intro z
  have:=kcC c u e hc
  rw[z,fD]at this
  cases this
 intro z
 have:=kcA c u e hc
 rw[z,fB]at this
 cases this
theorem ok_worldsof {f:Addr}{fd:FuncData}(F:Fun K "worlds_of" "worlds_of" Zci f fd)(T:Bl mg):FnOk P w K mg base CX0 1 f fd Zel spWof:=by
 refine F.oq scWorldsOf λcdv A outer s H vs Q E hr h=>?_
 obtain⟨m,rfl,hm,q⟩:=h
 have hsl:sizeLine=16777216:=sizeLine_eq
 refine⟨_,(Zag (Zam (Zcw (N:=["world", "some"]) (sc:=Zaf Zci) (own:=["world"]) (fr:=["some"]) (js:=[0]) Zb4 rfl (Zbr (by rfl) T.range (Zaa (Zkx PySem.F.plainAttrs_int PySem.F.slot_int_bit_length PySem.F.type_int_bit_length Zi4 (pv 0)) Zab)) (λ_ _ _ _=>Za3 (i:=0) (show List.Nodup (["world", "some"]:List Str) by decide +kernel)) (λ_ _ _ _=>Zcv (Zao Zbt (Zau Zfg (Zau Zk2 (pv 1) (pv 0)) Zae) Zae (Zar _))) (λ_ _ _ _=>(pv 0))))),?_⟩
 have hnb:nb m<=200:=Zno hm
 have hnb2:Builtin.Int.intBits (m:Int)<=200:=hnb
 refine⟨_,rfl,rfl,_,rfl,rfl,_,rfl,by lia,by lia,λD hD=>?_⟩
 refine lcJ (n:=nb m) (λi ys H2=>ys=(((List.range i).filter λj=>m.testBit j).map λ(j:Nat)=>(j:Int)).map V.int/\Same H H2/\H2 D=some (.lst ys)) ⟨rfl,Same.new hD,Zad⟩
  (λi ys H2 hi _=>by show i<_;rw[toNat_natCast];exact hi) (λys H2 _=>by show _<=nb m;rw[toNat_natCast];exact Nat.le_refl _) ?_ ?_
 ·rintro i ys H2 x H3 hi ⟨rfl,s2,e2⟩ ⟨rfl,rfl⟩
  have e0:(0+(i:Int)).toNat=i:=by lia
  refine⟨_,rfl,_,rfl,_,_,rfl,rfl,by show(0:Int)<=0+(i:Int);lia,_,_,rfl,rfl,rfl,_,rfl,?_⟩
  rw[e0,Zlo]
  have hl:((((List.range i).filter λj=>m.testBit j).map λ(j:Nat)=>(j:Int)).map V.int).length<sizeLine:=by
   rw[length_map,length_map]
   have:=length_filter_le (λj=>m.testBit j) (List.range i)
   rw[length_range]at this
   lia
  cases hb:m.testBit i with
  | true=>
   refine Zoq rfl ?_
   refine⟨_,rfl,_,e2,hl,?_,s2.put hD,Zad⟩
   rw[range_succ,filter_append,map_append,map_append]
   simp[hb]
  | false=>
   refine Zor (by decide) ?_
   refine⟨?_,s2,?_⟩
   ·rw[range_succ,filter_append]
    simp[hb]
   exact e2
 rintro ys H2 ⟨rfl,s2,e2⟩
 exact q D H2 s2 hD e2
theorem Ze8 {m:Int}{p o a q d:Addr}{f:Str}(h:f∉(["many", "prices", "told_outs", "told_answers", "told_parts", "told_doable"]:List Str)):(f6 m p o a q d).lookup f=none:=by
 simp only[mem_cons,not_mem_nil,or_false,not_or]at h
 obtain⟨h1,h2,h3,h4,h5,h6⟩:=h
 unfold f6 f5 f4 f3 f2 f1
 rw[Zai,if_neg h6,Zai,if_neg h5,Zai,if_neg h4,Zai,if_neg h3,Zai,if_neg h2,Zai,if_neg h1]
 rfl
theorem f6_many {m:Int}{p o a q d:Addr}:(f6 m p o a q d).lookup ("many" : Str)=some (.int m):=by
 unfold f6 f5 f4 f3 f2 f1
 rw[Zai,if_neg (by decide +kernel),Zai,if_neg (by decide +kernel),Zai,if_neg (by decide +kernel),Zai,if_neg (by decide +kernel),Zai,if_neg (by decide +kernel),Zai,if_pos rfl]
theorem f6_prices {m:Int}{p o a q d:Addr}:(f6 m p o a q d).lookup ("prices" : Str)=some (.ref p):=by
 unfold f6 f5 f4 f3 f2
 rw[Zai,if_neg (by decide +kernel),Zai,if_neg (by decide +kernel),Zai,if_neg (by decide +kernel),Zai,if_neg (by decide +kernel),Zai,if_pos rfl]
theorem Zmz {m:Int}{p o a q d:Addr}:(f6 m p o a q d).lookup ("told_outs" : Str)=some (.ref o):=by
 unfold f6 f5 f4 f3
 rw[Zai,if_neg (by decide +kernel),Zai,if_neg (by decide +kernel),Zai,if_neg (by decide +kernel),Zai,if_pos rfl]
theorem f6_answers {m:Int}{p o a q d:Addr}:(f6 m p o a q d).lookup ("told_answers" : Str)=some (.ref a):=by
 unfold f6 f5 f4
 rw[Zai,if_neg (by decide +kernel),Zai,if_neg (by decide +kernel),Zai,if_pos rfl]
theorem ChAt.same {C:Addr}{H H':Hp}{x:Addr}{m:Nat}{ds:List Dee}{ls:List Loo}(h:ChAt C H x m ds ls)(s:Same H H'):ChAt C H' x m ds ls:=by
 obtain⟨dx,p,o,a,q,d,kp,ko,ka,kq,kd,o1,o2,h1,h2,h3,h4,h5,h6,k1,k2,k3,k4,k5⟩:=h.ex
 exact⟨dx,p,o,a,q,d,kp,ko,ka,kq,kd,o1,o2,s _ _ h1,s _ _ h2,s _ _ h3,s _ _ h4,s _ _ h5,s _ _ h6,k1,k2.mono λv d _ r=>OuV.keep (λb xs e=>s _ _ e) r,k3.mono λv d _ r=>AnV.keep (λb xs e=>s _ _ e) r,k4.mono λv d _ r=>PaV.keep (λb xs e=>s _ _ e) (λb o xs e=>s _ _ e) r,k5⟩
def Rp (x:Str):Prop:=(reprText x).length<=100000
inductive spSizeC (C:Addr)(vs:List V)(H:Hp)(Q:VK)(E0_:XK):Prop
 | mk (x:Addr) (m:Nat) (ds:List Dee) (ls:List Loo) (c0:vs=[.ref x]) (c1:ChAt C H x m ds ls) (c2:Q (.int (m:Int)) H):spSizeC C vs H Q E0_
inductive spOutSets (C:Addr)(vs:List V)(H:Hp)(Q:VK)(E:XK):Prop
 | mk (x:Addr) (m:Nat) (ds:List Dee) (ls:List Loo) (n:Str) (c0:vs=[.ref x,.str n]) (c1:ChAt C H x m ds ls) (c2:(ds.map Dee.name++ls.map Loo.name).Nodup) (c3:(False\/∃d∈ds,d.name=n/\∀t,H t=some (.tup (d.tab.map λn=>V.int (bt n:Nat)))->Q (.ref t) H)):spOutSets C vs H Q E
inductive spCheckDeed (C:Addr)(vs:List V)(H:Hp)(Q:VK)(E:XK):Prop
 | mk (x:Addr) (m:Nat) (ds:List Dee) (ls:List Loo) (n:Str) (c0:vs=[.ref x,.str n]) (c1:ChAt C H x m ds ls) (c2:(ds.map Dee.name++ls.map Loo.name).Nodup) (c3:(False\/(n∈ds.map Dee.name/\Q .non H))):spCheckDeed C vs H Q E
inductive spCheckLook (C:Addr)(vs:List V)(H:Hp)(Q:VK)(E:XK):Prop
 | mk (x:Addr) (m:Nat) (ds:List Dee) (ls:List Loo) (n:Str) (c0:vs=[.ref x,.str n]) (c1:ChAt C H x m ds ls) (c2:(ds.map Dee.name++ls.map Loo.name).Nodup) (c3:(False\/(n∈ls.map Loo.name/\Q .non H))):spCheckLook C vs H Q E
inductive spCheckStep (C:Addr)(vs:List V)(H:Hp)(Q:VK)(E:XK):Prop
 | mk (x:Addr) (m:Nat) (ds:List Dee) (ls:List Loo) (n:Str) (c0:vs=[.ref x,.str n]) (c1:ChAt C H x m ds ls) (c2:(ds.map Dee.name++ls.map Loo.name).Nodup) (c3:(False\/(n∈ds.map Dee.name++ls.map Loo.name/\Q .non H))):spCheckStep C vs H Q E
abbrev Znk:List Str:=["self"]
abbrev nSize:List Str:=["self"]
theorem scSize:FnScope nSize Znk (Zaf Zon):=Zav
abbrev Zhz:List Str:=["self", "name"]
abbrev nOutSets:List Str:=["self", "name"]
theorem scOutSets:FnScope nOutSets Zhz (Zaf Zhq):=Zav
abbrev Zdp:List Str:=["self", "name"]
abbrev nCheckDeed:List Str:=["self", "name"]
theorem scCheckDeed:FnScope nCheckDeed Zdp (Zaf Zex):=Zav
abbrev Zdo:List Str:=["self", "name"]
abbrev nCheckLook:List Str:=["self", "name"]
theorem scCheckLook:FnScope nCheckLook Zdo (Zaf Zew):=Zav
abbrev Ze0:List Str:=["self", "name"]
abbrev nCheckStep:List Str:=["self", "name"]
theorem scCheckStep:FnScope nCheckStep Ze0 (Zaf Zev):=Zav
theorem ok_checkdeed {f C:Addr}{fd:FuncData}(F:Fun K "check_deed" "Chart.check_deed" Zex f fd)(L:Cl K C):FnOk P w K mg base CX0 1 f fd Zdp (spCheckDeed C):=by
 refine F.oq scCheckDeed λcdv A outer s H vs Q E hr h=>?_
 obtain⟨x,m,ds,ls,n,rfl,R,nd,q⟩:=h
 have hu:=Zfk hr
 obtain⟨dx,p,o,a,q',d,kp,ko,ka,kq,kd,o1,o2,h1,h2,h3,h4,h5,h6,k1,k2,k3,k4,k5⟩:=R.ex
 refine⟨_,(Zag (Za2 (Zku (Zgf hu (pv 1) (Zbm (pv 0) rfl))) Zba Zan)),?_⟩
 rcases q with q | ⟨hn,q⟩
 ·exact q.elim
 obtain⟨de,hde,rfl⟩:=mem_map.mp hn
 obtain⟨v,hv,t,rfl,ht⟩:=k2.val (nodup_append.mp nd).1 hde
 have dg:DGet H o (.str de.name) (some (.ref t)):=.inl ⟨ko,(Sum.inr de.name:Key),.inr ⟨o1,h3⟩,rfl,hv.symm⟩
 refine⟨_,rfl,_,rfl,x,C,dx,_,_,rfl,h1,L.cl,L.n3,Zmz,o,_,rfl,dg,_,rfl,?_⟩
 exact iteF q
theorem ok_outsets {f C f1':Addr}{fd d_check_deed:FuncData}(F:Fun K "out_sets" "Chart.out_sets" Zhq f fd)(L:Cl K C)(b_check_deed:Binds K d_check_deed ["self", "name"] [])(m_check_deed:Meth K C "check_deed" f1')(G_check_deed:FnOk P w K mg base CX0 1 f1' d_check_deed Zdp (spCheckDeed C)):FnOk P w K mg base CX0 2 f fd Zhz (spOutSets C):=by
 refine F.oq scOutSets λcdv A outer s H vs Q E hr1 h=>?_
 obtain⟨x,m,ds,ls,n,rfl,R,nd,q⟩:=h
 have hu:=Zfk hr1
 have R0:=R
 obtain⟨dx,p,o,a,q',d,kp,ko,ka,kq,kd,o1,o2,h1,h2,h3,h4,h5,h6,k1,k2,k3,k4,k5⟩:=R.ex
 refine⟨_,(Zac (Zaz (Zcb (pv 0) L.cl m_check_deed G_check_deed hr1 b_check_deed .nil Zak (Zaa (pv 1) Zab)))
  (Zag (Zam (Zjz hu (Zbm (pv 0) rfl) (pv 1) (λ_ _=>rfl))))),?_⟩
 refine⟨_,rfl,x,dx,_,rfl,h1,Ze8 (by decide +kernel),_,rfl,x,m,ds,ls,n,rfl,R0,nd,?_⟩
 rcases q with q | ⟨de,hde,rfl,q⟩
 ·exact q.elim
 refine .inr ⟨mem_map.mpr ⟨de,hde,rfl⟩,?_⟩
 obtain⟨v,hv,t,rfl,ht⟩:=k2.val (nodup_append.mp nd).1 hde
 have dg:DGet H o (.str de.name) (some (.ref t)):=.inl ⟨ko,(Sum.inr de.name:Key),.inr ⟨o1,h3⟩,rfl,hv.symm⟩
 exact⟨_,rfl,x,C,dx,_,_,rfl,h1,L.cl,L.n3,Zmz,_,rfl,o,_,rfl,dg,q t ht⟩
theorem ok_checklook {f C:Addr}{fd:FuncData}(F:Fun K "check_look" "Chart.check_look" Zew f fd)(L:Cl K C):FnOk P w K mg base CX0 1 f fd Zdo (spCheckLook C):=by
 refine F.oq scCheckLook λcdv A outer s H vs Q E hr h=>?_
 obtain⟨x,m,ds,ls,n,rfl,R,nd,q⟩:=h
 have hu:=Zfk hr
 obtain⟨dx,p,o,a,q',d,kp,ko,ka,kq,kd,o1,o2,h1,h2,h3,h4,h5,h6,k1,k2,k3,k4,k5⟩:=R.ex
 refine⟨_,(Zag (Za2 (Zku (Zgf hu (pv 1) (Zbm (pv 0) rfl))) Zba Zan)),?_⟩
 rcases q with q | ⟨hn,q⟩
 ·exact q.elim
 obtain⟨l,hlm,rfl⟩:=mem_map.mp hn
 obtain⟨v,hv,t,rfl,ht⟩:=k3.val (nodup_append.mp nd).2.1 hlm
 have dg:DGet H a (.str l.name) (some (.ref t)):=.inl ⟨ka,(Sum.inr l.name:Key),.inr ⟨o2,h4⟩,rfl,hv.symm⟩
 refine⟨_,rfl,_,rfl,x,C,dx,_,_,rfl,h1,L.cl,L.n4,f6_answers,a,_,rfl,dg,_,rfl,?_⟩
 exact iteF q
theorem ok_checkstep {f C:Addr}{fd:FuncData}(F:Fun K "check_step" "Chart.check_step" Zev f fd)(L:Cl K C):FnOk P w K mg base CX0 1 f fd Ze0 (spCheckStep C):=by
 refine F.oq scCheckStep λcdv A outer s H vs Q E hr h=>?_
 obtain⟨x,m,ds,ls,n,rfl,R,nd,q⟩:=h
 have hu:=Zfk hr
 obtain⟨dx,p,o,a,q',d,kp,ko,ka,kq,kd,o1,o2,h1,h2,h3,h4,h5,h6,k1,k2,k3,k4,k5⟩:=R.ex
 refine⟨_,(Zag (Za2 (Zku (Zgf hu (pv 1) (Zbm (pv 0) rfl))) Zba Zan)),?_⟩
 rcases q with q | ⟨hn,q⟩
 ·exact q.elim
 rw[<- Zfv]at hn nd
 obtain⟨sp,hsm,rfl⟩:=mem_map.mp hn
 obtain⟨v,hv,rfl⟩:=k1.val nd hsm
 have dg:DGet H p (.str sp.1) (some (.int sp.2)):=.inl ⟨kp,(Sum.inr sp.1:Key),.inl h2,rfl,hv.symm⟩
 refine⟨_,rfl,_,rfl,x,C,dx,_,_,rfl,h1,L.cl,L.n2,f6_prices,p,_,rfl,dg,_,rfl,?_⟩
 exact iteF q
abbrev Sm (x:Str):Prop:=∀c∈cs x,c<128
theorem Sm.rp {x:Str}(h:Sm x)(l:x.length<=300):Rp x:=by
 have h1:=StrLaws.reprText_len x λc hc=>by
  have:=h c hc
  lia
 unfold Rp
 lia
theorem Sm.ok {x:Str}(h:Sm x):strOk x=true:=ok_of λc hc=>by
 have:=h c hc
 lia
structure Lb (x:Str):Prop where
 l1:1<=x.length
 l2:x.length<=30
 sm:Sm x
theorem Lb.rp {x:Str}(h:Lb x):Rp x:=h.sm.rp (by have:=h.l2;lia)
theorem cs_mk (l:List Nat):cs ⟨l.toArray⟩=l:=rfl
theorem Zhf (l:List Nat):(Str.mk l.toArray).length=l.length:=by rw[<- Zlj,cs_mk]
def cl (ns:List Int)(k:Int):Int:=ns.getD k.toNat 0
def dw (ns:List Int)(k p m:Int):Int:=(cl ns k*48271+7919*k*k+11) % p*742938285 % 2147483629 % m
theorem Znq (ns:List Int)(k p:Int){m:Int}(h:0<m):0<=dw ns k p m:=emod_nonneg _ (by lia)
theorem Znr (ns:List Int)(k p:Int){m:Int}(h:0<m):dw ns k p m<m:=emod_lt_of_pos _ h
inductive spCell (K:W.Frag)(vs:List V)(H:Hp)(Q:VK)(E0_:XK):Prop
 | mk (a:Addr) (ns:List Int) (k:Int) (c0:vs=[.ref a,.int k]) (c1:SqL K H a (ns.map V.int)) (c2:ns.length<=63) (c3:0<=k) (c4:Q (.int (cl ns k)) H):spCell K vs H Q E0_
inductive spDrawD (K:W.Frag)(vs:List V)(H:Hp)(Q:VK)(E0_:XK):Prop
 | mk (a:Addr) (ns:List Int) (k p m:Int) (c0:vs=[.ref a,.int k,.int p,.int m]) (c1:SqL K H a (ns.map V.int)) (c2:ns.length<=63) (c3:0<=k) (c4:k<1000000) (c5:0<p) (c6:0<m) (c7:Q (.int (dw ns k p m)) H):spDrawD K vs H Q E0_
inductive spDraw (K:W.Frag)(vs:List V)(H:Hp)(Q:VK)(E0_:XK):Prop
 | mk (a:Addr) (ns:List Int) (k p m:Int) (c0:vs=[.ref a,.int k,.int p,.int m]) (c1:SqL K H a (ns.map V.int)) (c2:ns.length<=63) (c3:0<=k) (c4:k<1000000) (c5:0<p) (c6:0<m) (c7:∀r:Int,0<=r->r<m->Q (.int r) H):spDraw K vs H Q E0_
abbrev Zi1:List Str:=["_law_script", "_law_k"]
abbrev nLCell:List Str:=["_law_script", "_law_k"]
theorem scLCell:FnScope nLCell Zi1 (Zaf Zha):=Zav
abbrev Zcd:List Str:=["_law_script", "_law_k", "_law_prime", "_law_many_here"]
abbrev nLDraw:List Str:=["_law_script", "_law_k", "_law_prime", "_law_many_here", "_law_mixed"]
theorem scLDraw:FnScope nLDraw Zcd (Zaf Zck):=Zav
def rm (H:Hp)(S:List Addr):Hp:=λc=>if c∈S then none else H c
theorem Zf9 {H:Hp}{S:List Addr}{c:Addr}{o:HO}(h:c∈S):rm (upd H c o) S=rm H S:=by
 funext b
 unfold rm
 by_cases hb:b∈S
 ·rw[if_pos hb,if_pos hb]
 rw[if_neg hb,if_neg hb,Zaj (λz=>hb (by rw[z];exact h))]
theorem Zga {H:Hp}{S:List Addr}{c:Addr}(h:c∉S):rm H S c=H c:=if_neg h
theorem Zl4 {H:Hp}{S:List Addr}:Same (rm H S) H:=λb u e=>by
 unfold rm at e
 split at e
 ·cases e
 exact e
theorem Zct {H H':Hp}{S:List Addr}(s:Same H H'):Same (rm H S) (rm H' S):=λb u e=>by
 unfold rm at e ⊢
 split at e
 ·cases e
 rename_i hb
 rw[if_neg hb]
 exact s _ _ e
theorem Zn1 {H:Hp}{S S':List Addr}(h:∀c∈S',c∈S):Same (rm H S) (rm H S'):=λb u e=>by
 unfold rm at e ⊢
 split at e
 ·cases e
 rename_i hb
 rw[if_neg λz=>hb (h _ z)]
 exact e
theorem A2.one {α:Type}{R:V->α->Prop}{v:V}{t:α}(r:R v t):A2 R [v] [t]:=⟨rfl,λi v' t' h1 h2=>by
 cases i with
 | zero=>cases h1;cases h2;exact r
 | succ i=>cases h1⟩
theorem A2.nil {α:Type}{R:V->α->Prop}:A2 R [] []:=⟨rfl,λi v t h=>by cases h⟩
theorem ok_cell {f:Addr}{fd:FuncData}(F:Fun K "_law_cell" "_law_cell" Zha f fd)(T:Bl mg):FnOk P w K mg base CX0 1 f fd Zi1 (spCell K):=by
 refine F.oq scLCell λcdv A outer s H vs Q E hr h=>?_
 obtain⟨a,ns,k,rfl,hS,hn,k0,q⟩:=h
 obtain⟨j,rfl⟩:∃j:Nat,(j:Int)=k:=⟨k.toNat,toNat_of_nonneg k0⟩
 have hl:(ns.map V.int).length=ns.length:=length_map ..
 refine⟨_,(Zac (Za2 (Zao Zmn (pv 1) (Zap Za8 (by rfl) T.len PySem.boot_len (Zaa (pv 0) Zab)) (Zar _)) (Zag (Zam (Zas Zbj (pv 0) (pv 1) (λ_ _=>rfl)))) Zan)
  (Zag (Zam Zae))),?_⟩
 refine⟨_,rfl,_,rfl,_,_,rfl,.inl ⟨_,hS,rfl⟩,_,_,rfl,rfl,_,rfl,?_⟩
 refine ite2 (λhp=>?_) (λhp=>?_)
 ·have hp':j<ns.length:=by
   have:=of_decide_eq_true hp
   rw[hl]at this
   lia
  have hc:cl ns (j:Int)=ns[j]:=by
   unfold cl
   rw[toNat_natCast]
   simp[List.getD,hp']
  rw[hc]at q
  exact⟨_,rfl,_,rfl,a,_,_,_,rfl,rfl,hS,Zal (v:=V.int ns[j]) (by simp[hp']),q⟩
 have hp':¬j<ns.length:=λz=>hp (decide_eq_true (by rw[hl];lia))
 have hc:cl ns (j:Int)=0:=by
  unfold cl
  rw[toNat_natCast,getD_eq_getElem?_getD,getElem?_eq_none (by lia)]
  rfl
 rw[hc]at q
 exact q
theorem ok_drawD {f:Addr}{fd:FuncData}(F:Fun K "_law_draw" "_law_draw" Zck f fd)(C_l_cell:Ca P w K mg base CX0 1 "_law_cell" Zha Zi1 (spCell K)):FnOk P w K mg base CX0 2 f fd Zcd (spDrawD K):=by
 refine F.oq scLDraw λcdv A outer s H vs Q E hr1 h=>?_
 obtain⟨a,ns,k,p,m,rfl,hS,hn,k0,k1,p0,m0,q⟩:=h
 refine⟨_,(Zac (Zaw (i:=4) scLDraw.nd (Zau Zeo (Zau Zbo (Zau Zbo (Zau Zcg (Zaq C_l_cell hr1 Zak (Zaa (pv 0) (Zaa (pv 1) Zab))) Zae) (Zau Zcg (Zau Zcg Zae (pv 1)) (pv 1))) Zae) (pv 2)))
  (Zag (Zam (Zau Zeo (Zau Zeo (Zau Zcg (pv 4) Zae) Zae) (pv 3))))),?_⟩
 refine⟨_,rfl,_,rfl,a,ns,k,rfl,hS,hn,k0,?_⟩
 refine⟨_,_,rfl,rfl,.inr ⟨by decide,by decide⟩,_,rfl,_,_,rfl,rfl,.inl ⟨by decide,by decide⟩,_,rfl,_,_,rfl,rfl,.inl ⟨by lia,by lia⟩,_,_,rfl,rfl,_,_,rfl,rfl,_,rfl,_,_,rfl,rfl,p0,?_⟩
 exact⟨_,rfl,_,_,rfl,rfl,.inr ⟨by decide,by decide⟩,_,_,rfl,rfl,(by show(0:Int)<_;decide),_,rfl,_,_,rfl,rfl,m0,q⟩
theorem ok_draw {f:Addr}{fd:FuncData}(G:FnOk P w K mg base CX0 2 f fd Zcd (spDrawD K)):FnOk P w K mg base CX0 2 f fd Zcd (spDraw K):=
 G.imp λvs H Q E h=>by
  obtain⟨a,ns,k,p,m,e,hS,hn,k0,k1,p0,m0,q⟩:=h
  exact⟨a,ns,k,p,m,e,hS,hn,k0,k1,p0,m0,q _ (Znq _ _ _ m0) (Znr _ _ _ m0)⟩
abbrev sgA:Str:=Str.ofString " !\"#$&'()*+,-./0123456789:;<=>?@ABCDEFGHIJKLMNOPQRSTUVWXYZ[\\]^_"
abbrev sgB:Str:=Str.ofString "`abcdefghijklmnopqrstuvwxyz{|}~"
def sgL:List Nat:=(sgA++sgB).cps.toList
theorem sgL_len:sgL.length=94:=by decide +kernel
theorem sgL_lt:∀c∈sgL,c<128:=by decide +kernel
theorem sg_len:(sgA++sgB).length<=sizeLine:=by
 have h:(sgA++sgB).length=94:=by decide +kernel
 have:=sizeLine_eq
 lia
theorem sgA_len:sgA.length+sgB.length<=sizeLine:=by
 have h:sgA.length+sgB.length=94:=by decide +kernel
 have:=sizeLine_eq
 lia
def sgn (n:Int):Nat:=sgL.getD (n % 94).toNat 0
theorem Znz (n:Int):sgL[(n % 94).toNat]? = some (sgn n):=by
 have h0:=emod_nonneg n (show(94:Int)≠0 by decide)
 have h1:=emod_lt_of_pos n (show(0:Int)<94 by decide)
 have:(n % 94).toNat<sgL.length:=by rw[sgL_len];lia
 unfold sgn
 rw[getD_eq_getElem?_getD,getElem?_eq_getElem this]
 rfl
theorem sgn_lt (n:Int):sgn n<128:=sgL_lt _ (mem_of_getElem? (Znz n))
inductive spSign (vs:List V)(H:Hp)(Q:VK)(E0_:XK):Prop
 | mk (n:Int) (c0:vs=[.int n]) (c1:Q (.str ⟨#[sgn n]⟩) H):spSign  vs H Q E0_
def wz (ns:List Int)(k:Int):Int:=if dw ns k 15013 8=0 then 30 else 1+dw ns k 10007 6
theorem Zlq (ns:List Int)(k:Int):1<=wz ns k/\wz ns k<=30:=by
 have h1:=Znq ns k 10007 (m:=6) (by decide)
 have h2:=Znr ns k 10007 (m:=6) (by decide)
 unfold wz
 split <;> lia
def wa (ns:List Int)(k:Int):Int:=dw ns k 20011 (wz ns k)
theorem Zom (ns:List Int)(k:Int):0<=wa ns k/\wa ns k<wz ns k:=⟨Znq _ _ _ (by have:=Zlq ns k;lia),Znr _ _ _ (by have:=Zlq ns k;lia)⟩
def wb (ns:List Int)(k:Int)(n:Nat):List Nat:=(List.range n).map λ(m:Nat)=>sgn (dw ns (k+(m:Int)) 25013 94)
theorem Zfa (ns:List Int)(k:Int)(n:Nat):(wb ns k n).length=n:=by
 unfold wb
 rw[length_map,length_range]
theorem wb_lt (ns:List Int)(k:Int)(n:Nat):∀c∈wb ns k n,c<128:=λc hc=>by
 obtain⟨m,_,rfl⟩:=mem_map.mp hc
 exact sgn_lt _
def wdL (ns:List Int)(k:Int)(c:Nat):List Nat:=(wb ns k (wz ns k).toNat).take (wa ns k).toNat++[c]++(wb ns k (wz ns k).toNat).drop ((wa ns k).toNat+1)
def wdS (ns:List Int)(k:Int)(c:Nat):Str:=⟨(wdL ns k c).toArray⟩
theorem Zjs (ns:List Int)(k:Int)(c:Nat):(wdL ns k c).length=(wz ns k).toNat:=by
 have h1:=Zlq ns k
 have h2:=Zom ns k
 unfold wdL
 rw[length_append,length_append,length_take,length_drop,Zfa,length_singleton]
 lia
theorem Zg2 (ns:List Int)(k:Int){c:Nat}(hc:c<128):Lb (wdS ns k c):=by
 have h1:=Zlq ns k
 refine⟨by unfold wdS;rw[Zhf,Zjs];lia,by unfold wdS;rw[Zhf,Zjs];lia,λz hz=>?_⟩
 have hz':z∈wdL ns k c:=hz
 unfold wdL at hz'
 rcases mem_append.mp hz' with y | y
 ·rcases(mem_append.mp y)with x | x
  ·exact wb_lt _ _ _ _ (mem_of_mem_take x)
  rw[mem_singleton.mp x];exact hc
 exact wb_lt _ _ _ _ (List.mem_of_mem_drop y)
theorem wdS_inj {ns:List Int}{k:Int}{c d:Nat}(h:wdS ns k c=wdS ns k d):c=d:=by
 have e:wdL ns k c=wdL ns k d:=congrArg cs h
 have h1:=Zlq ns k
 have h2:=Zom ns k
 have e2:(wdL ns k c)[(wa ns k).toNat]? = (wdL ns k d)[(wa ns k).toNat]?:=by rw[e]
 have lt:((wb ns k (wz ns k).toNat).take (wa ns k).toNat).length=(wa ns k).toNat:=by
  rw[length_take,Zfa]
  lia
 have g:∀(A B:List Nat) (x n:Nat),A.length=n->(A++[x]++B)[n]? = some x:=λA B x n e=>by subst e;simp
 unfold wdL at e2
 rw[g _ _ _ _ lt,g _ _ _ _ lt]at e2
 exact Option.some.inj e2
theorem Zik {ns:List Int}{k:Int}{l:List Nat}(h:l.Nodup):(l.map (wdS ns k)).Nodup:=pairwise_map.mpr (h.imp λn e=>n (wdS_inj e))
theorem join_none:∀xs:List Str,cs (Txt.join (Str.ofString "") xs)=(xs.map cs).flatten:=λxs=>by
 have e:Txt.join (Str.ofString "") xs=Str.join (Str.ofString "") xs:=StrLaws.glued_eq_join _ _
 rw[e]
 induction xs with
 | nil=>rfl
 | cons x r ih=>
  cases r with
  | nil=>show cs x=_;simp
  | cons y r=>
   show cs (x++Str.ofString "" ++ Str.join (Str.ofString "") (y::r))=_
   rw[Zjg,Zjg,ih (StrLaws.glued_eq_join _ _),show cs (Str.ofString "")=[] from by decide +kernel]
   simp
theorem one_flat {α:Type}(xs:List α)(g:α->Nat):((xs.map λm=>(⟨#[g m]⟩:Str)).map cs).flatten=xs.map g:=by
 induction xs with
 | nil=>rfl
 | cons x r ih=>rw[map_cons,map_cons,List.flatten_cons,ih];rfl
theorem join_wb (ns:List Int)(k:Int)(n:Nat):Txt.join (Str.ofString "") ((List.range n).map λ(m:Nat)=>(⟨#[sgn (dw ns (k+(m:Int)) 25013 94)]⟩:Str))=⟨(wb ns k n).toArray⟩:=by
 apply Zoi
 rw[join_none,one_flat (g:=λ(m:Nat)=>sgn (dw ns (k+(m:Int)) 25013 94))]
 rfl
inductive spWords (K:W.Frag)(vs:List V)(H:Hp)(Q:VK)(E0_:XK):Prop
 | mk (a:Addr) (ns:List Int) (k:Int) (z:Str) (c0:vs=[.ref a,.int k,.str z]) (c1:SqL K H a (ns.map V.int)) (c2:ns.length<=63) (c3:0<=k) (c4:k<1000) (c5:Sm z) (c6:z.length<=10) (c7:∀(l:Addr) (H':Hp),Same H H'->H l=none->H' l=some (.lst (((cs z).map (wdS ns k)).map V.str))->Q (.ref l) H'):spWords K vs H Q E0_
abbrev Zmh:List Str:=["_law_number"]
abbrev nLSign:List Str:=["_law_number", "_law_some"]
theorem scLSign:FnScope nLSign Zmh (Zaf Zkk):=Zav
abbrev Zh1:List Str:=["_law_script", "_law_k", "_law_letters"]
abbrev nLWords:List Str:=["_law_script", "_law_k", "_law_letters", "_law_size", "_law_at", "_law_base"]
theorem scLWords:FnScope nLWords Zh1 (Zaf Zdz):=Zav
theorem ok_sign {f:Addr}{fd:FuncData}(F:Fun K "_law_sign" "_law_sign" Zkk f fd):FnOk P w K mg base CX0 1 f fd Zmh spSign:=by
 refine F.oq scLSign λcdv A outer s H vs Q E hr h=>?_
 obtain⟨n,rfl,q⟩:=h
 refine⟨_,(Zac (Zaw (i:=1) scLSign.nd Za6)
  (Zac (Zaw (i:=1) scLSign.nd (Zau Ze2 (pv 1) Za6))
  (Zag (Zam (Zas ix_str (pv 1) (Zau Zeo (pv 0) Zae) (λ_ _=>rfl)))))),?_⟩
 refine⟨_,rfl,sgA,sgB,rfl,rfl,sgA_len,?_⟩
 have hat:=Zal (Znz n)
 rw[toNat_of_nonneg (emod_nonneg n (by decide))]at hat
 exact⟨_,rfl,_,rfl,_,_,rfl,rfl,(by show(0:Int)<_;decide),_,_,_,rfl,rfl,sg_len,hat,q⟩
theorem ok_words {f:Addr}{fd:FuncData}(F:Fun K "_law_words" "_law_words" Zdz f fd)(T:Bl mg)(C_l_draw:Ca P w K mg base CX0 2 "_law_draw" Zck Zcd (spDrawD K))(C_l_sign:Ca P w K mg base CX0 1 "_law_sign" Zkk Zmh spSign):FnOk P w K mg base CX0 3 f fd Zh1 (spWords K):=by
 refine F.oq scLWords λcdv A outer s H vs Q E hr2 h=>?_
 obtain⟨a,ns,k,z,rfl,hS,hn,k0,k1,hz,hzl,q⟩:=h
 have hr1:Room 1 _:=hr2.mono (by decide)
 have hsl:sizeLine=16777216:=sizeLine_eq
 refine⟨_,(Zac (Zaw (i:=3) scLWords.nd (Zau Zbo Zae (Zaq C_l_draw hr2 Zak (Zaa (pv 0) (Zaa (pv 1) (Zaa Zae (Zaa Zae Zab)))))))
  (Zac (Za2 (Zao Zbt (Zaq C_l_draw hr2 Zak (Zaa (pv 0) (Zaa (pv 1) (Zaa Zae (Zaa Zae Zab))))) Zae (Zar _)) (Zag (Zaw (i:=3) scLWords.nd Zae)) Zan)
  (Zac (Ziw (i:=4) scLWords.nd rfl (Or.inr rfl) (Zaq C_l_draw hr2 Zak (Zaa (pv 0) (Zaa (pv 1) (Zaa Zae (Zaa (pv 3) Zab))))))
  (Zac (Ziw (i:=5) scLWords.nd rfl (Or.inr rfl) (Zds PySem.F.plainAttrs_str PySem.F.slot_str_join PySem.F.type_str_join mt_join Za6 (Zaa (Zcw (N:=["_law_m", "_law_script", "_law_k"]) (sc:=Zaf Zdz) (own:=["_law_m"]) (fr:=["_law_script", "_law_k"]) (js:=[0,1]) Zb4 rfl (Zbr (by rfl) T.range (Zaa (pv 3) Zab)) (λ_ _ _ _=>Za3 (i:=0) (show List.Nodup (["_law_m", "_law_script", "_law_k"]:List Str) by decide +kernel)) (λ_ _ _ _=>Zbn) (λ_ _ _ _=>(Zaq C_l_sign hr1 Zak (Zaa (Zaq C_l_draw hr2 Zak (Zaa (pv 1) (Zaa (Zau Zbo (pv 2) (pv 0)) (Zaa Zae (Zaa Zae Zab))))) Zab)))) Zab)))
  (Zag (Zam (Zcw (N:=["_law_letter", "_law_base", "_law_at"]) (sc:=Zaf Zdz) (own:=["_law_letter"]) (fr:=["_law_base", "_law_at"]) (js:=[5,4]) Zb4 rfl (pi_str (pv 2)) (λ_ _ _ _=>Za3 (i:=0) (show List.Nodup (["_law_letter", "_law_base", "_law_at"]:List Str) by decide +kernel)) (λ_ _ _ _=>Zbn) (λ_ _ _ _=>(Zau Ze2 (Zau Ze2 (Zkv Zny (pv 1) Zl8 (Zl7 (pv 2))) (pv 0)) (Zkv Zny (pv 1) (Zl7 (Zau Zbo (pv 2) Zae)) Zl8)))))))))),?_⟩
 have z1:=Zlq ns k
 have a1:=Zom ns k
 refine⟨_,rfl,_,rfl,a,ns,k,_,_,rfl,hS,hn,k0,by lia,by decide,by decide,⟨_,_,rfl,rfl,?_⟩⟩
 dsimp only
 refine Zhl (λσ' H'=>σ'=[some (.ref a),some (.int k),some (.str z),some (.int (wz ns k)),none,none]/\H'=H) ?_ (λN hN=>?_)
 ·rintro σ' H' ⟨rfl,rfl⟩
  refine⟨_,rfl,_,rfl,_,rfl,a,ns,k,_,_,rfl,hS,hn,k0,by lia,by decide,by lia,?_⟩
  have ea:dw ns k 20011 (wz ns k)=wa ns k:=rfl
  rw[ea]
  refine⟨rfl,_,rfl,_,rfl,by lia,by lia,λD hD=>?_⟩
  refine lcJ (n:=(wz ns k).toNat) (λi ys H2=>ys=((List.range i).map λ(m:Nat)=>(⟨#[sgn (dw ns (k+(m:Int)) 25013 94)]⟩:Str)).map V.str/\Same H' H2/\H2 D=some (.lst ys)) ⟨rfl,Same.new hD,Zad⟩
   (λi _ _ hi _=>hi) (λ_ _ _=>Nat.le_refl _) ?_ ?_
  ·rintro i ys H2 v H3 hi ⟨rfl,s2,e2⟩ ⟨rfl,rfl⟩
   refine Zbu ?_
   refine⟨_,rfl,_,rfl,_,rfl,_,_,rfl,rfl,a,ns,_,_,_,rfl,s2.seq hS,hn,by lia,by lia,by decide,by decide,_,rfl,?_⟩
   refine⟨_,e2,by rw[length_map,length_map,length_range];lia,?_,s2.put hD,Zad⟩
   rw[range_succ,map_append,map_append,Int.zero_add]
   rfl
  rintro ys H2 ⟨rfl,s2,e2⟩
  have hb:=join_wb ns k (wz ns k).toNat
  refine⟨_,D,_,rfl,rfl,SqL.of e2,?_,?_⟩
  ·have:(((List.range (wz ns k).toNat).map λ(m:Nat)=>(⟨#[sgn (dw ns (k+(m:Int)) 25013 94)]⟩:Str)).map (·.length)).sum<=30:=by
    have go:∀l:List Nat,((l.map λ(m:Nat)=>(⟨#[sgn (dw ns (k+(m:Int)) 25013 94)]⟩:Str)).map (·.length)).sum=l.length:=λl=>by
     induction l with
     | nil=>rfl
     | cons x r ih=>rw[map_cons,map_cons,List.sum_cons,ih,length_cons];show 1+_=_;lia
    rw[go,length_range]
    lia
   rw[length_map,length_range,show(Str.ofString "").length=0 from by decide +kernel]
   lia
  have hb':Txt.join (Str.ofString "") ((List.range (wz ns k).toNat).map λ(m:Nat)=>(⟨#[sgn (dw ns (k+(m:Int)) 25013 94)]⟩:Str))=⟨(wb ns k (wz ns k).toNat).toArray⟩:=hb
  rw[hb']
  have bl:(Str.mk (wb ns k (wz ns k).toNat).toArray).length=(wz ns k).toNat:=by rw[Zhf,Zfa]
  refine⟨_,rfl,z,rfl,?_,λD2 hD2=>?_⟩
  ·rw[<- Array.all_toList]
   exact all_eq_true.mpr λc hc=>decide_eq_true (hz c hc)
  refine lcJ (n:=z.cps.size) (λi ys H3=>ys=(((cs z).take i).map (wdS ns k)).map V.str/\Same H2 H3/\H3 D2=some (.lst ys)) ⟨rfl,Same.new hD2,Zad⟩ (λi _ _ hi _=>hi) (λ_ _ _=>Nat.le_refl _) ?_ ?_
  ·rintro i ys H3 v H4 hi ⟨rfl,s3,e3⟩ ⟨rfl,c,hc,rfl⟩
   refine Zbu ?_
   have hc':(cs z)[i]? = some c:=by
    show z.cps.toList[i]? = some c
    simpa using hc
   have l1:(Txt.slice (Str.mk (wb ns k (wz ns k).toNat).toArray) none (some (wa ns k)))=⟨((wb ns k (wz ns k).toNat).take (wa ns k).toNat).toArray⟩:=by
    have:=StrLaws.sliceText_to (x:=Str.mk (wb ns k (wz ns k).toNat).toArray) (j:=wa ns k) ⟨a1.1,by show wa ns k<=((wb ns k (wz ns k).toNat).length:Int);rw[Zfa];lia⟩
    refine this.trans ?_
    show Str.mk (((wb ns k (wz ns k).toNat).drop 0).take (wa ns k-0).toNat).toArray=_
    rw[List.drop_zero,Int.sub_zero]
   have l2:(Txt.slice (Str.mk (wb ns k (wz ns k).toNat).toArray) (some (wa ns k+1)) none)=⟨((wb ns k (wz ns k).toNat).drop ((wa ns k).toNat+1)).toArray⟩:=by
    have:=StrLaws.sliceText_from (x:=Str.mk (wb ns k (wz ns k).toNat).toArray) (i:=wa ns k+1) ⟨by lia,by show wa ns k+1<=((wb ns k (wz ns k).toNat).length:Int);rw[Zfa];lia⟩
    refine this.trans ?_
    show Str.mk (((wb ns k (wz ns k).toNat).drop (wa ns k+1).toNat).take (((wb ns k (wz ns k).toNat).length:Int)-(wa ns k+1)).toNat).toArray=_
    rw[show(wa ns k+1).toNat=(wa ns k).toNat+1 from by lia,take_of_length_le (by rw[length_drop];lia)]
   refine⟨_,rfl,_,rfl,_,rfl,_,rfl,by rw[bl];lia,?_⟩
   rw[l1]
   refine⟨_,rfl,_,_,rfl,rfl,?_,?_⟩
   ·rw[Zhf,length_take,Zfa]
    show min _ _+1<=sizeLine
    lia
   refine⟨_,rfl,_,rfl,_,_,rfl,rfl,_,rfl,_,rfl,by rw[bl];lia,?_⟩
   rw[l2]
   refine⟨_,_,rfl,rfl,?_,?_⟩
   ·rw[<- Zlj,Zjg,length_append,cs_mk,length_take,Zfa,Zhf,length_drop,Zfa]
    show min _ _+1+_<=sizeLine
    lia
   have ew:(Str.mk ((wb ns k (wz ns k).toNat).take (wa ns k).toNat).toArray)++(⟨#[c]⟩:Str)++(Str.mk ((wb ns k (wz ns k).toNat).drop ((wa ns k).toNat+1)).toArray)=wdS ns k c:=by
    apply Zoi
    rw[Zjg,Zjg]
    rfl
   rw[ew]
   have zl:(cs z).length=z.length:=Zlj z
   refine⟨_,e3,by rw[length_map,length_map,length_take];lia,?_,s3.put hD2,Zad⟩
   rw[take_succ,hc',map_append,map_append]
   rfl
  rintro ys H3 ⟨rfl,s3,e3⟩
  rw[take_of_length_le (by rw[Zlj];exact Nat.le_refl _)]at e3
  exact q D2 H3 (s2.trans s3) (s2.free hD2) e3
 refine⟨_,rfl,_,rfl,a,ns,k,_,_,rfl,hS,hn,k0,by lia,by decide,by decide,rfl,_,rfl,?_⟩
 refine ite2 (λhc=>?_) (λhc=>?_)
 ·have hw:wz ns k=30:=if_pos (V.int.inj (of_decide_eq_true hc))
  rw[hw]at hN
  exact hN _ _ ⟨rfl,rfl⟩
 have hw:wz ns k=1+dw ns k 10007 6:=if_neg λz=>hc (decide_eq_true (by rw[z]))
 rw[hw]at hN
 exact hN _ _ ⟨rfl,rfl⟩
inductive spPrice (K:W.Frag)(vs:List V)(H:Hp)(Q:VK)(E0_:XK):Prop
 | mk (a:Addr) (ns:List Int) (k:Int) (c0:vs=[.ref a,.int k]) (c1:SqL K H a (ns.map V.int)) (c2:ns.length<=63) (c3:0<=k) (c4:k<1000) (c5:∀r:Int,1<=r->r<=1000000000->Q (.int r) H):spPrice K vs H Q E0_
inductive spEntryD (K:W.Frag)(vs:List V)(H:Hp)(Q:VK)(E0_:XK):Prop
 | mk (a:Addr) (ns:List Int) (k m:Int) (c0:vs=[.ref a,.int k,.int m]) (c1:SqL K H a (ns.map V.int)) (c2:ns.length<=63) (c3:0<=k) (c4:k<100000) (c5:1<=m) (c6:m<=200) (c7:∀(l:Addr) (xs:List Int) (H':Hp),Same H H'->H l=none->H' l=some (.lst (xs.map V.int))->xs.Pairwise (· < ·)->(∀x∈xs,0<=x/\x<m)->xs.length<=3->Q (.ref l) H'):spEntryD K vs H Q E0_
inductive spTellD (K:W.Frag)(vs:List V)(H:Hp)(Q:VK)(E0_:XK):Prop
 | mk (a:Addr) (ns:List Int) (k:Int) (l:Addr) (xs:List Str) (c0:vs=[.ref a,.int k,.ref l]) (c1:SqL K H a (ns.map V.int)) (c2:ns.length<=63) (c3:0<=k) (c4:k<100000) (c5:H l=some (.lst (xs.map V.str))) (c6:xs.length=3) (c7:∀o:Option Str,(∀s,o=some s->s∈xs)->Q (oS o) H):spTellD K vs H Q E0_
inductive spManyD (K:W.Frag)(vs:List V)(H:Hp)(Q:VK)(E0_:XK):Prop
 | mk (a:Addr) (ns:List Int) (c0:vs=[.ref a]) (c1:SqL K H a (ns.map V.int)) (c2:ns.length<=63) (c3:∀m:Nat,1<=m->m<=7->Q (.int (m:Int)) H):spManyD K vs H Q E0_
inductive spWhole (vs:List V)(H:Hp)(Q:VK)(E0_:XK):Prop
 | mk (i:Int) (c0:vs=[.int i]) (c1:Q (.bl true) H):spWhole  vs H Q E0_
inductive spSetD (K:W.Frag)(vs:List V)(H:Hp)(Q:VK)(E0_:XK):Prop
 | mk (a:Addr) (ns:List Int) (k:Int) (m:Nat) (c0:vs=[.ref a,.int k,.int (m:Int)]) (c1:SqL K H a (ns.map V.int)) (c2:ns.length<=63) (c3:0<=k) (c4:k<1000) (c5:1<=m) (c6:m<=200) (c7:∀(n:Nat) (H':Hp),Same H H'->n<2^m->Q (.int (n:Int)) H'):spSetD K vs H Q E0_
abbrev Zh3:List Str:=["_law_script", "_law_k"]
abbrev nLPrice:List Str:=["_law_script", "_law_k"]
theorem scLPrice:FnScope nLPrice Zh3 (Zaf Zf3):=Zav
abbrev Zj3:List Str:=["_law_script", "_law_k", "_law_many_here"]
abbrev nLEntry:List Str:=["_law_script", "_law_k", "_law_many_here", "_law_way", "_law_worlds"]
theorem scLEntry:FnScope nLEntry Zj3 (Zaf Zhr):=Zav
abbrev Zmj:List Str:=["_law_script"]
abbrev nLMany:List Str:=["_law_script"]
theorem scLMany:FnScope nLMany Zmj (Zaf Zkm):=Zav
abbrev Zh2:List Str:=["_law_thing"]
abbrev nLWhole:List Str:=["_law_thing"]
theorem scLWhole:FnScope nLWhole Zh2 (Zaf Zf2):=Zav
abbrev Znm:List Str:=["_law_script", "_law_k", "_law_many_here"]
abbrev nLSet:List Str:=["_law_script", "_law_k", "_law_many_here", "_law_way"]
theorem scLSet:FnScope nLSet Znm (Zaf Zls):=Zav
theorem ok_price {f:Addr}{fd:FuncData}(F:Fun K "_law_price" "_law_price" Zf3 f fd)(C_l_draw:Ca P w K mg base CX0 2 "_law_draw" Zck Zcd (spDraw K))(C_l_cell:Ca P w K mg base CX0 1 "_law_cell" Zha Zi1 (spCell K)):FnOk P w K mg base CX0 3 f fd Zh3 (spPrice K):=by
 refine F.oq scLPrice λcdv A outer s H vs Q E hr2 h=>?_
 obtain⟨a,ns,k,rfl,hS,hn,k0,k1,q⟩:=h
 have hr1:Room 1 _:=hr2.mono (by decide)
 have pw:(10:Int)^(9:Int).toNat=1000000000:=by decide +kernel
 refine⟨_,(Zac (Za2 (Zao Zbt (Zaq C_l_draw hr2 Zak (Zaa (pv 0) (Zaa (pv 1) (Zaa Zae (Zaa Zae Zab))))) Zae (Zar _)) (Zag (Zam (Zau Zbo Zae (Zau Zeo (Zau Zcg (Zaq C_l_cell hr1 Zak (Zaa (pv 0) (Zaa (pv 1) Zab))) Zae) (Zau op_pow Zae Zae))))) Zan)
  (Zag (Zam (Zau Zbo Zae (Zaq C_l_draw hr2 Zak (Zaa (pv 0) (Zaa (pv 1) (Zaa Zae (Zaa Zae Zab))))))))),?_⟩
 refine⟨_,rfl,_,rfl,a,ns,k,_,_,rfl,hS,hn,k0,by lia,by decide,by decide,λr a1 b1=>⟨rfl,_,rfl,?_⟩⟩
 refine ite2 (λ_=>?_) (λ_=>?_)
 ·refine⟨_,rfl,_,rfl,a,ns,k,rfl,hS,hn,k0,_,_,rfl,rfl,.inr ⟨by decide,by decide⟩,_,_,rfl,rfl,⟨by decide,by decide,by decide⟩,_,_,rfl,rfl,(by show(0:Int)<_;rw[pw];decide),_,_,rfl,rfl,?_⟩
  have h0:=emod_nonneg (cl ns k*48271) (show(1000000000:Int)≠0 by decide)
  have h1:=emod_lt_of_pos (cl ns k*48271) (show(0:Int)<1000000000 by decide)
  rw[pw]
  exact q _ (by lia) (by lia)
 unfold tNext
 dsimp only
 refine⟨_,rfl,_,rfl,a,ns,k,_,_,rfl,hS,hn,k0,by lia,by decide,by decide,λr a1 b1=>⟨_,_,rfl,rfl,q _ (by lia) (by lia)⟩⟩
theorem ok_entryD {f:Addr}{fd:FuncData}(F:Fun K "_law_entry" "_law_entry" Zhr f fd)(T:Bl mg)(C_l_draw:Ca P w K mg base CX0 2 "_law_draw" Zck Zcd (spDraw K)):FnOk P w K mg base CX0 3 f fd Zj3 (spEntryD K):=by
 refine F.oq scLEntry λcdv A outer s H vs Q E hr2 h=>?_
 obtain⟨a,ns,k,m,rfl,hS,hn,k0,k1,m0,m1,q⟩:=h
 have hsl:sizeLine=16777216:=sizeLine_eq
 refine⟨_,(Zac (Zaw (i:=3) scLEntry.nd (Zaq C_l_draw hr2 Zak (Zaa (pv 0) (Zaa (pv 1) (Zaa Zae (Zaa Zae Zab))))))
  (Zac (Za2 (Zao Zbt (pv 3) Zae (Zar _)) (Zag (Zam (Zbs Zab))) Zan)
  (Zac (Zaw (i:=4) scLEntry.nd (Zbs (Zaa (Zaq C_l_draw hr2 Zak (Zaa (pv 0) (Zaa (pv 1) (Zaa Zae (Zaa (pv 2) Zab))))) Zab)))
  (Zac (Za2 (Zao Zmn (pv 3) Zae (Zar _)) (Zag (Zaz (Zds PySem.F.plainAttrs_list PySem.F.slot_list_append PySem.F.type_list_append Za7 (pv 4) (Zaa (Zaq C_l_draw hr2 Zak (Zaa (pv 0) (Zaa (pv 1) (Zaa Zae (Zaa (pv 2) Zab))))) Zab)))) Zan)
  (Zac (Za2 (Zao Zbt (pv 3) Zae (Zar _)) (Zag (Zaz (Zds PySem.F.plainAttrs_list PySem.F.slot_list_append PySem.F.type_list_append Za7 (pv 4) (Zaa (Zaq C_l_draw hr2 Zak (Zaa (pv 0) (Zaa (pv 1) (Zaa Zae (Zaa (pv 2) Zab))))) Zab)))) Zan)
  (Zag (Zam (Zap (Zfh rfl) (by rfl) T.sorted Zet (Zaa (Zay (Zgx rfl) (by rfl) T.set Zjm (Zaa (pv 4) Zab)) Zab))))))))),?_⟩
 refine⟨_,rfl,_,rfl,a,ns,k,_,_,rfl,hS,hn,k0,by lia,by decide,by decide,λwy a1 b1=>?_⟩
 refine⟨_,rfl,rfl,_,rfl,?_⟩
 refine ite2 (λ_=>?_) (λ_=>?_)
 ·exact⟨zero_le _,λl hl=>q l [] _ (Same.new hl) hl Zad .nil (λx hx=>by cases hx) (by decide)⟩
 unfold tNext
 dsimp only
 refine⟨_,rfl,_,rfl,_,rfl,a,ns,k,_,_,rfl,hS,hn,k0,by lia,by decide,by lia,λr1 a2 b2=>⟨by show 1<=sizeLine;lia,λl hl=>?_⟩⟩
 have sl:Same H (upd H l (.lst [.int r1])):=Same.new hl
 have el:(upd H l (.lst [.int r1])) l=some (.lst ([r1].map V.int)):=Zad
 dsimp only
 refine Zhl (λσ' H'=>∃xs:List Int,σ'=[some (.ref a),some (.int k),some (.int m),some (.int wy),some (.ref l)]/\Same H H'/\H' l=some (.lst (xs.map V.int))/\(∀x∈xs,0<=x/\x<m)/\xs.length<=2) ?_ (λN hN=>?_)
 ·rintro σ' H1 ⟨xs,rfl,s1,e1,x1,l1⟩
  refine Zdw (λσ' H'=>∃xs:List Int,σ'=[some (.ref a),some (.int k),some (.int m),some (.int wy),some (.ref l)]/\Same H H'/\H' l=some (.lst (xs.map V.int))/\(∀x∈xs,0<=x/\x<m)/\xs.length<=3) ?_ (λN hN=>?_)
  ·rintro σ' H2 ⟨ys,rfl,s2,e2,x2,l2⟩
   obtain⟨ds,ed,nd,me,ld⟩:=Zm7 ys
   have ek:ys.map V.int=(ys.map (Sum.inl:Int->Key)).map kV:=by rw[map_map];rfl
   refine⟨_,rfl,l,ys.map Sum.inl,rfl,SqL.of (by rw[<- ek];exact e2),by rw[length_map];lia,λst hst=>?_⟩
   rw[ed]
   have s3:Same H2 (upd H2 st (setG P w st (ds.map Sum.inl))):=Same.new hst
   refine⟨st,ds,rfl,Zad,nd,by lia,λl2 zs hl2 pm so=>?_⟩
   have s4:Same H2 (upd (upd H2 st (setG P w st (ds.map Sum.inl))) l2 (.lst (zs.map V.int))):=Same.put (H':=upd H2 st (setG P w st (ds.map Sum.inl))) (o:=.lst (zs.map V.int)) s3 (s3.free hl2)
   have zn:zs.Nodup:=pm.nodup_iff.mpr nd
   refine q l2 zs _ (s2.trans s4) (s2.free (s3.free hl2)) Zad ?_ (λx hx=>x2 x ((me x).mp (pm.mem_iff.mp hx))) (by have:=pm.length_eq;lia)
   exact(so.and zn).imp λ⟨h1,h2⟩=>by lia
  refine⟨_,rfl,rfl,_,rfl,?_⟩
  refine ite2 (λ_=>?_) (λ_=>?_)
  ·refine⟨_,rfl,.inl ⟨rfl,_,SqL.of e1⟩,_,rfl,_,rfl,_,rfl,a,ns,k,_,_,rfl,s1.seq hS,hn,k0,by lia,by decide,by lia,λr3 a4 b4=>?_⟩
   refine⟨l,_,_,rfl,rfl,e1,by rw[length_map];lia,hN _ _ ⟨xs++[r3],rfl,s1.put hl,by rw[Zad,map_append];rfl,λx hx=>?_,by rw[length_append];show xs.length+1<=3;lia⟩⟩
   rcases(mem_append.mp hx)with z | z
   ·exact x1 x z
   rw[mem_singleton.mp z];exact⟨a4,b4⟩
  exact hN _ _ ⟨xs,rfl,s1,e1,x1,by lia⟩
 refine⟨_,rfl,_,_,rfl,rfl,_,rfl,?_⟩
 refine ite2 (λ_=>?_) (λ_=>?_)
 ·refine⟨_,rfl,.inl ⟨rfl,_,SqL.of el⟩,_,rfl,_,rfl,_,rfl,a,ns,k,_,_,rfl,sl.seq hS,hn,k0,by lia,by decide,by lia,λr3 a4 b4=>?_⟩
  refine⟨l,_,_,rfl,rfl,el,by show 1<sizeLine;lia,hN _ _ ⟨[r1,r3],rfl,sl.put hl,by rw[Zad];rfl,λx hx=>?_,by simp⟩⟩
  rcases(mem_cons.mp hx)with z | z
  ·rw[z];exact⟨a2,b2⟩
  rw[mem_singleton.mp z];exact⟨a4,b4⟩
 exact hN _ _ ⟨[r1],rfl,sl,el,λx hx=>by rw[mem_singleton.mp hx];exact⟨a2,b2⟩,by simp⟩
theorem ok_tellD {f:Addr}{fd:FuncData}(F:Fun K "_law_told" "_law_told" Zkj f fd)(C_l_draw:Ca P w K mg base CX0 2 "_law_draw" Zck Zcd (spDraw K)):FnOk P w K mg base CX0 3 f fd Zmg (spTellD K):=by
 refine F.oq scLTold λcdv A outer s H vs Q E hr2 h=>?_
 obtain⟨a,ns,k,l,xs,rfl,hS,hn,k0,k1,hl,x3,q⟩:=h
 refine⟨_,(Zac (Za2 (Zao Zbt (Zaq C_l_draw hr2 Zak (Zaa (pv 0) (Zaa (pv 1) (Zaa Zae (Zaa Zae Zab))))) Zae (Zar _)) (Zag (Zam Zbz)) Zan)
  (Zag (Zam (Zas Zbj (pv 2) (Zaq C_l_draw hr2 Zak (Zaa (pv 0) (Zaa (pv 1) (Zaa Zae (Zaa Zae Zab))))) (λ_ _=>rfl))))),?_⟩
 refine⟨_,rfl,_,rfl,a,ns,k,_,_,rfl,hS,hn,k0,by lia,by decide,by decide,λr1 a1 b1=>⟨rfl,_,rfl,?_⟩⟩
 refine ite2 (λ_=>?_) (λ_=>?_)
 ·exact q none λs z=>by cases z
 unfold tNext
 dsimp only
 refine⟨_,rfl,_,rfl,_,rfl,a,ns,k,_,_,rfl,hS,hn,k0,by lia,by decide,by decide,λr a2 b2=>?_⟩
 obtain⟨i,rfl⟩:∃i:Nat,(i:Int)=r:=⟨r.toNat,toNat_of_nonneg a2⟩
 have hi:i<xs.length:=by lia
 refine⟨l,_,_,_,rfl,rfl,SqL.of hl,Zal (v:=V.str xs[i]) (by rw[getElem?_map,getElem?_eq_getElem hi];rfl),?_⟩
 exact q (some xs[i]) λs z=>by cases z;exact getElem_mem hi
theorem ok_manyD {f:Addr}{fd:FuncData}(F:Fun K "_law_many" "_law_many" Zkm f fd)(C_l_draw:Ca P w K mg base CX0 2 "_law_draw" Zck Zcd (spDraw K)):FnOk P w K mg base CX0 3 f fd Zmj (spManyD K):=by
 refine F.oq scLMany λcdv A outer s H vs Q E hr2 h=>?_
 obtain⟨a,ns,rfl,hS,hn,q⟩:=h
 refine⟨_,(Zac (Za2 (Zao Zbt (Zaq C_l_draw hr2 Zak (Zaa (pv 0) (Zaa Zae (Zaa Zae (Zaa Zae Zab))))) Zae (Zar _)) (Zag (Zam Zae)) Zan)
  (Zag (Zam (Zau Zbo Zae (Zaq C_l_draw hr2 Zak (Zaa (pv 0) (Zaa Zae (Zaa Zae (Zaa Zae Zab))))))))),?_⟩
 refine⟨_,rfl,a,ns,_,_,_,rfl,hS,hn,by decide,by decide,by decide,by decide,λr1 a1 b1=>⟨rfl,_,rfl,?_⟩⟩
 refine ite2 (λ_=>?_) (λ_=>?_)
 ·exact q 7 (by decide) (by decide)
 unfold tNext
 dsimp only
 refine⟨_,rfl,a,ns,_,_,_,rfl,hS,hn,by decide,by decide,by decide,by decide,λr a2 b2=>⟨_,_,rfl,rfl,?_⟩⟩
 have:=q (1+r).toNat (by lia) (by lia)
 rw[toNat_of_nonneg (by lia)]at this
 exact this
theorem ok_whole {f:Addr}{fd:FuncData}(F:Fun K "_law_whole" "_law_whole" Zf2 f fd)(T:Bl mg):FnOk P w K mg base CX0 1 f fd Zh2 spWhole:=by
 refine F.oq scLWhole λcdv A outer s H vs Q E hr h=>?_
 obtain⟨i,rfl,q⟩:=h
 refine⟨_,(Zag (Zam (pe_and (Zap Zln (by rfl) T.isi Zdb (Zaa (pv 0) (Zaa (Zge (v:=.ty "int") (by rfl) T.int bt_int rfl) Zab))) (pe_one (pe_not (Zap Zln (by rfl) T.isi Zdb (Zaa (pv 0) (Zaa (Zge (v:=.ty "bool") (by rfl) T.bool bt_bool rfl) Zab)))))))),?_⟩
 refine⟨_,rfl,i,_,rfl,.inl ⟨rfl,_,rfl,?_⟩⟩
 refine iteT ?_
 exact⟨_,rfl,i,_,rfl,.inr ⟨rfl,_,rfl,q⟩⟩
theorem ok_listD {f:Addr}{fd:FuncData}(F:Fun K "_law_list" "_law_list" Zef f fd)(T:Bl mg):FnOk P w K mg base CX0 1 f fd Zfe spWof:=by
 refine F.oq scLList λcdv A outer s H vs Q E hr h=>?_
 obtain⟨m,rfl,hm,q⟩:=h
 have hsl:sizeLine=16777216:=sizeLine_eq
 refine⟨_,(Zag (Zam (Zcw (N:=["_law_w", "_law_some"]) (sc:=Zaf Zef) (own:=["_law_w"]) (fr:=["_law_some"]) (js:=[0]) Zb4 rfl (Zbr (by rfl) T.range (Zaa (Zkx PySem.F.plainAttrs_int PySem.F.slot_int_bit_length PySem.F.type_int_bit_length Zi4 (pv 0)) Zab)) (λ_ _ _ _=>Za3 (i:=0) (show List.Nodup (["_law_w", "_law_some"]:List Str) by decide +kernel)) (λ_ _ _ _=>Zcv (Zl5 (Zau Zfg (Zau Zk2 (pv 1) (pv 0)) Zae))) (λ_ _ _ _=>(pv 0))))),?_⟩
 have hnb:nb m<=200:=Zno hm
 have hnb2:Builtin.Int.intBits (m:Int)<=200:=hnb
 refine⟨_,rfl,rfl,_,rfl,rfl,_,rfl,by lia,by lia,λD hD=>?_⟩
 refine lcJ (n:=nb m) (λi ys H2=>ys=(((List.range i).filter λj=>m.testBit j).map λ(j:Nat)=>(j:Int)).map V.int/\Same H H2/\H2 D=some (.lst ys)) ⟨rfl,Same.new hD,Zad⟩
  (λi ys H2 hi _=>by show i<_;rw[toNat_natCast];exact hi) (λys H2 _=>by show _<=nb m;rw[toNat_natCast];exact Nat.le_refl _) ?_ ?_
 ·rintro i ys H2 x H3 hi ⟨rfl,s2,e2⟩ ⟨rfl,rfl⟩
  have e0:(0+(i:Int)).toNat=i:=by lia
  refine⟨_,rfl,_,rfl,_,_,rfl,rfl,by show(0:Int)<=0+(i:Int);lia,_,_,rfl,rfl,_,rfl,?_⟩
  rw[e0,Zlo]
  have hl:((((List.range i).filter λj=>m.testBit j).map λ(j:Nat)=>(j:Int)).map V.int).length<sizeLine:=by
   rw[length_map,length_map]
   have:=length_filter_le (λj=>m.testBit j) (List.range i)
   rw[length_range]at this
   lia
  cases hb:m.testBit i with
  | true=>
   refine Zoq rfl ?_
   refine⟨_,rfl,_,e2,hl,?_,s2.put hD,Zad⟩
   rw[range_succ,filter_append,map_append,map_append]
   simp[hb]
  | false=>
   refine Zor (by decide) ?_
   refine⟨?_,s2,?_⟩
   ·rw[range_succ,filter_append]
    simp[hb]
   exact e2
 rintro ys H2 ⟨rfl,s2,e2⟩
 exact q D H2 s2 hD e2
theorem sum_pow {m:Nat}{ns:List Int}(up:ns.Pairwise (· < ·))(hx:∀x∈ns,0<=x/\x<(m:Int)):∃n:Nat,n<2^m/\(ns.map λn=>(2:Int)^n.toNat).sum=(n:Int):=by
 refine⟨bt ns,?_,Znx (up.imp λh=>Int.ne_of_lt h) λn hn=>(hx n hn).1⟩
 refine lt_pow_two_of_testBit _ λi hi=>?_
 rw[Zcp]
 refine any_eq_false.mpr λn hn=>?_
 have:=hx n hn
 simp
 lia
theorem ok_setD {f:Addr}{fd:FuncData}(F:Fun K "_law_set" "_law_set" Zls f fd)(T:Bl mg)(C_l_draw:Ca P w K mg base CX0 2 "_law_draw" Zck Zcd (spDraw K)):FnOk P w K mg base CX0 3 f fd Znm (spSetD K):=by
 refine F.oq scLSet λcdv A outer s H vs Q E hr2 h=>?_
 obtain⟨a,ns,k,m,rfl,hS,hn,k0,k1,m0,m1,q⟩:=h
 have hsl:sizeLine=16777216:=sizeLine_eq
 refine⟨_,(Zac (Zaw (i:=3) scLSet.nd (Zaq C_l_draw hr2 Zak (Zaa (pv 0) (Zaa (pv 1) (Zaa Zae (Zaa Zae Zab))))))
  (Zac (Za2 (Zao Zbt (pv 3) Zae (Zar _)) (Zag (Zam (Zau Zhe (Zau Zff Zae (pv 2)) Zae))) Zan)
  (Zac (Za2 (Zao Zbt (pv 3) Zae (Zar _)) (Zag (Zam (Zau Zff Zae (Zaq C_l_draw hr2 Zak (Zaa (pv 0) (Zaa (pv 1) (Zaa Zae (Zaa (pv 2) Zab)))))))) Zan)
  (Zac (Za2 (Zao Zbt (pv 3) Zae (Zar _)) (Zag (Zam Zae)) Zan)
  (Zag (Zam (Zap (Zji rfl) (by rfl) T.sum Zoj (Zaa (Zcw (N:=["_law_w", "_law_script", "_law_k"]) (sc:=Zaf Zls) (own:=["_law_w"]) (fr:=["_law_script", "_law_k"]) (js:=[0,1]) Zb4 rfl (Zbr (by rfl) T.range (Zaa (pv 2) Zab)) (λ_ _ _ _=>Za3 (i:=0) (show List.Nodup (["_law_w", "_law_script", "_law_k"]:List Str) by decide +kernel)) (λ_ _ _ _=>Zcv (Zao Zbt (Zaq C_l_draw hr2 Zak (Zaa (pv 1) (Zaa (Zau Zbo (pv 2) (pv 0)) (Zaa Zae (Zaa Zae Zab))))) Zae (Zar _))) (λ_ _ _ _=>(Zau Zff Zae (pv 0)))) Zab)))))))),?_⟩
 refine⟨_,rfl,_,rfl,a,ns,k,_,_,rfl,hS,hn,k0,by lia,by decide,by decide,λwy a1 b1=>?_⟩
 refine⟨_,rfl,rfl,_,rfl,?_⟩
 refine ite2 (λ_=>?_) (λ_=>?_)
 ·refine⟨_,rfl,_,_,rfl,rfl,⟨by lia,by lia,by lia⟩,_,_,rfl,rfl,?_⟩
  have h1:(1:Int)*2^((m:Int)).toNat-1=((2^m-1:Nat):Int):=by
   rw[toNat_natCast,Zlu]
   have:=two_pow_pos m
   lia
  rw[h1]
  exact q _ H (Same.refl _) (by have:=two_pow_pos m;lia)
 dsimp only[tNext]
 refine⟨_,rfl,rfl,_,rfl,?_⟩
 refine ite2 (λ_=>?_) (λ_=>?_)
 ·refine⟨_,rfl,_,rfl,_,rfl,a,ns,k,_,_,rfl,hS,hn,k0,by lia,by decide,by lia,λr a2 b2=>⟨_,_,rfl,rfl,⟨by lia,by lia,by lia⟩,?_⟩⟩
  have h1:(1:Int)*2^r.toNat=((2^r.toNat:Nat):Int):=by rw[Zlu];lia
  rw[h1]
  exact q _ H (Same.refl _) (pow_lt_pow_right (by decide) (by lia))
 dsimp only[tNext]
 refine⟨_,rfl,rfl,_,rfl,?_⟩
 refine ite2 (λ_=>?_) (λ_=>?_)
 ·exact q 0 H (Same.refl _) (two_pow_pos m)
 dsimp only[tNext]
 refine⟨_,rfl,_,rfl,by lia,by lia,λD hD=>?_⟩
 refine lcJ (n:=m) (λi ys H2=>∃xs:List Int,ys=(xs.map λn=>(2:Int)^n.toNat).map V.int/\xs.length<=i/\xs.Pairwise (· < ·)/\(∀x∈xs,0<=x/\x<(i:Int))/\Same H H2/\H2 D=some (.lst ys)) ⟨[],rfl,zero_le _,.nil,(λx hx=>by cases hx),Same.new hD,Zad⟩
  (λi _ _ hi _=>by show i<_;rw[toNat_natCast];exact hi) (λ_ _ _=>by show _<=m;rw[toNat_natCast];exact Nat.le_refl _) ?_ ?_
 ·rintro i ys H2 x H3 hi ⟨xs,rfl,xl,xp,xm,s2,e2⟩ ⟨rfl,rfl⟩
  refine⟨_,rfl,_,rfl,_,rfl,_,_,rfl,rfl,a,ns,_,_,_,rfl,s2.seq hS,hn,by lia,by lia,by decide,by decide,λr a3 b3=>⟨rfl,_,rfl,?_⟩⟩
  refine ite2 (λ_=>?_) (λ_=>?_)
  ·refine⟨_,rfl,_,_,rfl,rfl,⟨by lia,by lia,by lia⟩,?_⟩
   refine⟨_,e2,by rw[length_map,length_map];lia,xs++[(i:Int)],?_,by rw[length_append];show xs.length+1<=i+1;lia,?_,λx hx=>?_,s2.put hD,Zad⟩
   ·rw[map_append,map_append,Int.zero_add,one_mul]
    rfl
   ·refine List.pairwise_append.mpr ⟨xp,List.pairwise_singleton _ _,λx hx y hy=>?_⟩
    rw[mem_singleton.mp hy]
    have:=xm x hx
    lia
   rcases(mem_append.mp hx)with z | z
   ·have:=xm x z
    lia
   rw[mem_singleton.mp z]
   lia
  exact⟨xs,rfl,by lia,xp,λx hx=>by have:=xm x hx;lia,s2,e2⟩
 rintro ys H2 ⟨xs,rfl,xl,xp,xm,s2,e2⟩
 obtain⟨n,hn1,hn2⟩:=sum_pow xp xm
 refine⟨D,_,rfl,SqL.of e2,?_⟩
 rw[hn2]
 exact q n H2 s2 hn1
theorem pi_listK {X:Cx}{tg:Expr}(K:W.Frag)(h:X.K=K){l:Expr}{tl:TE}(hl:PE X l tl):PI X tg l (iList K tl):=by
 subst h
 exact Za4 hl
theorem lc_free {scope sc:Scope}(h:∀y∈scope.names,y.2≠NameKind.free):∀y∈scope.names,y.2=NameKind.free->sc.names.lookup y.1=some NameKind.cell:=λy hy e=>absurd e (h y hy)
abbrev abcL:List Nat:=[97,98,99]
abbrev deL:List Nat:=[100,101]
abbrev pqrL:List Nat:=[112,113,114]
theorem abc_cs:cs (Str.ofString "abc")=abcL:=by decide +kernel
theorem de_cs:cs (Str.ofString "de")=deL:=by decide +kernel
theorem pqr_cs:cs (Str.ofString "pqr")=pqrL:=by decide +kernel
theorem Zol:∀c∈abcL,c<128:=by decide
theorem de_lt:∀c∈deL,c<128:=by decide
theorem Zn3:∀c∈pqrL,c<128:=by decide
structure DDs (H:Hp)(ns:List Int)(m:Nat)(us:List V)(ds:List Dee)(i:Nat):Prop where
 hd:A2 (DeV H) us ds
 nm:ds.map Dee.name=(abcL.take i).map (wdS ns 2)
 dl:ds.length=i
 so:∀d∈ds,StOk (d.name,d.price)
 de:∀d∈ds,DeOk m d
structure LLs (H:Hp)(ns:List Int)(m:Nat)(ws:List V)(ls:List Loo)(i:Nat):Prop where
 hl:A2 (LoV H) ws ls
 nm:ls.map Loo.name=(deL.take i).map (wdS ns 2)
 ll:ls.length=i
 sl:∀l∈ls,StOk (l.name,l.price)
 lo:∀l∈ls,l.tab.length=m
 an:∀l∈ls,∀s,some s∈l.tab->s∈pqrL.map (wdS ns 3)
theorem DDs.same {H H':Hp}{ns:List Int}{m:Nat}{us:List V}{ds:List Dee}{i:Nat}(h:DDs H ns m us ds i)(s:Same H H'):DDs H' ns m us ds i:=⟨h.hd.mono λv t _ q=>q.same s,h.nm,h.dl,h.so,h.de⟩
theorem LLs.same {H H':Hp}{ns:List Int}{m:Nat}{us:List V}{ls:List Loo}{i:Nat}(h:LLs H ns m us ls i)(s:Same H H'):LLs H' ns m us ls i:=⟨h.hl.mono λv t _ q=>q.same s,h.nm,h.ll,h.sl,h.lo,h.an⟩
inductive spDeedsD (K:W.Frag)(vs:List V)(H:Hp)(Q:VK)(E0_:XK):Prop
 | mk (a:Addr) (ns:List Int) (m:Nat) (c0:vs=[.ref a,.int (m:Int)]) (c1:SqL K H a (ns.map V.int)) (c2:ns.length<=63) (c3:1<=m) (c4:m<=200) (c5:∀(l:Addr) (us:List V) (ds:List Dee) (i:Nat) (H':Hp),Same H H'->H l=none->H' l=some (.lst us)->i<=3->DDs H' ns m us ds i->Q (.ref l) H'):spDeedsD K vs H Q E0_
inductive spLooksD (K:W.Frag)(vs:List V)(H:Hp)(Q:VK)(E0_:XK):Prop
 | mk (a:Addr) (ns:List Int) (m:Nat) (c0:vs=[.ref a,.int (m:Int)]) (c1:SqL K H a (ns.map V.int)) (c2:ns.length<=63) (c3:1<=m) (c4:m<=200) (c5:∀(l:Addr) (ws:List V) (ls:List Loo) (i:Nat) (H':Hp),Same H H'->H l=none->H' l=some (.lst ws)->i<=2->LLs H' ns m ws ls i->Q (.ref l) H'):spLooksD K vs H Q E0_
abbrev Zj4:List Str:=["_law_script", "_law_many_here"]
abbrev nLDeeds:List Str:=["_law_script", "_law_many_here", "_law_words_here", "_law_deeds_here", "_law_k", "_law_table_here"]
theorem scLDeeds:FnScope nLDeeds Zj4 (Zaf Zf6):=Zav
abbrev Zj2:List Str:=["_law_script", "_law_many_here"]
abbrev nLLooks:List Str:=["_law_script", "_law_many_here", "_law_words_here", "_law_answers", "_law_looks_here", "_law_k", "_law_table_here"]
theorem scLLooks:FnScope nLLooks Zj2 (Zaf Zf5):=Zav
theorem Zlx {l:List Nat}{i:Nat}(h:i<l.length):l.take (i+1)=l.take i++[l[i]]:=by rw[take_succ,getElem?_eq_getElem h];rfl
theorem ok_deedsD {f:Addr}{fd:FuncData}(F:Fun K "_law_deeds" "_law_deeds" Zf6 f fd)(T:Bl mg)(C_l_words:Ca P w K mg base CX0 3 "_law_words" Zdz Zh1 (spWords K))(C_l_draw:Ca P w K mg base CX0 2 "_law_draw" Zck Zcd (spDraw K))
  (C_l_entry:Ca P w K mg base CX0 3 "_law_entry" Zhr Zj3 (spEntryD K))(C_l_price:Ca P w K mg base CX0 3 "_law_price" Zf3 Zh3 (spPrice K)):FnOk P w K mg base CX0 4 f fd Zj4 (spDeedsD K):=by
 refine F.oq scLDeeds λcdv A outer s H vs Q E hr3 h=>?_
 obtain⟨a,ns,m,rfl,hS,hn,m1,m2,q⟩:=h
 have hr2:Room 2 _:=hr3.mono (by decide)
 have hsl:sizeLine=16777216:=sizeLine_eq
 refine⟨_,(Zac (Zaw (i:=2) scLDeeds.nd (Zaq C_l_words hr3 Zak (Zaa (pv 0) (Zaa Zae (Zaa Za6 Zab)))))
  (Zac (Zaw (i:=3) scLDeeds.nd (Zbs Zab))
  (Zac (Zbh PassesOwn.never rfl (Zbr (by rfl) T.range (Zaa (Zaq C_l_draw hr2 Zak (Zaa (pv 0) (Zaa Zae (Zaa Zae (Zaa Zae Zab))))) Zab)) (Zjy (i:=4) scLDeeds.nd rfl (Or.inr rfl))
   (Zac (Zlt (i:=5) (N:=["_law_world", "_law_script", "_law_many_here", "_law_k"]) (sc:=Zaf Zf6) (own:=["_law_world"]) (fr:=["_law_script", "_law_many_here", "_law_k"]) (js:=[0,1,4]) scLDeeds.nd rfl rfl Zb4 rfl (Zbr (by rfl) T.range (Zaa (pv 1) Zab)) (λ_ _ _ _=>Za3 (i:=0) (show List.Nodup (["_law_world", "_law_script", "_law_many_here", "_law_k"]:List Str) by decide +kernel)) (λ_ _ _ _=>Zbn) (λ_ _ _ _=>(Zaq C_l_entry hr3 Zak (Zaa (pv 1) (Zaa (Zau Zbo (Zau Zbo Zae (Zau Zcg (pv 2) (pv 3))) (pv 0)) (Zaa (pv 2) Zab))))))
  (Zag (Zaz (Zds PySem.F.plainAttrs_list PySem.F.slot_list_append PySem.F.type_list_append Za7 (pv 3) (Zaa (Zbb (Zaa (Zas Zbj (pv 2) (pv 4) (λ_ _=>rfl)) (Zaa (Zaq C_l_price hr3 Zak (Zaa (pv 0) (Zaa (Zau Zbo Zae (pv 4)) Zab))) (Zaa (pv 5) Zab)))) Zab))))))
  (Zag (Zam (pv 3)))))),?_⟩
 refine⟨_,rfl,a,ns,_,_,rfl,hS,hn,by decide,by decide,by decide +kernel,by decide +kernel,λlw H1 s1 hlw e1=>?_⟩
 rw[abc_cs]at e1
 refine⟨zero_le _,λl hl=>?_⟩
 obtain⟨H2,g0,s2,e2⟩:=gen1 (H:=H1) (o:=.lst []) hl
 rw[g0]
 refine⟨_,rfl,a,ns,_,_,_,rfl,(s1.trans s2).seq hS,hn,by decide,by decide,by decide,by decide,λr r0 r1=>?_⟩
 refine⟨_,rfl,by lia,by lia,Zgu (n:=r.toNat) (λi σ H4=>∃(v4 v5:Option V) (us:List V) (ds:List Dee),
  σ = [some (.ref a),some (.int (m:Int)),some (.ref lw),some (.ref l),v4,v5]/\Same H1 H4/\H4 l=some (.lst us)/\DDs (rm H4 [l]) ns m us ds i)
  ⟨none,none,[],[],rfl,s2,e2,⟨A2.nil,rfl,rfl,(λ_ h=>by cases h),(λ_ h=>by cases h)⟩⟩ ?_ ?_⟩
 ·rintro i σ H4 hi ⟨v4,v5,us,ds,rfl,s4,e4,pt⟩
  have hS4:=(s1.trans s4).seq hS
  have hi3:i=0\/i=1\/i=2:=by lia
  have hmi:0<=(m:Int)*(0+(i:Int))/\(m:Int)*(0+(i:Int))<=600:=by rcases hi3 with z | z | z <;> subst z <;> constructor <;> lia
  refine⟨_,rfl,_,rfl,by lia,by lia,λD hD=>?_⟩
  have xD:=Zah e4 hD
  refine lcJ (n:=m) (λj ys H6=>∃es:List (List Int),A2 (EnV (rm H6 [l,D])) ys es/\es.length=j/\(∀e∈es,e.Pairwise (· < ·))/\(∀e∈es,∀z∈e,0<=z/\z<(m:Int))/\(∀e∈es,e.length<=60)/\Same H4 H6/\H6 D=some (.lst ys))
   ⟨[],A2.nil,rfl,(λ_ h=>by cases h),(λ_ h=>by cases h),(λ_ h=>by cases h),Same.new hD,Zad⟩ (λi _ _ hi _=>by show i<_;rw[toNat_natCast];exact hi) (λ_ _ _=>by show _<=m;rw[toNat_natCast];exact Nat.le_refl _) ?_ ?_
  ·rintro j ys H6 v H7 hj ⟨es,ae,el,ep,ei,ef,s6,e6⟩ ⟨rfl,rfl⟩
   refine Zbu ?_
   refine⟨_,rfl,_,rfl,_,rfl,_,_,rfl,rfl,.inl ⟨by lia,by lia⟩,_,_,rfl,rfl,_,rfl,_,_,rfl,rfl,_,rfl,a,ns,_,_,rfl,s6.seq hS4,hn,by lia,by lia,by lia,by lia,λb e H7 s7 hb eb p1 p2 p3=>?_⟩
   have hbn:b∉[l,D]:=by
    simp only[mem_cons,not_mem_nil,or_false,not_or]
    exact⟨(Zah (s6 _ _ e4) hb).symm,(Zah e6 hb).symm⟩
   have hyl:=ae.len
   refine⟨_,s7 _ _ e6,by lia,es++[e],?_,by rw[length_append,el];rfl,λe' h=>?_,λe' h=>?_,λe' h=>?_,(s6.trans s7).put hD,Zad⟩
   ·rw[Zf9 (by simp)]
    exact A2.app (ae.mono λv t _ r=>r.same (Zct s7)) (A2.one ⟨b,rfl,by rw[Zga hbn];exact eb⟩)
   ·rcases(mem_append.mp h)with z | z
    ·exact ep _ z
    rw[mem_singleton.mp z];exact p1
   ·rcases(mem_append.mp h)with z | z
    ·exact ei _ z
    rw[mem_singleton.mp z];exact p2
   rcases(mem_append.mp h)with z | z
   ·exact ef _ z
   rw[mem_singleton.mp z];lia
  rintro ys H6 ⟨es,ae,el,ep,ei,ef,s6,e6⟩
  have hia:i<abcL.length:=by show i<3;lia
  have hat2:atI ((abcL.map (wdS ns 2)).map V.str) (0+(i:Int))=some (.str (wdS ns 2 abcL[i])):=by
   rw[Int.zero_add]
   exact Zal (by rw[getElem?_map,getElem?_map,getElem?_eq_getElem hia];rfl)
  have hlb:=Zg2 ns 2 (Zol _ (getElem_mem hia))
  have e46:=s6 _ _ e4
  refine⟨_,rfl,.inl ⟨rfl,_,SqL.of e46⟩,_,rfl,_,rfl,lw,_,_,_,rfl,rfl,SqL.of ((s4.trans s6) _ _ e1),hat2,?_⟩
  refine⟨_,rfl,_,rfl,_,_,rfl,rfl,a,ns,_,rfl,s6.seq hS4,hn,by lia,by lia,λpr pa pb=>⟨_,rfl,by show 3<=sizeLine;lia,λtp htp=>?_⟩⟩
  have s8:Same H6 (upd H6 tp (.tup [.str (wdS ns 2 abcL[i]),.int pr,.ref D])):=Same.new htp
  have e8:(upd H6 tp (.tup [.str (wdS ns 2 abcL[i]),.int pr,.ref D])) tp=some (.tup [.str (wdS ns 2 abcL[i]),.int pr,.ref D]):=Zad
  have tx:=Zah e46 htp
  generalize (upd H6 tp (.tup [.str (wdS ns 2 abcL[i]),.int pr,.ref D]))=H8 at s8 e8 ⊢
  have hul:=pt.hd.len
  have hdl:=pt.dl
  refine⟨l,_,_,rfl,rfl,s8 _ _ e46,by lia,?_⟩
  refine⟨_,_,us++[.ref tp],ds++[⟨wdS ns 2 abcL[i],pr,es⟩],rfl,((s4.trans s6).trans s8).put hl,Zad,?_⟩
  rw[Zf9 (by simp)]
  refine⟨?_,?_,by rw[length_append,hdl];rfl,λz hz=>?_,λz hz=>?_⟩
  ·refine A2.app (pt.hd.mono λv t _ q'=>q'.same (Zct (s6.trans s8))) (A2.one ⟨D,ys,⟨tp,rfl,?_⟩,?_,ae.mono λv t _ q'=>q'.same ((Zct s8).trans (Zn1 (by simp)))⟩)
   ·rw[Zga (by simp only[mem_cons,not_mem_nil,or_false];exact tx.symm)]
    exact e8
   rw[Zga (by simp only[mem_cons,not_mem_nil,or_false];exact xD.symm)]
   exact s8 _ _ e6
  ·rw[Zlx hia,map_append,map_append,pt.nm]
   rfl
  ·rcases(mem_append.mp hz)with z' | z'
   ·exact pt.so _ z'
   rw[mem_singleton.mp z']
   exact⟨hlb.l1,hlb.l2,pa,pb⟩
  rcases(mem_append.mp hz)with z' | z'
  ·exact pt.de _ z'
  rw[mem_singleton.mp z']
  exact⟨el,ep,ei,ef⟩
 rintro σ H4 ⟨v4,v5,us,ds,rfl,s4,e4,pt⟩
 exact⟨_,rfl,q l us ds _ H4 (s1.trans s4) (s1.free hl) e4 (by lia) (pt.same Zl4)⟩
theorem ok_looksD {f:Addr}{fd:FuncData}(F:Fun K "_law_looks" "_law_looks" Zf5 f fd)(T:Bl mg)(C_l_words:Ca P w K mg base CX0 3 "_law_words" Zdz Zh1 (spWords K))(C_l_draw:Ca P w K mg base CX0 2 "_law_draw" Zck Zcd (spDraw K))
  (C_l_told:Ca P w K mg base CX0 3 "_law_told" Zkj Zmg (spTellD K))(C_l_price:Ca P w K mg base CX0 3 "_law_price" Zf3 Zh3 (spPrice K)):FnOk P w K mg base CX0 4 f fd Zj2 (spLooksD K):=by
 refine F.oq scLLooks λcdv A outer s H vs Q E hr3 h=>?_
 obtain⟨a,ns,m,rfl,hS,hn,m1,m2,q⟩:=h
 have hr2:Room 2 _:=hr3.mono (by decide)
 have hsl:sizeLine=16777216:=sizeLine_eq
 refine⟨_,(Zac (Zaw (i:=2) scLLooks.nd (Zaq C_l_words hr3 Zak (Zaa (pv 0) (Zaa Zae (Zaa Za6 Zab)))))
  (Zac (Ziw (i:=3) scLLooks.nd rfl (Or.inr rfl) (Zaq C_l_words hr3 Zak (Zaa (pv 0) (Zaa Zae (Zaa Za6 Zab)))))
  (Zac (Zaw (i:=4) scLLooks.nd (Zbs Zab))
  (Zac (Zbh PassesOwn.never rfl (Zbr (by rfl) T.range (Zaa (Zaq C_l_draw hr2 Zak (Zaa (pv 0) (Zaa Zae (Zaa Zae (Zaa Zae Zab))))) Zab)) (Zjy (i:=5) scLLooks.nd rfl (Or.inr rfl))
   (Zac (Zlt (i:=6) (N:=["_law_world", "_law_script", "_law_answers", "_law_many_here", "_law_k"]) (sc:=Zaf Zf5) (own:=["_law_world"]) (fr:=["_law_script", "_law_answers", "_law_many_here", "_law_k"]) (js:=[0,3,1,5]) scLLooks.nd rfl rfl Zb4 rfl (Zbr (by rfl) T.range (Zaa (pv 1) Zab)) (λ_ _ _ _=>Za3 (i:=0) (show List.Nodup (["_law_world", "_law_script", "_law_answers", "_law_many_here", "_law_k"]:List Str) by decide +kernel)) (λ_ _ _ _=>Zbn) (λ_ _ _ _=>(Zaq C_l_told hr3 Zak (Zaa (pv 1) (Zaa (Zau Zbo (Zau Zbo Zae (Zau Zcg (pv 3) (pv 4))) (pv 0)) (Zaa (pv 2) Zab))))))
  (Zag (Zaz (Zds PySem.F.plainAttrs_list PySem.F.slot_list_append PySem.F.type_list_append Za7 (pv 4) (Zaa (Zbb (Zaa (Zas Zbj (pv 2) (pv 5) (λ_ _=>rfl)) (Zaa (Zaq C_l_price hr3 Zak (Zaa (pv 0) (Zaa (Zau Zbo Zae (pv 5)) Zab))) (Zaa (pv 6) Zab)))) Zab))))))
  (Zag (Zam (pv 4))))))),?_⟩
 refine⟨_,rfl,a,ns,_,_,rfl,hS,hn,by decide,by decide,by decide +kernel,by decide +kernel,λlw H0 s0 hlw e0=>?_⟩
 rw[de_cs]at e0
 refine⟨_,rfl,a,ns,_,_,rfl,s0.seq hS,hn,by decide,by decide,by decide +kernel,by decide +kernel,λla H1 s01 hla ea=>?_⟩
 rw[pqr_cs]at ea
 have s1:=s0.trans s01
 have e1:=s01 _ _ e0
 refine⟨zero_le _,λl hl=>?_⟩
 obtain⟨H2,g0,s2,e2⟩:=gen1 (H:=H1) (o:=.lst []) hl
 rw[g0]
 refine⟨_,rfl,a,ns,_,_,_,rfl,(s1.trans s2).seq hS,hn,by decide,by decide,by decide,by decide,λr r0 r1=>?_⟩
 refine⟨_,rfl,by lia,by lia,Zgu (n:=r.toNat) (λi σ H4=>∃(v4 v5:Option V) (us:List V) (ls:List Loo),
  σ = [some (.ref a),some (.int (m:Int)),some (.ref lw),some (.ref la),some (.ref l),v4,v5]/\Same H1 H4/\H4 l=some (.lst us)/\LLs (rm H4 [l]) ns m us ls i)
  ⟨none,none,[],[],rfl,s2,e2,⟨A2.nil,rfl,rfl,(λ_ h=>by cases h),(λ_ h=>by cases h),(λ_ h=>by cases h)⟩⟩ ?_ ?_⟩
 ·rintro i σ H4 hi ⟨v4,v5,us,ls,rfl,s4,e4,pt⟩
  have hS4:=(s1.trans s4).seq hS
  have hi3:i=0\/i=1:=by lia
  have hmi:0<=(m:Int)*(0+(i:Int))/\(m:Int)*(0+(i:Int))<=600:=by rcases hi3 with z | z <;> subst z <;> constructor <;> lia
  refine⟨_,rfl,_,rfl,by lia,by lia,λD hD=>?_⟩
  have xD:=Zah e4 hD
  refine lcJ (n:=m) (λj ys H7=>∃os:List (Option Str),ys=os.map oS/\os.length=j/\(∀s,some s∈os->s∈pqrL.map (wdS ns 3))/\Same H4 H7/\H7 D=some (.lst ys))
   ⟨[],rfl,rfl,(λ_ h=>by cases h),Same.new hD,Zad⟩ (λi _ _ hi _=>by show i<_;rw[toNat_natCast];exact hi) (λ_ _ _=>by show _<=m;rw[toNat_natCast];exact Nat.le_refl _) ?_ ?_
  ·rintro j ys H7 v H8 hj ⟨os,rfl,ol,oa,s7,e7⟩ ⟨rfl,rfl⟩
   refine Zbu ?_
   refine⟨_,rfl,_,rfl,_,rfl,_,_,rfl,rfl,.inl ⟨by lia,by lia⟩,_,_,rfl,rfl,_,rfl,_,_,rfl,rfl,_,rfl,a,ns,_,la,_,rfl,s7.seq hS4,hn,by lia,by lia,(s4.trans s7) _ _ ea,rfl,λo ho=>?_⟩
   refine⟨_,e7,by rw[length_map];lia,os++[o],by rw[map_append];rfl,by rw[length_append,ol];rfl,λs h=>?_,s7.put hD,Zad⟩
   rcases(mem_append.mp h)with z | z
   ·exact oa _ z
   exact ho _ (mem_singleton.mp z).symm
  rintro ys H6 ⟨os,rfl,ol,oa,s6,e6⟩
  have hia:i<deL.length:=by show i<2;lia
  have hat2:atI ((deL.map (wdS ns 2)).map V.str) (0+(i:Int))=some (.str (wdS ns 2 deL[i])):=by
   rw[Int.zero_add]
   exact Zal (by rw[getElem?_map,getElem?_map,getElem?_eq_getElem hia];rfl)
  have hlb:=Zg2 ns 2 (de_lt _ (getElem_mem hia))
  have e46:=s6 _ _ e4
  refine⟨_,rfl,.inl ⟨rfl,_,SqL.of e46⟩,_,rfl,_,rfl,lw,_,_,_,rfl,rfl,SqL.of ((s4.trans s6) _ _ e1),hat2,?_⟩
  refine⟨_,rfl,_,rfl,_,_,rfl,rfl,a,ns,_,rfl,s6.seq hS4,hn,by lia,by lia,λpr pa pb=>⟨_,rfl,by show 3<=sizeLine;lia,λtp htp=>?_⟩⟩
  have s8:Same H6 (upd H6 tp (.tup [.str (wdS ns 2 deL[i]),.int pr,.ref D])):=Same.new htp
  have e8:(upd H6 tp (.tup [.str (wdS ns 2 deL[i]),.int pr,.ref D])) tp=some (.tup [.str (wdS ns 2 deL[i]),.int pr,.ref D]):=Zad
  have tx:=Zah e46 htp
  generalize (upd H6 tp (.tup [.str (wdS ns 2 deL[i]),.int pr,.ref D]))=H8 at s8 e8 ⊢
  have hul:=pt.hl.len
  have hdl:=pt.ll
  refine⟨l,_,_,rfl,rfl,s8 _ _ e46,by lia,?_⟩
  refine⟨_,_,us++[.ref tp],ls++[⟨wdS ns 2 deL[i],pr,os⟩],rfl,((s4.trans s6).trans s8).put hl,Zad,?_⟩
  rw[Zf9 (by simp)]
  refine⟨?_,?_,by rw[length_append,hdl];rfl,λz hz=>?_,λz hz=>?_,λz hz=>?_⟩
  ·refine A2.app (pt.hl.mono λv t _ q'=>q'.same (Zct (s6.trans s8))) (A2.one ⟨D,⟨tp,rfl,?_⟩,?_⟩)
   ·rw[Zga (by simp only[mem_cons,not_mem_nil,or_false];exact tx.symm)]
    exact e8
   rw[Zga (by simp only[mem_cons,not_mem_nil,or_false];exact xD.symm)]
   exact s8 _ _ e6
  ·rw[Zlx hia,map_append,map_append,pt.nm]
   rfl
  ·rcases(mem_append.mp hz)with z' | z'
   ·exact pt.sl _ z'
   rw[mem_singleton.mp z']
   exact⟨hlb.l1,hlb.l2,pa,pb⟩
  ·rcases(mem_append.mp hz)with z' | z'
   ·exact pt.lo _ z'
   rw[mem_singleton.mp z']
   exact ol
  rcases(mem_append.mp hz)with z' | z'
  ·exact pt.an _ z'
  rw[mem_singleton.mp z']
  exact oa
 rintro σ H4 ⟨v4,v5,us,ls,rfl,s4,e4,pt⟩
 exact⟨_,rfl,q l us ls _ H4 (s1.trans s4) (s1.free hl) e4 (by lia) (pt.same Zl4)⟩
def spHeld:Sp:=λvs H Q _=>(∃(b:Addr) (e:List Int),vs=[.ref b]/\H b=some (.lst (e.map V.int))/\∀l:Addr,H l=none->Q (.ref l) (upd H l (.lst (e.map V.int))))\/(∃o:Option Str,vs=[oS o]/\Q (oS o) H)
inductive spCopied (vs:List V)(H:Hp)(Q:VK)(E0_:XK):Prop
 | mk (a:Addr) (us:List V) (c0:vs=[.ref a]) (c1:H a=some (.lst us)) (c2:us.length<=40) (c3:((∃ds:List Dee,A2 (DeV H) us ds/\(∀d∈ds,d.tab.length<=200)/\∀(l:Addr) (vs':List V) (H':Hp),Same H H'->H l=none->H' l=some (.lst vs')->A2 (DeV H') vs' ds->Q (.ref l) H') \/    (∃ls:List Loo,A2 (LoV H) us ls/\(∀d∈ls,d.tab.length<=200)/\∀(l:Addr) (vs':List V) (H':Hp),Same H H'->H l=none->H' l=some (.lst vs')->A2 (LoV H') vs' ls->Q (.ref l) H'))):spCopied  vs H Q E0_
abbrev Zmk:List Str:=["_law_one"]
abbrev nLHeld:List Str:=["_law_one"]
theorem scLHeld:FnScope nLHeld Zmk (Zaf Zkn):=Zav
abbrev Zh5:List Str:=["_law_steps"]
abbrev nLCopied:List Str:=["_law_steps"]
theorem scLCopied:FnScope nLCopied Zh5 (Zaf Zeg):=Zav
theorem ok_held {f:Addr}{fd:FuncData}(F:Fun K "_law_held" "_law_held" Zkn f fd)(T:Bl mg):FnOk P w K mg base CX0 1 f fd Zmk spHeld:=by
 refine F.ok scLHeld (λvs H Q E h=>?_) (λcdv A outer s H vs Q E hr h=>?_)
 ·rcases h with⟨b,e,rfl,_⟩ | ⟨o,rfl,_⟩ <;> rfl
 rcases h with⟨b,e,rfl,hb,q⟩ | ⟨o,rfl,q⟩
 ·refine⟨_,(Zac (Za2 (Zby (Zap Zhi (by rfl) T.isi Zdb (Zaa (pv 0) (Zaa (Zge (v:=.ty "list") (by rfl) T.list Zbx rfl) Zab)))) (Zag (Zam (Zay Zbf (by rfl) T.list Zbx (Zaa (pv 0) Zab)))) Zan)
  (Zag (Zam (pv 0)))),?_⟩
  refine⟨_,rfl,.inl ⟨b,_,rfl,hb,_,rfl,?_⟩⟩
  refine iteT ?_
  exact⟨_,rfl,b,_,rfl,.inl (SqL.of hb),q⟩
 refine⟨_,(Zac (Za2 (Zby (Zap Zhi (by rfl) T.isi Zdb (Zaa (pv 0) (Zaa (Zge (v:=.ty "list") (by rfl) T.list Zbx rfl) Zab)))) (Zag (Zam (Zay Zbf (by rfl) T.list Zbx (Zaa (pv 0) Zab)))) Zan)
 (Zag (Zam (pv 0)))),?_⟩
 cases o with
 | none=>
  refine⟨_,rfl,.inr (.inr ⟨rfl,_,rfl,?_⟩)⟩
  refine iteF ?_
  exact⟨_,rfl,q⟩
 | some z=>
  refine⟨_,rfl,.inr (.inl ⟨z,rfl,_,rfl,?_⟩)⟩
  refine iteF ?_
  exact⟨_,rfl,q⟩
theorem ok_copied {f:Addr}{fd:FuncData}(F:Fun K "_law_copied" "_law_copied" Zeg f fd)(C_l_held:Ca P w K mg base CX0 1 "_law_held" Zkn Zmk spHeld):FnOk P w K mg base CX0 2 f fd Zh5 spCopied:=by
 refine F.oq scLCopied λcdv A outer s H vs Q E hr1 h=>?_
 obtain⟨a,us,rfl,ha,ul,h⟩:=h
 have hsl:sizeLine=16777216:=sizeLine_eq
 refine⟨_,(Zag (Zam (Zcw (N:=["_law_step"]) (sc:=Zaf Zeg) (own:=["_law_step"]) (fr:=[]) (js:=[]) Zb4 rfl (Za4 (pv 0)) (λ_ _ _ _=>Za3 (i:=0) (show List.Nodup (["_law_step"]:List Str) by decide +kernel)) (λ_ _ _ _=>Zbn) (λ_ _ _ _=>(Zbb (Zaa (Zas (Zb2 K rfl) (pv 0) Zae (λ_ _=>rfl)) (Zaa (Zas (Zb2 K rfl) (pv 0) Zae (λ_ _=>rfl)) (Zaa (Zcw (N:=["_law_one"]) (sc:=_) (own:=["_law_one"]) (fr:=[]) (js:=[]) ⟨rfl,rfl,rfl,rfl,by decide +kernel,lc_free (by decide +kernel),by decide +kernel,rfl,λ_ h=>by cases h⟩ rfl (pi_listK K rfl (Zas (Zb2 K rfl) (pv 0) Zae (λ_ _=>rfl))) (λ_ _ _ _=>Za3 (i:=0) (show List.Nodup (["_law_one"]:List Str) by decide +kernel)) (λ_ _ _ _=>Zbn) (λ_ _ _ _=>(Zaq C_l_held hr1 Zak (Zaa (pv 0) Zab)))) Zab)))))))),?_⟩
 have at0:∀(n:Str) (p:Int) (t:Addr),atI [V.str n,V.int p,V.ref t] ((0:Nat):Int)=some (.str n):=λn p t=>Zal rfl
 have at1:∀(n:Str) (p:Int) (t:Addr),atI [V.str n,V.int p,V.ref t] ((1:Nat):Int)=some (.int p):=λn p t=>Zal rfl
 have at2:∀(n:Str) (p:Int) (t:Addr),atI [V.str n,V.int p,V.ref t] ((2:Nat):Int)=some (.ref t):=λn p t=>Zal rfl
 refine⟨_,rfl,a,rfl,⟨_,SqL.of ha⟩,λD hD=>?_⟩
 rcases h with⟨ds,hd,dt,q⟩ | ⟨ls,hd,dt,q⟩
 ·have hul:=hd.len
  refine lcJ (n:=us.length) (λi ys H3=>A2 (DeV (rm H3 [D])) ys (ds.take i)/\ys.length=i/\Same H H3/\H3 D=some (.lst ys)) ⟨by simp;exact A2.nil,rfl,Same.new hD,Zad⟩
   (λi ys H3 hi ⟨_,_,s3,_⟩=>⟨_,us[i],SqL.of (s3 _ _ ha),getElem?_eq_getElem hi⟩) (λys H3 hh0=>by obtain⟨_,_,s3,_⟩:=hh0;exact⟨_,SqL.of (s3 _ _ ha),Nat.le_refl _⟩) ?_ ?_
  ·rintro i ys H3 v H4 hi ⟨ah,hyl,s3,e3⟩ ⟨rfl,hy⟩
   obtain⟨de,hde,hmem,t',es,⟨ta,rfl,et⟩,ht,he⟩:=hd.at (hy _ (SqL.of (s3 _ _ ha)))
   have et3:=s3 _ _ et
   refine Zbu ?_
   refine⟨_,rfl,ta,_,_,_,rfl,rfl,SqT.of et3,at0 _ _ _,_,rfl,ta,_,_,_,rfl,rfl,SqT.of et3,at1 _ _ _,_,rfl,ta,_,_,_,rfl,rfl,SqT.of et3,at2 _ _ _,t',rfl,⟨_,SqL.of (s3 _ _ ht)⟩,λE1 hE1=>?_⟩
   have DE:D≠E1:=Zah e3 hE1
   have hel:=he.len
   have hdl:=dt de hmem
   refine lcJ (n:=es.length) (λj zs H5=>A2 (EnV (rm H5 [E1,D])) zs (de.tab.take j)/\zs.length=j/\Same H4 H5/\H5 E1=some (.lst zs)) ⟨by simp;exact A2.nil,rfl,Same.new hE1,Zad⟩
    (λj zs H5 hj ⟨_,_,s5,_⟩=>⟨_,es[j],SqL.of ((s3.trans s5) _ _ ht),getElem?_eq_getElem hj⟩) (λzs H5 hh0=>by obtain⟨_,_,s5,_⟩:=hh0;exact⟨_,SqL.of ((s3.trans s5) _ _ ht),Nat.le_refl _⟩) ?_ ?_
   ·rintro j zs H5 v H6 hj ⟨az,hzl,s5,e5⟩ ⟨rfl,hy'⟩
    obtain⟨en,hen,henm,eb,rfl,heb⟩:=he.at (hy' _ (SqL.of ((s3.trans s5) _ _ ht)))
    refine Zbu ?_
    refine⟨_,rfl,.inl ⟨eb,en,rfl,(s3.trans s5) _ _ heb,λnb' hnb=>?_⟩⟩
    have s6:Same H6 (upd H6 nb' (.lst (en.map V.int))):=Same.new hnb
    have e6:(upd H6 nb' (.lst (en.map V.int))) nb'=some (.lst (en.map V.int)):=Zad
    have nE:=Zah e5 hnb
    have nD:=Zah (s5 _ _ e3) hnb
    generalize (upd H6 nb' (.lst (en.map V.int)))=H7 at s6 e6 ⊢
    refine⟨_,s6 _ _ e5,by lia,?_,by rw[length_append,hzl];rfl,(s5.trans s6).put hE1,Zad⟩
    rw[Zf9 (by simp),take_succ,hen]
    exact A2.app (az.mono λv t _ r=>r.same (Zct s6)) (A2.one ⟨nb',rfl,by rw[Zga (by simp only[mem_cons,not_mem_nil,or_false,not_or];exact⟨nE.symm,nD.symm⟩)];exact e6⟩)
   rintro zs H5 ⟨az,hzl,s5,e5⟩
   rw[hel,take_length]at az
   refine⟨by show 3<=sizeLine;lia,λtp htp=>?_⟩
   have s6:Same H5 (upd H5 tp (.tup [.str de.name,.int de.price,.ref E1])):=Same.new htp
   have e6:(upd H5 tp (.tup [.str de.name,.int de.price,.ref E1])) tp=some (.tup [.str de.name,.int de.price,.ref E1]):=Zad
   have tD:=Zah (s5 _ _ e3) htp
   generalize (upd H5 tp (.tup [.str de.name,.int de.price,.ref E1]))=H6 at s6 e6 ⊢
   refine⟨_,s6 _ _ (s5 _ _ e3),by lia,?_,by rw[length_append,hyl];rfl,((s3.trans s5).trans s6).put hD,Zad⟩
   rw[Zf9 (by simp),take_succ,hde]
   refine A2.app (ah.mono λv t _ r=>r.same (Zct (s5.trans s6))) (A2.one ⟨E1,zs,⟨tp,rfl,?_⟩,?_,az.mono λv t _ r=>r.same ((Zct s6).trans (Zn1 (by simp)))⟩)
   ·rw[Zga (by simp only[mem_cons,not_mem_nil,or_false];exact tD.symm)]
    exact e6
   rw[Zga (by simp only[mem_cons,not_mem_nil,or_false];exact DE.symm)]
   exact s6 _ _ e5
  rintro ys H3 ⟨ah,hyl,s3,e3⟩
  rw[hul,take_length]at ah
  exact q D ys H3 s3 hD e3 (ah.mono λv t _ r=>r.same Zl4)
 have hul:=hd.len
 refine lcJ (n:=us.length) (λi ys H3=>A2 (LoV (rm H3 [D])) ys (ls.take i)/\ys.length=i/\Same H H3/\H3 D=some (.lst ys)) ⟨by simp;exact A2.nil,rfl,Same.new hD,Zad⟩
  (λi ys H3 hi ⟨_,_,s3,_⟩=>⟨_,us[i],SqL.of (s3 _ _ ha),getElem?_eq_getElem hi⟩) (λys H3 hh0=>by obtain⟨_,_,s3,_⟩:=hh0;exact⟨_,SqL.of (s3 _ _ ha),Nat.le_refl _⟩) ?_ ?_
 ·rintro i ys H3 v H4 hi ⟨ah,hyl,s3,e3⟩ ⟨rfl,hy⟩
  obtain⟨de,hde,hmem,t',⟨ta,rfl,et⟩,ht⟩:=hd.at (hy _ (SqL.of (s3 _ _ ha)))
  have et3:=s3 _ _ et
  refine Zbu ?_
  refine⟨_,rfl,ta,_,_,_,rfl,rfl,SqT.of et3,at0 _ _ _,_,rfl,ta,_,_,_,rfl,rfl,SqT.of et3,at1 _ _ _,_,rfl,ta,_,_,_,rfl,rfl,SqT.of et3,at2 _ _ _,t',rfl,⟨_,SqL.of (s3 _ _ ht)⟩,λE1 hE1=>?_⟩
  have DE:D≠E1:=Zah e3 hE1
  have hdl:=dt de hmem
  have htl:(de.tab.map oS).length=de.tab.length:=length_map ..
  refine lcJ (n:=de.tab.length) (λj zs H5=>zs=(de.tab.take j).map oS/\Same H4 H5/\H5 E1=some (.lst zs)) ⟨by simp,Same.new hE1,Zad⟩
   (λj zs H5 hj ⟨_,s5,_⟩=>⟨_,oS de.tab[j],SqL.of ((s3.trans s5) _ _ ht),by rw[getElem?_map,getElem?_eq_getElem hj];rfl⟩) (λzs H5 hh0=>by obtain⟨_,s5,_⟩:=hh0;exact⟨_,SqL.of ((s3.trans s5) _ _ ht),by rw[htl];exact Nat.le_refl _⟩) ?_ ?_
  ·rintro j zs H5 v H6 hj ⟨rfl,s5,e5⟩ ⟨rfl,hy'⟩
   have hv:v=oS de.tab[j]:=by
    have:=hy' _ (SqL.of ((s3.trans s5) _ _ ht))
    rw[getElem?_map,getElem?_eq_getElem hj]at this
    (exact(Option.some.inj this).symm)
   subst hv
   refine Zbu ?_
   refine⟨_,rfl,.inr ⟨de.tab[j],rfl,?_⟩⟩
   refine⟨_,e5,by rw[length_map,length_take];lia,?_,s5.put hE1,Zad⟩
   rw[take_succ,getElem?_eq_getElem hj,map_append]
   rfl
  rintro zs H5 ⟨rfl,s5,e5⟩
  rw[take_length]at e5
  refine⟨by show 3<=sizeLine;lia,λtp htp=>?_⟩
  have s6:Same H5 (upd H5 tp (.tup [.str de.name,.int de.price,.ref E1])):=Same.new htp
  have e6:(upd H5 tp (.tup [.str de.name,.int de.price,.ref E1])) tp=some (.tup [.str de.name,.int de.price,.ref E1]):=Zad
  have tD:=Zah (s5 _ _ e3) htp
  generalize (upd H5 tp (.tup [.str de.name,.int de.price,.ref E1]))=H6 at s6 e6 ⊢
  refine⟨_,s6 _ _ (s5 _ _ e3),by lia,?_,by rw[length_append,hyl];rfl,((s3.trans s5).trans s6).put hD,Zad⟩
  rw[Zf9 (by simp),take_succ,hde]
  refine A2.app (ah.mono λv t _ r=>r.same (Zct (s5.trans s6))) (A2.one ⟨E1,⟨tp,rfl,?_⟩,?_⟩)
  ·rw[Zga (by simp only[mem_cons,not_mem_nil,or_false];exact tD.symm)]
   exact e6
  rw[Zga (by simp only[mem_cons,not_mem_nil,or_false];exact DE.symm)]
  exact s6 _ _ e5
 rintro ys H3 ⟨ah,hyl,s3,e3⟩
 rw[hul,take_length]at ah
 exact q D ys H3 s3 hD e3 (ah.mono λv t _ r=>r.same Zl4)
inductive Ev where
 | did (d:Dee) | saw (l:Loo) (z:Str) | fd (d:Dee) | fl (l:Loo)
def P1 (P:Nat->Bool)(w:Int):List Int:=if P w.toNat=true then [w]else []
def lead:Ev->Int->List Int
 | .did d,w=>d.tab.getD w.toNat []
 | .saw l z,w=>P1 (λi=>decide (l.tab[i]? = some (some z))) w
 | .fd d,w=>P1 (λi=>decide (d.tab[i]? = some [])) w
 | .fl l,w=>P1 (λi=>decide (l.tab[i]? = some none)) w
def Zg0 (e:Ev)(s:Nat):Nat:=bt ((wl s).flatMap (lead e))
inductive EvIn (ds:List Dee)(ls:List Loo):Ev->Prop
 | did (d:Dee) (h:d∈ds):EvIn ds ls (.did d)
 | saw (l:Loo) (z:Str) (h:l∈ls):EvIn ds ls (.saw l z)
 | fd (d:Dee) (h:d∈ds):EvIn ds ls (.fd d)
 | fl (l:Loo) (h:l∈ls):EvIn ds ls (.fl l)
theorem Zft {s m:Nat}(h:s<2^m){w:Int}(hw:w∈wl s):0<=w/\w<(m:Int):=by
 obtain⟨h0,hb⟩:=wl_mem.mp hw
 refine⟨h0,?_⟩
 rcases lt_or_ge w.toNat m with z | z
 ·lia
 have:s<2^w.toNat:=lt_of_lt_of_le h (pow_le_pow_right (by decide) z)
 rw[testBit_lt_two_pow this]at hb
 cases hb
theorem Ze5 (tab:List (Option Str))(z:Str)(i:Nat):(bt (ixs tab z)).testBit i=decide (tab[i]? = some (some z)):=by
 rw[Zcp,Bool.eq_iff_iff,any_eq_true,decide_eq_true_eq]
 unfold ixs
 constructor
 ·rintro⟨n,hn,e⟩
  obtain⟨j,hj,rfl⟩:=mem_map.mp hn
  have e2:j=i:=by simpa using e
  rw[<- e2]
  exact of_decide_eq_true (mem_filter.mp hj).2
 intro h
 have hl:=(List.getElem?_eq_some_iff.mp h).1
 exact⟨(i:Int),mem_map.mpr ⟨i,mem_filter.mpr ⟨mem_range.mpr hl,decide_eq_true h⟩,rfl⟩,by simp⟩
theorem Zif {α:Type}(p:α->Bool)(tab:List α)(i:Nat):(bt (doI p tab)).testBit i=(tab[i]?.map p).getD false:=by
 rw[Zcp,Bool.eq_iff_iff,any_eq_true]
 unfold doI
 constructor
 ·rintro⟨n,hn,e⟩
  obtain⟨j,hj,rfl⟩:=mem_map.mp hn
  have e2:j=i:=by simpa using e
  rw[<- e2]
  exact(mem_filter.mp hj).2
 intro h
 have hl:i<tab.length:=by
  rcases lt_or_ge i tab.length with z | z
  ·exact z
  rw[getElem?_eq_none z]at h
  cases h
 exact⟨(i:Int),mem_map.mpr ⟨i,mem_filter.mpr ⟨mem_range.mpr hl,h⟩,rfl⟩,by simp⟩
theorem bt_wl (s:Nat):bt (wl s)=s:=by
 refine eq_of_testBit_eq λi=>?_
 rw[Zcp,Bool.eq_iff_iff,any_eq_true]
 constructor
 ·rintro⟨n,hn,e⟩
  have e2:n.toNat=i:=by simpa using e
  rw[<- e2]
  exact(wl_mem.mp hn).2
 intro h
 exact⟨(i:Int),wl_mem.mpr ⟨by lia,by rw[toNat_natCast];exact h⟩,by simp⟩
theorem wl_wd {s:Nat}(h:s<2^200):Wd (wl s):=λn hn=>by
 have:=Zft h hn
 lia
theorem out_bit {s t:Nat}(hs:s<2^200)(ht:t<2^200):∃r:Nat,Builtin.bitXor (s:Int) (Builtin.bitAnd (s:Int) (t:Int))=(r:Int)/\∀i,r.testBit i=(s.testBit i && !t.testBit i):=by
 have e:=out_is (wl_wd hs) (wl_wd ht)
 rw[bt_wl,bt_wl]at e
 refine⟨_,e,λi=>?_⟩
 rw[Zcp,Bool.eq_iff_iff,any_eq_true,and_eq_true,not_eq_true']
 constructor
 ·rintro⟨n,hn,e⟩
  have e2:n.toNat=i:=by simpa using e
  obtain⟨h1,h2⟩:=mem_filter.mp hn
  obtain⟨h0,hb⟩:=wl_mem.mp h1
  rw[<- e2]
  refine⟨hb,?_⟩
  cases z:t.testBit n.toNat with
  | false=>rfl
  | true=>
   have:n∈wl t:=wl_mem.mpr ⟨h0,z⟩
   rw[decide_eq_true this]at h2
   cases h2
 rintro⟨h1,h2⟩
 refine⟨(i:Int),mem_filter.mpr ⟨wl_mem.mpr ⟨by lia,by rw[toNat_natCast];exact h1⟩,?_⟩,by simp⟩
 rw[decide_eq_false λz=>?_]
 ·rfl
 have:=(wl_mem.mp z).2
 rw[toNat_natCast,h2]at this
 cases this
theorem bt_app (a b:List Int):bt (a++b)=bt a|||bt b:=by
 refine eq_of_testBit_eq λi=>?_
 rw[Zcp,List.any_append,testBit_or,Zcp,Zcp]
theorem lead_wd {m:Nat}{ds:List Dee}{ls:List Loo}(m2:m<=200)(hd:∀d∈ds,DeOk m d){e:Ev}(he:EvIn ds ls e){w:Int}(w0:0<=w)(w1:w<(m:Int)):∀x∈lead e w,0<=x/\x<(m:Int):=by
 have one:∀P:Nat->Bool,∀x∈P1 P w,0<=x/\x<(m:Int):=λP x hx=>by
  unfold P1 at hx
  split at hx
  ·rw[mem_singleton.mp hx];exact⟨w0,w1⟩
  cases hx
 cases he with
 | did d h=>
  intro x hx
  have hx':x∈d.tab.getD w.toNat []:=hx
  rw[getD_eq_getElem?_getD]at hx'
  cases e:d.tab[w.toNat]? with
  | none=>rw[e]at hx';cases hx'
  | some en=>
   rw[e]at hx'
   exact(hd d h).inn en (mem_of_getElem? e) x hx'
 | saw l z h=>exact one λi=>decide (l.tab[i]? = some (some z))
 | fd d h=>exact one λi=>decide (d.tab[i]? = some [])
 | fl l h=>exact one λi=>decide (l.tab[i]? = some none)
theorem Zeq {m:Nat}{ds:List Dee}{ls:List Loo}(m2:m<=200)(hd:∀d∈ds,DeOk m d){e:Ev}(he:EvIn ds ls e){s:Nat}(hs:s<2^m):Zg0 e s<2^m:=by
 refine lt_pow_two_of_testBit _ λi hi=>?_
 unfold Zg0
 rw[Zcp]
 refine any_eq_false.mpr λn hn=>?_
 obtain⟨w,hw,hx⟩:=List.mem_flatMap.mp hn
 have h1:=Zft hs hw
 have:=lead_wd m2 hd he h1.1 h1.2 n hx
 simp
 lia
theorem Ze3 {s m:Nat}(h:s<2^m)(m2:m<=200):s<2^200:=lt_of_lt_of_le h (pow_le_pow_right (by decide) m2)
inductive spLedTo (vs:List V)(H:Hp)(Q:VK)(E0_:XK):Prop
 | mk (t:Addr) (s m:Nat) (d:Dee) (c0:vs=[.ref t,.int (s:Int)]) (c1:H t=some (.tup (d.tab.map λn=>V.int (bt n:Nat)))) (c2:d.tab.length=m) (c3:m<=200) (c4:s<2^m) (c5:∀H':Hp,Same H H'->Q (.int (Zg0 (.did d) s:Nat)) H'):spLedTo  vs H Q E0_
inductive spDoableM (C:Addr)(vs:List V)(H:Hp)(Q:VK)(E:XK):Prop
 | mk (x:Addr) (m:Nat) (ds:List Dee) (ls:List Loo) (n:Str) (c0:vs=[.ref x,.str n]) (c1:ChAt C H x m ds ls) (c2:(ds.map Dee.name++ls.map Loo.name).Nodup) (c3:(False\/∃s∈doOf ds ls,s.1=n/\Q (.int (s.2:Int)) H)):spDoableM C vs H Q E
inductive spAnswerSets (C:Addr)(vs:List V)(H:Hp)(Q:VK)(E:XK):Prop
 | mk (x:Addr) (m:Nat) (ds:List Dee) (ls:List Loo) (n:Str) (c0:vs=[.ref x,.str n]) (c1:ChAt C H x m ds ls) (c2:(ds.map Dee.name++ls.map Loo.name).Nodup) (c3:(False\/∃l∈ls,l.name=n/\∀v,PaV H v l->Q v H)):spAnswerSets C vs H Q E
abbrev Zmd:List Str:=["outs", "some"]
abbrev nLedTo:List Str:=["outs", "some", "made", "world"]
theorem scLedTo:FnScope nLedTo Zmd (Zaf Zkh):=Zav
abbrev Zh6:List Str:=["self", "name"]
abbrev nDoable:List Str:=["self", "name"]
theorem scDoable:FnScope nDoable Zh6 (Zaf Zjv):=Zav
abbrev Zc3:List Str:=["self", "name"]
abbrev nAnswerSets:List Str:=["self", "name"]
theorem scAnswerSets:FnScope nAnswerSets Zc3 (Zaf Zd4):=Zav
theorem f6_doable {m:Int}{p o a q d:Addr}:(f6 m p o a q d).lookup ("told_doable" : Str)=some (.ref d):=by
 unfold f6
 rw[Zai,if_pos rfl]
theorem f6_parts {m:Int}{p o a q d:Addr}:(f6 m p o a q d).lookup ("told_parts" : Str)=some (.ref q):=by
 unfold f6 f5
 rw[Zai,if_neg (by decide +kernel),Zai,if_pos rfl]
theorem Zlh (ds:List Dee)(ls:List Loo):(doOf ds ls).map (λs=>s.1)=ds.map Dee.name++ls.map Loo.name:=by
 unfold doOf
 rw[map_append,map_map,map_map]
 rfl
theorem ok_ledto {f:Addr}{fd:FuncData}(F:Fun K "led_to" "led_to" Zkh f fd)(C_worlds_of:Ca P w K mg base CX0 1 "worlds_of" Zci Zel spWof):FnOk P w K mg base CX0 2 f fd Zmd spLedTo:=by
 refine F.oq scLedTo λcdv A outer s H vs Q E hr1 h=>?_
 obtain⟨t,s,m,d,rfl,ht,dl,m2,hs,q⟩:=h
 refine⟨_,(Zac (Zaw (i:=2) scLedTo.nd Zae)
  (Zac (Zbh PassesOwn.never rfl (Za4 (Zaq C_worlds_of hr1 Zak (Zaa (pv 1) Zab))) (Za3 (i:=3) scLedTo.nd)
   (Zag (Zaw (i:=2) scLedTo.nd (Zau Zh7 (pv 2) (Zas Zat (pv 0) (pv 3) (λ_ _=>rfl))))))
  (Zag (Zam (pv 2))))),?_⟩
 refine⟨_,rfl,s,rfl,Ze3 hs m2,λl H1 s1 hl e1=>⟨l,rfl,⟨_,SqL.of e1⟩,?_⟩⟩
 have hl1:((wl s).map V.int).length=(wl s).length:=length_map ..
 refine Zbc (K:=K) (a:=l) (xs:=(wl s).map V.int) (λi σ H2=>∃(v3:Option V),σ = [some (.ref t),some (.int (s:Int)),some (.int ((bt (((wl s).take i).flatMap (lead (.did d))):Nat):Int)),v3]/\H2=H1)
  ⟨none,rfl,rfl⟩ (λi σ H2 _ hh0=>by obtain⟨_,_,z⟩:=hh0;rw[z];exact SqL.of e1) ?_ ?_
 ·rintro i v σ H2 hv ⟨v3,rfl,rfl⟩
  have hi:i<(wl s).length:=by
   have:=(List.getElem?_eq_some_iff.mp hv).1
   lia
  have hw:(wl s)[i]? = some (wl s)[i]:=getElem?_eq_getElem hi
  have hv':v=.int (wl s)[i]:=by
   rw[getElem?_map,hw]at hv
   exact(Option.some.inj hv).symm
  subst hv'
  obtain⟨w0,w1⟩:=Zft hs (getElem_mem hi)
  have htk:(wl s).take (i+1)=(wl s).take i++[(wl s)[i]]:=take_succ_eq_append_getElem hi
  generalize (wl s)[i]=wv at hw w0 w1 htk
  obtain⟨j,rfl⟩:∃j:Nat,(j:Int)=wv:=⟨wv.toNat,toNat_of_nonneg w0⟩
  have hj:j<d.tab.length:=by lia
  have hat:atI (d.tab.map λn=>V.int (bt n:Nat)) (j:Int)=some (.int (bt d.tab[j]:Nat)):=Zal (by rw[getElem?_map,getElem?_eq_getElem hj];rfl)
  refine⟨_,rfl,_,rfl,_,rfl,t,_,_,_,rfl,rfl,SqT.of (s1 _ _ ht),hat,_,_,rfl,rfl,some (.int (j:Int)),?_,rfl⟩
  have hld:lead (.did d) (j:Int)=d.tab[j]:=by
   show d.tab.getD ((j:Int)).toNat []=_
   rw[toNat_natCast,getD_eq_getElem?_getD,getElem?_eq_getElem hj]
   rfl
  rw[htk,List.flatMap_append,bt_app,<- Zda]
  simp only[List.flatMap_cons,List.flatMap_nil,append_nil,hld]
  rfl
 rintro σ H2 ⟨v3,rfl,rfl⟩
 rw[hl1,take_length]
 exact⟨_,rfl,q H2 s1⟩
theorem ok_without {f:Addr}{fd:FuncData}(F:Fun K "without" "without" Zfo f fd):FnOk P w K mg base CX0 1 f fd Zhx spOut:=by
 refine F.oq scWithout λcdv A outer s H vs Q E hr h=>?_
 obtain⟨i,j,rfl,q⟩:=h
 refine⟨_,(Zag (Zam (Zau op_xor (pv 0) (Zau Zfg (pv 0) (pv 1))))),?_⟩
 exact⟨_,rfl,_,rfl,_,rfl,_,_,rfl,rfl,_,_,rfl,rfl,q⟩
theorem ok_doableM {f C f1':Addr}{fd d_check_step:FuncData}(F:Fun K "doable" "Chart.doable" Zjv f fd)(L:Cl K C)(b_check_step:Binds K d_check_step ["self", "name"] [])(m_check_step:Meth K C "check_step" f1')(G_check_step:FnOk P w K mg base CX0 1 f1' d_check_step Ze0 (spCheckStep C)):FnOk P w K mg base CX0 2 f fd Zh6 (spDoableM C):=by
 refine F.oq scDoable λcdv A outer s H vs Q E hr1 h=>?_
 obtain⟨x,m,ds,ls,n,rfl,R,nd,q⟩:=h
 have hu:=Zfk hr1
 have R0:=R
 obtain⟨dx,p,o,a,q',d,kp,ko,ka,kq,kd,o1,o2,h1,h2,h3,h4,h5,h6,k1,k2,k3,k4,k5⟩:=R.ex
 refine⟨_,(Zac (Zaz (Zcb (pv 0) L.cl m_check_step G_check_step hr1 b_check_step .nil Zak (Zaa (pv 1) Zab)))
  (Zag (Zam (Zjz hu (Zbm (pv 0) rfl) (pv 1) (λ_ _=>rfl))))),?_⟩
 refine⟨_,rfl,x,dx,_,rfl,h1,Ze8 (by decide +kernel),_,rfl,x,m,ds,ls,n,rfl,R0,nd,?_⟩
 rcases q with q | ⟨sp,hsm,rfl,q⟩
 ·exact q.elim
 refine .inr ⟨by rw[<- Zlh];exact mem_map.mpr ⟨sp,hsm,rfl⟩,?_⟩
 obtain⟨v,hv,rfl⟩:=k5.val (by rw[Zlh];exact nd) hsm
 have dg:DGet H d (.str sp.1) (some (.int (sp.2:Int))):=.inl ⟨kd,(Sum.inr sp.1:Key),.inl h6,rfl,hv.symm⟩
 exact⟨_,rfl,x,C,dx,_,_,rfl,h1,L.cl,L.n6,f6_doable,_,rfl,d,_,rfl,dg,q⟩
theorem ok_answersets {f C f1':Addr}{fd d_check_look:FuncData}(F:Fun K "answer_sets" "Chart.answer_sets" Zd4 f fd)(L:Cl K C)(b_check_look:Binds K d_check_look ["self", "name"] [])(m_check_look:Meth K C "check_look" f1')(G_check_look:FnOk P w K mg base CX0 1 f1' d_check_look Zdo (spCheckLook C)):FnOk P w K mg base CX0 2 f fd Zc3 (spAnswerSets C):=by
 refine F.oq scAnswerSets λcdv A outer s H vs Q E hr1 h=>?_
 obtain⟨x,m,ds,ls,n,rfl,R,nd,q⟩:=h
 have hu:=Zfk hr1
 have R0:=R
 obtain⟨dx,p,o,a,q',d,kp,ko,ka,kq,kd,o1,o2,h1,h2,h3,h4,h5,h6,k1,k2,k3,k4,k5⟩:=R.ex
 refine⟨_,(Zac (Zaz (Zcb (pv 0) L.cl m_check_look G_check_look hr1 b_check_look .nil Zak (Zaa (pv 1) Zab)))
  (Zag (Zam (Zjz hu (Zbm (pv 0) rfl) (pv 1) (λ_ _=>rfl))))),?_⟩
 refine⟨_,rfl,x,dx,_,rfl,h1,Ze8 (by decide +kernel),_,rfl,x,m,ds,ls,n,rfl,R0,nd,?_⟩
 rcases q with q | ⟨l,hlm,rfl,q⟩
 ·exact q.elim
 refine .inr ⟨mem_map.mpr ⟨l,hlm,rfl⟩,?_⟩
 obtain⟨v,hv,pv⟩:=k4.val (nodup_append.mp nd).2.1 hlm
 have dg:DGet H q' (.str l.name) (some v):=.inl ⟨kq,(Sum.inr l.name:Key),.inl h5,rfl,hv.symm⟩
 exact⟨_,rfl,x,C,dx,_,_,rfl,h1,L.cl,L.n5,f6_parts,_,rfl,q',_,rfl,dg,q v pv⟩
theorem ok_leastof {f:Addr}{fd:FuncData}(F:Fun K "least_of" "least_of" Zfp f fd)(T:Bl mg)(C_worlds_of:Ca P w K mg base CX0 1 "worlds_of" Zci Zel spWof):FnOk P w K mg base CX0 2 f fd Zh0 spLeast:=by
 refine F.oq scLeastOf λcdv A outer s H vs Q E hr1 h=>?_
 obtain⟨m,rfl,hm,q⟩:=h
 refine⟨_,(Zac (Zaw (i:=1) scLeastOf.nd (Zaq C_worlds_of hr1 Zak (Zaa (pv 0) Zab)))
  (Zag (Zam (Zfr (Zao Zmo (Zap Za8 (by rfl) T.len PySem.boot_len (Zaa (pv 1) Zab)) Zae (Zar _)) (Zas Zbj (pv 1) Zae (λ_ _=>rfl)) Zbz)))),?_⟩
 refine⟨_,rfl,m,rfl,hm,λl H1 s1 hl e1=>?_⟩
 have e2:((wl m).map V.int).length=(wl m).length:=length_map ..
 have q1:=q H1 s1
 refine⟨_,rfl,_,_,rfl,.inl ⟨_,SqL.of e1,rfl⟩,_,_,rfl,rfl,_,rfl,?_⟩
 rw[e2]
 cases hw:wl m with
 | nil=>
  rw[hw]at q1
  exact Zor (by decide) q1
 | cons n r=>
  rw[hw]at q1 e1
  have hat:atI ((n::r).map V.int) ((0:Nat):Int)=some (.int n):=Zal rfl
  exact Zoq (decide_eq_true (by rw[length_cons];lia)) ⟨_,rfl,l,_,_,_,rfl,rfl,SqL.of e1,hat,q1⟩
theorem ok_within {f:Addr}{fd:FuncData}(F:Fun K "within" "within" Zhn f fd):FnOk P w K mg base CX0 1 f fd Zj0 spIn:=by
 refine F.oq scWithin λcdv A outer s H vs Q E hr h=>?_
 obtain⟨i,j,rfl,q⟩:=h
 refine⟨_,(Zag (Zam (Zmb Zbt (Zau Zfg (pv 0) (pv 1)) (pv 0) (Zar _)))),?_⟩
 exact⟨_,rfl,_,rfl,_,_,rfl,rfl,_,rfl,rfl,q⟩
def bd (t s:Nat):List Int:=(wl s).filter λw=>!t.testBit w.toNat
theorem in_bd {s t:Nat}:decide (V.int (Builtin.bitAnd (s:Int) (t:Int))=V.int (s:Int))=decide (bd t s=[]):=by
 rw[Zdc,Bool.eq_iff_iff,decide_eq_true_eq,decide_eq_true_eq]
 unfold bd
 rw[filter_eq_nil_iff]
 constructor
 ·intro e n hn z
  have e2:s&&&t=s:=ofNat.inj (V.int.inj e)
  obtain⟨_,hb⟩:=wl_mem.mp hn
  rw[<- e2,testBit_and,and_eq_true]at hb
  rw[hb.2]at z
  cases z
 intro e
 have e2:s&&&t=s:=eq_of_testBit_eq λi=>by
  rw[testBit_and]
  cases hb:s.testBit i with
  | false=>rfl
  | true=>
   have:=e (i:Int) (wl_mem.mpr ⟨by lia,by rw[toNat_natCast];exact hb⟩)
   rw[toNat_natCast]at this
   cases ht:t.testBit i with
   | true=>rfl
   | false=>rw[ht]at this;exact absurd rfl this
 rw[e2]
def bdD (d:Dee)(s:Nat):List Int:=(wl s).filter λw=>decide (d.tab[w.toNat]? = some [])
def bdL (l:Loo)(s:Nat):List Int:=(wl s).filter λw=>decide (l.tab[w.toNat]? = some none)
theorem Znd {m:Nat}{d:Dee}{s:Nat}(hl:d.tab.length=m)(hs:s<2^m):bd (bt (doI (λn=>decide (bt n≠0)) d.tab)) s=bdD d s:=by
 unfold bd bdD
 refine filter_congr λw hw=>?_
 obtain⟨w0,w1⟩:=Zft hs hw
 have hi:w.toNat<d.tab.length:=by lia
 rw[Zif,getElem?_eq_getElem hi]
 show(!decide (bt d.tab[w.toNat]≠0))=_
 rw[Bool.eq_iff_iff]
 simp only[not_eq_true',decide_eq_false_iff_not,decide_eq_true_eq,Option.some.injEq]
 constructor
 ·intro z
  have z':bt d.tab[w.toNat]=0:=Decidable.not_not.mp z
  cases e:d.tab[w.toNat]with
  | nil=>rfl
  | cons a r=>
   exfalso
   rw[e]at z'
   have b:=Zcp (a::r) a.toNat
   rw[z',zero_testBit]at b
   simp at b
 intro z e
 rw[z]at e
 exact e rfl
theorem Znc {m:Nat}{l:Loo}{s:Nat}(hl:l.tab.length=m)(hs:s<2^m):bd (bt (doI isSome l.tab)) s=bdL l s:=by
 unfold bd bdL
 refine filter_congr λw hw=>?_
 obtain⟨w0,w1⟩:=Zft hs hw
 have hi:w.toNat<l.tab.length:=by lia
 rw[Zif,getElem?_eq_getElem hi]
 show(!l.tab[w.toNat].isSome)=_
 cases l.tab[w.toNat] <;> simp
theorem Zns {m:Nat}{ds:List Dee}{ls:List Loo}{as:List Str}(ok:ChOk m ds ls as){st:Str×Nat}(h:st∈doOf ds ls):st.2<2^200:=by
 have m2:=ok.m2
 rcases(mem_append.mp h)with z | z
 ·obtain⟨d,hd,rfl⟩:=mem_map.mp z
  have hl:=(ok.de d hd).len
  refine lt_pow_two_of_testBit _ λi hi=>?_
  show(bt (doI _ d.tab)).testBit i=false
  rw[Zif,getElem?_eq_none (by lia)]
  rfl
 obtain⟨d,hd,rfl⟩:=mem_map.mp z
 have hl:=ok.lo d hd
 refine lt_pow_two_of_testBit _ λi hi=>?_
 show(bt (doI _ d.tab)).testBit i=false
 rw[Zif,getElem?_eq_none (by lia)]
 rfl
inductive spCanDo (C:Addr)(vs:List V)(H:Hp)(Q:VK)(E:XK):Prop
 | mk (x:Addr) (m:Nat) (ds:List Dee) (ls:List Loo) (n:Str) (s:Nat) (c0:vs=[.ref x,.str n,.int (s:Int)]) (c1:ChAt C H x m ds ls) (c2:(ds.map Dee.name++ls.map Loo.name).Nodup) (c3:(False\/∃st∈doOf ds ls,st.1=n/\Q (.bl (decide (bd st.2 s=[]))) H)):spCanDo C vs H Q E
inductive spCheckCan (C:Addr)(vs:List V)(H:Hp)(Q:VK)(E:XK):Prop
 | mk (x:Addr) (m:Nat) (ds:List Dee) (ls:List Loo) (n:Str) (s:Nat) (st:Str×Nat) (c0:vs=[.ref x,.str n,.int (s:Int)]) (c1:ChAt C H x m ds ls) (c2:(ds.map Dee.name++ls.map Loo.name).Nodup) (c3:s<2^200) (c4:st∈doOf ds ls) (c5:st.1=n) (c6:st.2<2^200) (c7:Rp n) (c8:((bd st.2 s=[]/\Q .non H)\/False)):spCheckCan C vs H Q E
inductive spAfter (C:Addr)(vs:List V)(H:Hp)(Q:VK)(E:XK):Prop
 | mk (x:Addr) (m:Nat) (ds:List Dee) (ls:List Loo) (as:List Str) (n:Str) (s:Nat) (c0:vs=[.ref x,.str n,.int (s:Int)]) (c1:ChAt C H x m ds ls) (c2:ChOk m ds ls as) (c3:s<2^m) (c4:(False \/   ∃d∈ds,d.name=n/\Rp n/\((bdD d s=[]/\∀H':Hp,Same H H'->Q (.int (Zg0 (.did d) s:Nat)) H')\/False))):spAfter C vs H Q E
abbrev Zml:List Str:=["chart", "name", "some"]
abbrev nCanDo:List Str:=["chart", "name", "some"]
theorem scCanDo:FnScope nCanDo Zml (Zaf Zko):=Zav
abbrev Zen:List Str:=["chart", "name", "some"]
abbrev nCheckCan:List Str:=["chart", "name", "some"]
theorem scCheckCan:FnScope nCheckCan Zen (Zaf Zc9):=Zav
abbrev Zmm:List Str:=["chart", "name", "some"]
abbrev nAfter:List Str:=["chart", "name", "some", "outs"]
theorem scAfter:FnScope nAfter Zmm (Zaf Zkp):=Zav
theorem ok_cando {f C f2:Addr}{fd d2:FuncData}(F:Fun K "can_do" "can_do" Zko f fd)(L:Cl K C)(C_within:Ca P w K mg base CX0 1 "within" Zhn Zj0 spIn)(b_doable:Binds K d2 ["self", "name"] [])(m_doable:Meth K C "doable" f2)(G_doable:FnOk P w K mg base CX0 2 f2 d2 Zh6 (spDoableM C)):FnOk P w K mg base CX0 3 f fd Zml (spCanDo C):=by
 refine F.oq scCanDo λcdv A outer s0 H vs Q E hr2 h=>?_
 obtain⟨x,m,ds,ls,n,s,rfl,R,nd,q⟩:=h
 have hr1:Room 1 _:=hr2.mono (by decide)
 have R0:=R
 obtain⟨dx,p,o,a,q',d,kp,ko,ka,kq,kd,o1,o2,h1,_⟩:=R.ex
 refine⟨_,(Zag (Zam (Zaq C_within hr1 Zak (Zaa (pv 2) (Zaa (Zcb (pv 0) L.cl m_doable G_doable hr2 b_doable .nil Zak (Zaa (pv 1) Zab)) Zab))))),?_⟩
 refine⟨_,rfl,_,rfl,x,dx,_,rfl,h1,Ze8 (by decide +kernel),_,rfl,x,m,ds,ls,n,rfl,R0,nd,?_⟩
 rcases q with q | ⟨st,hst,e,q⟩
 ·exact q.elim
 refine .inr ⟨st,hst,e,_,_,rfl,?_⟩
 rw[in_bd]
 exact q
theorem ok_checkcan {f C:Addr}{fd:FuncData}(F:Fun K "check_can" "check_can" Zc9 f fd)(C_can_do:Ca P w K mg base CX0 3 "can_do" Zko Zml (spCanDo C)):FnOk P w K mg base CX0 4 f fd Zen (spCheckCan C):=by
 refine F.oq scCheckCan λcdv A outer s0 H vs Q E hr3 h=>?_
 obtain⟨x,m,ds,ls,n,s,st,rfl,R,nd,hs,hst,e,ht,rp,q⟩:=h
 refine⟨_,(Zag (Za2 (Zc4 (Zby (Zaq C_can_do hr3 Zak (Zaa (pv 0) (Zaa (pv 1) (Zaa (pv 2) Zab)))))) Zba Zan)),?_⟩
 refine⟨_,rfl,_,rfl,_,rfl,x,m,ds,ls,n,s,rfl,R,nd,.inr ⟨st,hst,e,⟨_,rfl,?_⟩⟩⟩
 rcases q with⟨hb,q⟩ | q
 ·rw[hb]
  refine iteF ?_
  try unfold tNext
  exact q
 exact q.elim
theorem ok_after {f C f1:Addr}{fd d1:FuncData}(F:Fun K "after" "after" Zkp f fd)(L:Cl K C)(b_out_sets:Binds K d1 ["self", "name"] [])(m_out_sets:Meth K C "out_sets" f1)(G_out_sets:FnOk P w K mg base CX0 2 f1 d1 Zhz (spOutSets C))
  (C_check_can:Ca P w K mg base CX0 4 "check_can" Zc9 Zen (spCheckCan C))(C_led_to:Ca P w K mg base CX0 2 "led_to" Zkh Zmd spLedTo):FnOk P w K mg base CX0 5 f fd Zmm (spAfter C):=by
 refine F.oq scAfter λcdv A outer s0 H vs Q E hr4 h=>?_
 obtain⟨x,m,ds,ls,as,n,s,rfl,R,ok,hs,q⟩:=h
 have hr2:Room 2 _:=hr4.mono (by decide)
 have R0:=R
 obtain⟨dx,p,o,a,q',d,kp,ko,ka,kq,kd,o1,o2,h1,_⟩:=R.ex
 refine⟨_,(Zac (Zaw (i:=3) scAfter.nd (Zcb (pv 0) L.cl m_out_sets G_out_sets hr2 b_out_sets .nil Zak (Zaa (pv 1) Zab)))
  (Zac (Zaz (Zaq C_check_can hr4 Zak (Zaa (pv 0) (Zaa (pv 1) (Zaa (pv 2) Zab)))))
  (Zag (Zam (Zaq C_led_to hr2 Zak (Zaa (pv 3) (Zaa (pv 2) Zab))))))),?_⟩
 refine⟨_,rfl,x,dx,_,rfl,h1,Ze8 (by decide +kernel),_,rfl,x,m,ds,ls,n,rfl,R0,ok.nd,?_⟩
 rcases q with q | ⟨de,hde,e,rp,q⟩
 ·exact q.elim
 refine .inr ⟨de,hde,e,λt ht=>?_⟩
 have m2:=ok.m2
 have hl:=(ok.de de hde).len
 have hst:(de.name,bt (doI (λn=>decide (bt n≠0)) de.tab))∈doOf ds ls:=mem_append_left _ (mem_map.mpr ⟨de,hde,rfl⟩)
 refine⟨_,rfl,_,rfl,_,rfl,x,m,ds,ls,n,s,_,rfl,R0,ok.nd,Ze3 hs m2,hst,e,Zns ok hst,rp,?_⟩
 rw[Znd hl hs]
 rcases q with⟨hb,q⟩ | q
 ·refine .inl ⟨hb,?_⟩
  exact⟨_,rfl,_,rfl,t,s,m,de,rfl,ht,hl,m2,hs,q⟩
 exact q.elim
structure Lx (H:Hp)(l1 l2:Addr)(us ws:List V)(ds:List Dee)(ls:List Loo)(m:Nat):Prop where
 h1:H l1=some (.lst us)
 h2:H l2=some (.lst ws)
 hd:A2 (DeV H) us ds
 hl:A2 (LoV H) ws ls
 nd:(ds.map Dee.name++ls.map Loo.name).Nodup
 de:∀d∈ds,DeOk m d
 lo:∀l∈ls,l.tab.length=m
 c1:ds.length<=3
 c2:ls.length<=2
 db:∀d∈ds,Lb d.name
 lb:∀l∈ls,Lb l.name
 ab:∀l∈ls,∀s,some s∈l.tab->Lb s
 m1:1<=m
 m2:m<=200
theorem Lx.same {H H':Hp}{l1 l2:Addr}{us ws:List V}{ds:List Dee}{ls:List Loo}{m:Nat}(h:Lx H l1 l2 us ws ds ls m)(s:Same H H'):Lx H' l1 l2 us ws ds ls m:=
 ⟨s _ _ h.h1,s _ _ h.h2,h.hd.mono λv t _ q=>q.same s,h.hl.mono λv t _ q=>q.same s,h.nd,h.de,h.lo,h.c1,h.c2,h.db,h.lb,h.ab,h.m1,h.m2⟩
structure StL (H:Hp)(us:List V)(nms:List Str)(tb:Nat->Addr):Prop where
 len:us.length=nms.length
 got:∀(i:Nat) v n,us[i]? = some v->nms[i]? = some n->∃p,StV H v n p (tb i)
theorem Zig {H:Hp}{us:List V}{ds:List Dee}(h:A2 (DeV H) us ds):∃tb:Nat->Addr,StL H us (ds.map Dee.name) tb/\∀(i:Nat) d,ds[i]? = some d->∃es,H (tb i)=some (.lst es)/\A2 (EnV H) es d.tab:=by
 have ex:∀i:Nat,∃t:Addr,∀v d,us[i]? = some v->ds[i]? = some d->(∃p,StV H v d.name p t)/\∃es,H t=some (.lst es)/\A2 (EnV H) es d.tab:=λi=>by
  cases hv:us[i]? with
  | none=>exact⟨0,λv d e=>by cases e⟩
  | some v=>
   obtain⟨d,hd,_,t,es,st,ht,he⟩:=h.at hv
   refine⟨t,λv' d' e1 e2=>?_⟩
   cases e1
   rw[hd]at e2
   cases e2
   exact⟨⟨_,st⟩,es,ht,he⟩
 refine⟨λi=>Classical.choose (ex i),⟨by rw[length_map];exact h.len,λi v n h1 h2=>?_⟩,λi d hd=>?_⟩
 ·rw[getElem?_map]at h2
  obtain⟨d,hd,e⟩:=map_eq_some_iff.mp h2
  subst e
  exact(Classical.choose_spec (ex i) v d h1 hd).1
 have hl:=(List.getElem?_eq_some_iff.mp hd).1
 have hl2:i<us.length:=by rw[h.len];exact hl
 exact(Classical.choose_spec (ex i) _ d (getElem?_eq_getElem hl2) hd).2
theorem Zk9 {H:Hp}{us:List V}{ds:List Loo}(h:A2 (LoV H) us ds):∃tb:Nat->Addr,StL H us (ds.map Loo.name) tb/\∀(i:Nat) d,ds[i]? = some d->H (tb i)=some (.lst (d.tab.map oS)):=by
 have ex:∀i:Nat,∃t:Addr,∀v d,us[i]? = some v->ds[i]? = some d->(∃p,StV H v d.name p t)/\H t=some (.lst (d.tab.map oS)):=λi=>by
  cases hv:us[i]? with
  | none=>exact⟨0,λv d e=>by cases e⟩
  | some v=>
   obtain⟨d,hd,_,t,st,ht⟩:=h.at hv
   refine⟨t,λv' d' e1 e2=>?_⟩
   cases e1
   rw[hd]at e2
   cases e2
   exact⟨⟨_,st⟩,ht⟩
 refine⟨λi=>Classical.choose (ex i),⟨by rw[length_map];exact h.len,λi v n h1 h2=>?_⟩,λi d hd=>?_⟩
 ·rw[getElem?_map]at h2
  obtain⟨d,hd,e⟩:=map_eq_some_iff.mp h2
  subst e
  exact(Classical.choose_spec (ex i) v d h1 hd).1
 have hl:=(List.getElem?_eq_some_iff.mp hd).1
 have hl2:i<us.length:=by rw[h.len];exact hl
 exact(Classical.choose_spec (ex i) _ d (getElem?_eq_getElem hl2) hd).2
inductive spTable (vs:List V)(H:Hp)(Q:VK)(E0_:XK):Prop
 | mk (a:Addr) (us:List V) (n:Str) (nms:List Str) (tb:Nat->Addr) (c0:vs=[.ref a,.str n]) (c1:H a=some (.lst us)) (c2:StL H us nms tb) (c3:((n∉nms/\Q .non H)\/∃j,nms[j]? = some n/\nms.Nodup/\Q (.ref (tb j)) H)):spTable  vs H Q E0_
abbrev Zd5:List Str:=["_law_steps", "_law_name"]
abbrev nLTable:List Str:=["_law_steps", "_law_name", "_law_step"]
theorem scLTable:FnScope nLTable Zd5 (Zaf Zd0):=Zav
theorem sh_str {x:Str}(h:strOk x=true):shaped (.str x)=true:=by
 unfold shaped
 rw[PyData.canLay0,PyData.depth,h]
 rfl
theorem sh_non:shaped .none=true:=by
 unfold shaped
 rw[PyData.canLay0,PyData.depth]
 rfl
theorem eqv_e (n:Int)(r:List Int):PyData.eqv (.list ((n::r).map PyData.int)) (.list (([]:List Int).map PyData.int))=false:=by simp[PyData.eqv,PyData.eqvAll]
theorem eqv_se (x:Str):PyData.eqv (.str x) (.list (([]:List Int).map PyData.int))=false:=by simp[PyData.eqv]
theorem eqv_ne:PyData.eqv .none (.list (([]:List Int).map PyData.int))=false:=by simp[PyData.eqv]
theorem ch_ok {H H':Hp}{ns:List Int}{m i j:Nat}{us ws:List V}{ds:List Dee}{ls:List Loo}(d:DDs H ns m us ds i)(l:LLs H' ns m ws ls j)(hi:i<=3)(hj:j<=2)(m1:1<=m)(m2:m<=200):ChOk m ds ls (pqrL.map (wdS ns 3)):=by
 have dl:=d.dl
 have ll:=l.ll
 refine⟨m1,m2,by lia,by lia,?_,d.so,l.sl,d.de,l.lo,l.an,by rw[length_map];decide,Zik (by decide)⟩
 rw[d.nm,l.nm,<- map_append]
 refine Zik ?_
 have h:(abcL++deL).Nodup:=by decide
 exact List.Sublist.nodup (List.Sublist.append (take_sublist _ _) (take_sublist _ _)) h
theorem lx_of {H:Hp}{ns:List Int}{l1 l2:Addr}{m i j:Nat}{us ws:List V}{ds:List Dee}{ls:List Loo}(h1:H l1=some (.lst us))(h2:H l2=some (.lst ws))(d:DDs H ns m us ds i)(l:LLs H ns m ws ls j)(hi:i<=3)(hj:j<=2)(m1:1<=m)(m2:m<=200):Lx H l1 l2 us ws ds ls m:=by
 have dl:=d.dl
 have ll:=l.ll
 refine⟨h1,h2,d.hd,l.hl,(ch_ok d l hi hj m1 m2).nd,d.de,l.lo,by lia,by lia,λx hx=>?_,λx hx=>?_,λx hx s hs=>?_,m1,m2⟩
 ·have:x.name∈(abcL.take i).map (wdS ns 2):=by rw[<- d.nm];exact mem_map.mpr ⟨x,hx,rfl⟩
  obtain⟨c,hc,e⟩:=mem_map.mp this
  rw[<- e]
  exact Zg2 ns 2 (Zol c (mem_of_mem_take hc))
 ·have:x.name∈(deL.take j).map (wdS ns 2):=by rw[<- l.nm];exact mem_map.mpr ⟨x,hx,rfl⟩
  obtain⟨c,hc,e⟩:=mem_map.mp this
  rw[<- e]
  exact Zg2 ns 2 (de_lt c (mem_of_mem_take hc))
 obtain⟨c,hc,e⟩:=mem_map.mp (l.an x hx s hs)
 rw[<- e]
 exact Zg2 ns 3 (Zn3 c hc)
def msk (s:Nat)(tab:List (Option Str)):List (Option Str):=(List.range tab.length).map λj=>if s.testBit j=true then tab.getD j none else none
theorem msk_len (s:Nat)(tab:List (Option Str)):(msk s tab).length=tab.length:=by unfold msk;rw[length_map,length_range]
theorem msk_get {s:Nat}{tab:List (Option Str)}{j:Nat}(hj:j<tab.length):(msk s tab)[j]? = some (if s.testBit j=true then tab.getD j none else none):=by
 unfold msk
 rw[getElem?_map,List.getElem?_range hj]
 rfl
theorem msk_at {s:Nat}{tab:List (Option Str)}{j:Nat}{z:Str}:(msk s tab)[j]? = some (some z)↔s.testBit j=true/\tab[j]? = some (some z):=by
 rcases lt_or_ge j tab.length with hj | hj
 ·rw[msk_get hj,getD_eq_getElem?_getD,getElem?_eq_getElem hj]
  by_cases hb:s.testBit j=true
  ·rw[if_pos hb]
   simp[hb]
  rw[if_neg hb]
  simp[hb]
 rw[getElem?_eq_none (by rw[msk_len];exact hj),getElem?_eq_none hj]
 simp
theorem msk_bit (s:Nat)(tab:List (Option Str))(z:Str):bt (ixs (msk s tab) z)=s&&&bt (ixs tab z):=by
 refine eq_of_testBit_eq λi=>?_
 rw[testBit_and,Ze5,Ze5,Bool.eq_iff_iff,decide_eq_true_eq,msk_at,and_eq_true,decide_eq_true_eq]
theorem msk_has {s:Nat}{tab:List (Option Str)}{z:Str}:some z∈msk s tab↔s&&&bt (ixs tab z)≠0:=by
 rw[<- msk_bit]
 constructor
 ·intro h e
  obtain⟨j,hj⟩:=getElem?_of_mem h
  have b:=Ze5 (msk s tab) z j
  rw[e,zero_testBit,decide_eq_true hj]at b
  cases b
 intro h
 refine Decidable.byContradiction λno=>h (eq_of_testBit_eq λi=>?_)
 rw[Ze5,zero_testBit,decide_eq_false λe=>no (mem_of_getElem? e)]
def Ri (xs:List Str):Prop:=xs.Pairwise λa b=>a.cps.toList<b.cps.toList
theorem Ri.nd {xs:List Str}(h:Ri xs):xs.Nodup:=h.imp λl e=>by rw[e]at l;exact List.lt_irrefl _ l
theorem ri_cons {x y:Str}{r:List Str}(h:x.cps.toList<y.cps.toList)(hr:Ri (y::r)):Ri (x::y::r):=by
 refine pairwise_cons.mpr ⟨λz hz=>?_,hr⟩
 rcases(mem_cons.mp hz)with e | hz
 ·rw[e];exact h
 exact List.lt_trans h ((pairwise_cons.mp hr).1 z hz)
theorem Ziv:∀{zs:List (Str×V)},ltP zs=true->Ri (zs.map (·.1))
 | [],_=>List.Pairwise.nil
 | [p],_=>pairwise_cons.mpr ⟨λz hz=>(nomatch hz),List.Pairwise.nil⟩
 | p::q::r,h=>by
  unfold ltP at h
  simp only[List.tail_cons,List.zip_cons_cons,List.all_cons,and_eq_true,decide_eq_true_eq]at h
  refine ri_cons h.1 (Ziv (zs:=q::r) ?_)
  unfold ltP
  exact h.2
structure QrAt (H:Hp)(ts:List Addr)(qs:List (Str×Nat)):Prop where
 len:ts.length=qs.length
 got:∀(i:Nat) t q,ts[i]? = some t->qs[i]? = some q->H t=some (.tup [.str q.1,.int (q.2:Int)])
theorem QrAt.same {H H':Hp}{ts:List Addr}{qs:List (Str×Nat)}(h:QrAt H ts qs)(s:Same H H'):QrAt H' ts qs:=⟨h.len,λi t q h1 h2=>s _ _ (h.got i t q h1 h2)⟩
theorem QrAt.snoc {H:Hp}{ts:List Addr}{qs:List (Str×Nat)}{t:Addr}{q:Str×Nat}(h:QrAt H ts qs)(e:H t=some (.tup [.str q.1,.int (q.2:Int)])):QrAt H (ts++[t]) (qs++[q]):=by
 refine⟨by rw[length_append,length_append,h.len];rfl,λi t' q' h1 h2=>?_⟩
 by_cases hi:i<ts.length
 ·rw[getElem?_append_left hi]at h1
  rw[getElem?_append_left (by rw[<- h.len];exact hi)]at h2
  exact h.got i t' q' h1 h2
 rw[getElem?_append_right (by lia)]at h1
 rw[getElem?_append_right (by rw[<- h.len];lia),<- h.len]at h2
 cases hk:i-ts.length with
 | zero=>
  rw[hk]at h1 h2
  cases h1
  cases h2
  exact e
 | succ k=>
  rw[hk]at h1
  cases h1
structure PtOf (tab:List (Option Str))(s:Nat)(qs:List (Str×Nat)):Prop where
 ri:Ri (qs.map (·.1))
 mem:∀q,q∈qs↔q.2=s&&&bt (ixs tab q.1)/\q.2≠0
theorem ptOf_zs {tab:List (Option Str)}{s:Nat}{ps zs:List (Str×V)}(pm:zs.Perm ps)(lt:ltP zs=true)(ok:PsOk tab ps):PtOf tab s ((zs.map λp=>(p.1,s&&&bt (ixs tab p.1))).filter λq=>decide (q.2≠0)):=by
 refine⟨?_,λq=>?_⟩
 ·have sub:(((zs.map λp=>(p.1,s&&&bt (ixs tab p.1))).filter λq=>decide (q.2≠0)).map (·.1)).Sublist (zs.map (·.1)):=by
   have h1:((zs.map λp=>(p.1,s&&&bt (ixs tab p.1))).map (·.1))=zs.map (·.1):=by rw[map_map];rfl
   rw[<- h1]
   exact List.Sublist.map _ List.filter_sublist
  exact List.Pairwise.sublist sub (Ziv lt)
 rw[mem_filter,decide_eq_true_eq]
 constructor
 ·rintro⟨hq,n⟩
  (obtain⟨p,hp,rfl⟩:=mem_map.mp hq)
  exact⟨rfl,n⟩
 rintro⟨e,n⟩
 refine⟨?_,n⟩
 have has:some q.1∈msk s tab:=msk_has.mpr (by rw[<- e];exact n)
 obtain⟨j,hj⟩:=getElem?_of_mem has
 have hz:=(ok.has q.1).mp (mem_of_getElem? (msk_at.mp hj).2)
 obtain⟨p,hp,e2⟩:=mem_map.mp hz
 exact mem_map.mpr ⟨p,pm.mem_iff.mpr hp,by rw[e2,<- e]⟩
theorem flt_at {p:Int->Bool}{xs:List Int}{i:Nat}{w:Int}(h:xs[i]? = some w)(no:(xs.take i).filter p=[])(hp:p w=true):∃r,xs.filter p=w::r:=by
 obtain⟨hi,hw⟩:=List.getElem?_eq_some_iff.mp h
 have e:xs=xs.take i++w::xs.drop (i+1):=by rw[<- hw,<- List.drop_eq_getElem_cons hi,List.take_append_drop]
 refine⟨(xs.drop (i+1)).filter p,?_⟩
 rw[e,filter_append,List.filter_cons,if_pos hp]
 rw[<- e,no]
 rfl
inductive spParts (C:Addr)(vs:List V)(H:Hp)(Q:VK)(E:XK):Prop
 | mk (x:Addr) (m:Nat) (ds:List Dee) (ls:List Loo) (as:List Str) (n:Str) (s:Nat) (c0:vs=[.ref x,.str n,.int (s:Int)]) (c1:ChAt C H x m ds ls) (c2:ChOk m ds ls as) (c3:s<2^m) (c4:(False \/   ∃l∈ls,l.name=n/\Rp n/\((bdL l s=[]/\∀(r:Addr) (ts:List Addr) (qs:List (Str×Nat)) (H':Hp),Same H H'->H r=none->H' r=some (.lst (ts.map V.ref))->QrAt H' ts qs->PtOf l.tab s qs->qs.length<=1000->Q (.ref r) H')\/False))):spParts C vs H Q E
abbrev Zmc:List Str:=["chart", "name", "some"]
abbrev nParts:List Str:=["chart", "name", "some", "told"]
theorem scParts:FnScope nParts Zmc (Zaf Zir):=Zav
theorem ok_parts {f C f1:Addr}{fd d1:FuncData}(F:Fun K "parts" "parts" Zir f fd)(L:Cl K C)(b_answer_sets:Binds K d1 ["self", "name"] [])(m_answer_sets:Meth K C "answer_sets" f1)(G_answer_sets:FnOk P w K mg base CX0 2 f1 d1 Zc3 (spAnswerSets C))
  (C_check_can:Ca P w K mg base CX0 4 "check_can" Zc9 Zen (spCheckCan C)):FnOk P w K mg base CX0 5 f fd Zmc (spParts C):=by
 refine F.oq scParts λcdv A outer s0 H vs Q E hr4 h=>?_
 obtain⟨x,m,ds,ls,as,n,s,rfl,R,ok,hs,q⟩:=h
 have hr2:Room 2 _:=hr4.mono (by decide)
 have hsl:sizeLine=16777216:=sizeLine_eq
 have R0:=R
 obtain⟨dx,p,o,a,q',d,kp,ko,ka,kq,kd,o1,o2,h1,_⟩:=R.ex
 refine⟨_,(Zac (Zaw (i:=3) scParts.nd (Zcb (pv 0) L.cl m_answer_sets G_answer_sets hr2 b_answer_sets .nil Zak (Zaa (pv 1) Zab)))
  (Zac (Zaz (Zaq C_check_can hr4 Zak (Zaa (pv 0) (Zaa (pv 1) (Zaa (pv 2) Zab)))))
  (Zag (Zam (Zcw (N:=["answer", "tellers", "some"]) (sc:=Zaf Zir) (own:=["answer", "tellers"]) (fr:=["some"]) (js:=[2]) Zb4 rfl (Zma (pv 3)) (λ_ _ _ _=>Zmu K rfl (Zcm (n:=2) rfl (Zax (Za3 (i:=0) (show List.Nodup (["answer", "tellers", "some"]:List Str) by decide +kernel)) (Zax (Za3 (i:=1) (show List.Nodup (["answer", "tellers", "some"]:List Str) by decide +kernel)) Zbw)))) (λ_ _ _ _=>Zcv (Zao Zh8 (Zau Zfg (pv 2) (pv 1)) Zae (Zar _))) (λ_ _ _ _=>(Zbb (Zaa (pv 0) (Zaa (Zau Zfg (pv 2) (pv 1)) Zab))))))))),?_⟩
 refine⟨_,rfl,x,dx,_,rfl,h1,Ze8 (by decide +kernel),_,rfl,x,m,ds,ls,n,rfl,R0,ok.nd,?_⟩
 rcases q with q | ⟨l,hl,e,rp,q⟩
 ·exact q.elim
 refine .inr ⟨l,hl,e,λv pv=>?_⟩
 have m2:=ok.m2
 have hll:=ok.lo l hl
 have hst:(l.name,bt (doI isSome l.tab))∈doOf ds ls:=mem_append_right _ (mem_map.mpr ⟨l,hl,rfl⟩)
 refine⟨_,rfl,_,rfl,_,rfl,x,m,ds,ls,n,s,_,rfl,R0,ok.nd,Ze3 hs m2,hst,e,Zns ok hst,rp,?_⟩
 rw[Znc hll hs]
 rcases q with⟨hb,q⟩ | q
 ·refine .inl ⟨hb,?_⟩
  obtain⟨r,ro,ts,ps,zs,rfl,d0,hr,hp,pm,lt,po⟩:=pv
  have zl:zs.length<=1000:=by
   have n1:=List.Nodup.length_le_of_subset po.nd (l₂:=as) λy hy=>ok.an l hl y ((po.has y).mpr hy)
   have:=ok.a3
   have:=pm.length_eq
   rw[length_map]at n1
   lia
  have hT:∀H':Hp,Same H H'->SqT K H' r (ts.map V.ref):=λH' s'=>.inl (.inr ⟨ro,s' _ _ hr⟩)
  have tl:(ts.map V.ref).length=zs.length:=by rw[length_map];exact hp.1
  refine⟨_,rfl,r,rfl,⟨_,hT H (Same.refl _)⟩,λD hD=>?_⟩
  refine lcJ2 (K:=K) (n:=(ts.map V.ref).length) (λi ys H2=>∃us:List Addr,ys=us.map V.ref/\QrAt (rm H2 [D]) us (((zs.take i).map λp=>(p.1,s&&&bt (ixs l.tab p.1))).filter λq=>decide (q.2≠0))/\Same H H2/\H2 D=some (.lst ys))
   ⟨[],rfl,⟨rfl,λi t q h=>by cases h⟩,Same.new hD,Zad⟩ (λi ys H2 hi ⟨_,_,_,s2,_⟩=>⟨_,(ts.map V.ref)[i],hT H2 s2,getElem?_eq_getElem hi⟩) (λys H2 hh0=>by obtain⟨_,_,_,s2,_⟩:=hh0;exact⟨_,hT H2 s2,Nat.le_refl _⟩) ?_ ?_
  ·rintro i ys H2 v H3 hi ⟨us,rfl,qr,s2,e2⟩ ⟨rfl,hy⟩
   have hv:=hy _ (hT H3 s2)
   rw[getElem?_map]at hv
   obtain⟨t,ht,rfl⟩:=map_eq_some_iff.mp hv
   have hiz:i<zs.length:=by lia
   have hz:zs[i]? = some zs[i]:=getElem?_eq_getElem hiz
   have et:=hp.2 i t _ ht hz
   rw[po.val _ (pm.mem_iff.mp (getElem_mem hiz))]at et
   have htk:zs.take (i+1)=zs.take i++[zs[i]]:=take_succ_eq_append_getElem hiz
   have qrl:=qr.len
   have fl:(((zs.take i).map λp=>(p.1,s&&&bt (ixs l.tab p.1))).filter λq=>decide (q.2≠0)).length<=zs.length:=by
    refine le_trans (length_filter_le _ _) ?_
    rw[length_map,length_take]
    lia
   refine⟨t,_,_,rfl,SqT.of (s2 _ _ et),?_⟩
   refine⟨_,rfl,_,rfl,_,_,rfl,rfl,rfl,_,rfl,?_⟩
   rw[Zdc]
   by_cases nz:s&&&bt (ixs l.tab zs[i].1)=0
   ·refine ite2 (λz=>absurd z (by rw[nz];decide)) (λ_=>?_)
    refine⟨us,rfl,?_,s2,e2⟩
    rw[htk,map_append,filter_append]
    simp only[map_cons,map_nil,nz]
    rw[show(List.filter (λq:Str×Nat=>decide (q.2≠0)) [(zs[i].1,0)])=[] from rfl,append_nil]
    exact qr
   refine ite2 (λ_=>?_) (λz=>absurd (by simp;lia) z)
   refine⟨_,rfl,_,rfl,_,rfl,_,_,rfl,rfl,by show 2<=sizeLine;lia,λtp htp=>?_⟩
   rw[Zdc]
   have s3:=Same.new (o:=.tup [.str zs[i].1,.int ((s&&&bt (ixs l.tab zs[i].1):Nat):Int)]) htp
   have nD:tp≠D:=(Zah e2 htp).symm
   refine⟨_,s3 _ _ e2,by rw[length_map];lia,us++[tp],by rw[map_append];rfl,?_,(s2.trans s3).put hD,Zad⟩
   rw[htk,map_append,filter_append]
   have one:List.filter (λq:Str×Nat=>decide (q.2≠0)) (List.map (λp=>(p.1,s&&&bt (ixs l.tab p.1))) [zs[i]])=[(zs[i].1,s&&&bt (ixs l.tab zs[i].1))]:=by simp[nz]
   rw[one,Zf9 (by simp)]
   exact(qr.same (Zct s3)).snoc (by rw[Zga (by simpa using nD)];exact Zad)
  rintro ys H2 ⟨us,rfl,qr,s2,e2⟩
  rw[tl,take_length]at qr
  have fl:((zs.map λp=>(p.1,s&&&bt (ixs l.tab p.1))).filter λq=>decide (q.2≠0)).length<=1000:=by
   refine le_trans (length_filter_le _ _) ?_
   rw[length_map]
   exact zl
  exact q D us _ H2 s2 hD e2 (qr.same Zl4) (ptOf_zs pm lt po) fl
 exact q.elim
inductive Pn where
 | stop
 | dd (d:Str) (r:Pn)
 | lk (l:Str) (ws:Pn)
 | nil
 | way (a:Str) (p r:Pn)
abbrev Zdu:Str:=Str.ofString "stop"
def anP:Pn->List Str
 | .way a _ r=>a::anP r
 | _=>[]
def okP:Bool->Pn->Prop
 | true,.stop=>True
 | true,.dd d r=>Lb d/\okP true r
 | true,.lk l ws=>Lb l/\ws≠.nil/\((anP ws).Nodup/\(anP ws).length<=1000)/\okP false ws
 | false,.nil=>True
 | false,.way a p r=>Lb a/\okP true p/\okP false r
 | _,_=>False
def htP:Pn->Nat
 | .stop=>1
 | .dd _ r=>htP r+1
 | .lk _ ws=>htP ws+1
 | .nil=>0
 | .way _ p r=>max (htP p) (htP r)
def szP:Pn->Nat
 | .stop=>1
 | .dd _ r=>szP r+1
 | .lk _ ws=>szP ws+1
 | .nil=>0
 | .way _ p r=>szP p+szP r
def wtP:Pn->Nat
 | .stop=>1
 | .dd _ r=>wtP r+1
 | .lk _ ws=>wtP ws+1
 | .nil=>0
 | .way _ p r=>wtP p+wtP r+1
theorem Zju:∀t:Pn,szP t<=wtP t
 | .stop=>Nat.le_refl _
 | .dd _ r=>Nat.succ_le_succ (Zju r)
 | .lk _ ws=>Nat.succ_le_succ (Zju ws)
 | .nil=>Nat.le_refl _
 | .way _ p r=>by
  have h1:=Zju p
  have h2:=Zju r
  show szP p+szP r<=wtP p+wtP r+1
  lia
abbrev Rw:=Pn×Option Nat×Option Str
def rwsP:Pn->Nat->Option Nat->Option Str->List Rw
 | .stop,_,b,a=>[(.stop,b,a)]
 | .dd d r,n,b,a=>(.dd d r,b,a)::rwsP r (n+1) (some n) none
 | .lk l ws,n,b,a=>(.lk l ws,b,a)::rwsP ws (n+1) (some n) none
 | .nil,_,_,_=>[]
 | .way x p r,n,b,_=>rwsP p n b (some x)++rwsP r (n+szP p) b none
theorem Zca:∀(t:Pn) (n:Nat) (b:Option Nat) (a:Option Str),(rwsP t n b a).length=szP t
 | .stop,_,_,_=>rfl
 | .dd _ r,_,_,_=>congrArg (· + 1) (Zca r _ _ _)
 | .lk _ ws,_,_,_=>congrArg (· + 1) (Zca ws _ _ _)
 | .nil,_,_,_=>rfl
 | .way x p r,n,b,a=>by
  show(rwsP p n b (some x)++rwsP r (n+szP p) b none).length=_
  rw[length_append,Zca p,Zca r]
  rfl
def rstP:List Rw->Nat->List Rw
 | [],_=>[]
 | w::r,n=>rwsP w.1 n w.2.1 w.2.2++rstP r (n+szP w.1)
def kidW:Pn->Nat->List Rw
 | .way a p r,n=>(p,some n,some a)::kidW r n
 | _,_=>[]
def kids:Pn->Nat->List Rw
 | .dd _ r,n=>[(r,some n,none)]
 | .lk _ ws,n=>kidW ws n
 | _,_=>[]
theorem Zkr:∀(ws:Pn) (n m:Nat) (r:List Rw),okP false ws->rwsP ws m (some n) none++rstP r (m+szP ws)=rstP (kidW ws n++r) m
 | .nil,_,_,_,_=>rfl
 | .way a p q,n,m,r,h=>by
  have e:=Zkr q n (m+szP p) r h.2.2
  show(rwsP p m (some n) (some a)++rwsP q (m+szP p) (some n) none)++rstP r (m+(szP p+szP q))=rwsP p m (some n) (some a)++rstP (kidW q n++r) (m+szP p)
  rw[append_assoc,<- e,Nat.add_assoc]
 | .stop,_,_,_,h=>h.elim
 | .dd _ _,_,_,_,h=>h.elim
 | .lk _ _,_,_,_,h=>h.elim
theorem rst_step {t:Pn}{b:Option Nat}{a:Option Str}(r:List Rw)(n:Nat)(h:okP true t):rstP ((t,b,a)::r) n=(t,b,a)::rstP (kids t n++r) (n+1):=by
 cases t with
 | stop=>rfl
 | dd d q=>
  show(.dd d q,b,a)::(rwsP q (n+1) (some n) none++rstP r (n+(szP q+1)))=(.dd d q,b,a)::(rwsP q (n+1) (some n) none++rstP r (n+1+szP q))
  rw[show n+(szP q+1)=n+1+szP q by lia]
 | lk l ws=>
  show(.lk l ws,b,a)::(rwsP ws (n+1) (some n) none++rstP r (n+(szP ws+1)))=(.lk l ws,b,a)::rstP (kidW ws n++r) (n+1)
  rw[<- Zkr ws n (n+1) r h.2.2.2,show n+(szP ws+1)=n+1+szP ws by lia]
 | nil=>exact h.elim
 | way _ _ _=>exact h.elim
end
end K39
namespace K39
open PySem L2 Tx Rk PyProof.Rows PySem.SeqAt
open PySem.PyData (strOk)
end K39
namespace K39
open PySem L2 Tx Rk PyProof.Rows PySem.SeqAt
open PySem.PyData (strOk)
section
variable {P:Program}{w:World}{K:W.Frag}{mg:Str->Option Value}{base:Heap}
def TrAt (H:Hp):Pn->List V->Prop
 | .stop,vs=>∃t:Addr,vs=[.ref t]/\H t=some (.tup [.str Zdu])
 | .dd d r,vs=>∃(t:Addr) (v:V),vs=[.ref t]/\H t=some (.tup [.str (Str.ofString "do"),.str d,v])/\TrAt H r [v]
 | .lk l ws,vs=>∃(t u:Addr) (us:List V),vs=[.ref t]/\H t=some (.tup [.str (Str.ofString "look"),.str l,.ref u])/\H u=some (.lst us)/\TrAt H ws us
 | .nil,vs=>vs=[]
 | .way a p r,vs=>∃(t:Addr) (v:V) (us:List V),vs=.ref t::us/\H t=some (.tup [.str a,v])/\TrAt H p [v]/\TrAt H r us
theorem TrAt.same {H H':Hp}(s:Same H H'):∀{t:Pn}{vs:List V},TrAt H t vs->TrAt H' t vs
 | .stop,_,⟨t,e,h⟩=>⟨t,e,s _ _ h⟩
 | .dd _ _,_,⟨t,v,e,h,r⟩=>⟨t,v,e,s _ _ h,TrAt.same s r⟩
 | .lk _ _,_,⟨t,u,us,e,h,h2,r⟩=>⟨t,u,us,e,s _ _ h,s _ _ h2,TrAt.same s r⟩
 | .nil,_,e=>e
 | .way _ _ _,_,⟨t,v,us,e,h,p,r⟩=>⟨t,v,us,e,s _ _ h,TrAt.same s p,TrAt.same s r⟩
structure C3 where
 s:Addr
 d:Addr
 l:Addr
def fDo (d:Str)(v:V):List (Str×V):=putF "rest" v (putF "deed" (.str d) [])
def fLk (l:Str)(v:V):List (Str×V):=putF "told_ways" v (putF "look" (.str l) [])
def PlAt (C:C3)(H:Hp):Pn->List V->Prop
 | .stop,vs=>∃o dx:Addr,vs=[.ref o]/\H o=some (.ins C.s dx [])
 | .dd d r,vs=>∃(o dx:Addr) (v:V),vs=[.ref o]/\H o=some (.ins C.d dx (fDo d v))/\PlAt C H r [v]
 | .lk l ws,vs=>∃(o dx u:Addr) (us:List V),vs=[.ref o]/\H o=some (.ins C.l dx (fLk l (.ref u)))/\H u=some (.tup us)/\PlAt C H ws us
 | .nil,vs=>vs=[]
 | .way a p r,vs=>∃(t:Addr) (v:V) (us:List V),vs=.ref t::us/\H t=some (.tup [.str a,v])/\PlAt C H p [v]/\PlAt C H r us
theorem PlAt.same {C:C3}{H H':Hp}(s:Same H H'):∀{t:Pn}{vs:List V},PlAt C H t vs->PlAt C H' t vs
 | .stop,_,⟨t,dx,e,h⟩=>⟨t,dx,e,s _ _ h⟩
 | .dd _ _,_,⟨t,dx,v,e,h,r⟩=>⟨t,dx,v,e,s _ _ h,PlAt.same s r⟩
 | .lk _ _,_,⟨t,dx,u,us,e,h,h2,r⟩=>⟨t,dx,u,us,e,s _ _ h,s _ _ h2,PlAt.same s r⟩
 | .nil,_,e=>e
 | .way _ _ _,_,⟨t,v,us,e,h,p,r⟩=>⟨t,v,us,e,s _ _ h,PlAt.same s p,PlAt.same s r⟩
structure ClD (K:W.Frag)(C:Addr):Prop where
 cl:Cls K C
 n1:NoAttr K C "deed"
 n2:NoAttr K C "rest"
structure ClL (K:W.Frag)(C:Addr):Prop where
 cl:Cls K C
 n1:NoAttr K C "look"
 n2:NoAttr K C "told_ways"
theorem Zos (d:Str)(v:V):(fDo d v).lookup ("deed" : Str)=some (.str d):=rfl
theorem fDo_r (d:Str)(v:V):(fDo d v).lookup ("rest" : Str)=some v:=rfl
theorem Znp (l:Str)(v:V):(fLk l v).lookup ("look" : Str)=some (.str l):=rfl
theorem fLk_w (l:Str)(v:V):(fLk l v).lookup ("told_ways" : Str)=some v:=rfl
structure WyAt (H:Hp)(us:List V)(as:List Str):Prop where
 len:us.length=as.length
 got:∀(i:Nat) u a,us[i]? = some u->as[i]? = some a->∃(t:Addr) (v:V),u=.ref t/\H t=some (.tup [.str a,v])
theorem WyAt.same {H H':Hp}{us:List V}{as:List Str}(h:WyAt H us as)(s:Same H H'):WyAt H' us as:=⟨h.len,λi u a h1 h2=>by
 obtain⟨t,v,e,z⟩:=h.got i u a h1 h2
 exact⟨t,v,e,s _ _ z⟩⟩
theorem WyAt.at {H:Hp}{us:List V}{as:List Str}(h:WyAt H us as){i:Nat}{u:V}(e:us[i]? = some u):∃(a:Str) (t:Addr) (v:V),as[i]? = some a/\u=.ref t/\H t=some (.tup [.str a,v]):=by
 have hi:=(List.getElem?_eq_some_iff.mp e).1
 have ha:as[i]? = some (as[i]'(by rw[<- h.len];exact hi)):=getElem?_eq_getElem _
 obtain⟨t,v,e1,e2⟩:=h.got i u _ e ha
 exact⟨_,t,v,ha,e1,e2⟩
abbrev Zgh:List Str:=["self"]
abbrev nStopGoesOn:List Str:=["self"]
theorem scStopGoesOn:FnScope nStopGoesOn Zgh (Zaf Zdx):=Zav
abbrev Zj6:List Str:=["self", "deed", "rest"]
abbrev nDoInit:List Str:=["self", "deed", "rest"]
theorem scDoInit:FnScope nDoInit Zj6 (Zaf Zjw):=Zav
abbrev Zi2:List Str:=["self"]
abbrev nDoGoesOn:List Str:=["self"]
theorem scDoGoesOn:FnScope nDoGoesOn Zi2 (Zaf Zf7):=Zav
abbrev Zez:List Str:=["ways"]
abbrev nCheckWays:List Str:=["ways", "answers"]
theorem scCheckWays:FnScope nCheckWays Zez (Zaf Zcl):=Zav
abbrev Zgi:List Str:=["self", "look", "ways"]
abbrev nLookInit:List Str:=["self", "look", "ways", "told"]
theorem scLookInit:FnScope nLookInit Zgi (Zaf Zee):=Zav
abbrev Zem:List Str:=["self"]
abbrev nLookWays:List Str:=["self"]
theorem scLookWays:FnScope nLookWays Zem (Zaf Zf1):=Zav
abbrev Zgj:List Str:=["self"]
abbrev nLookGoesOn:List Str:=["self"]
theorem scLookGoesOn:FnScope nLookGoesOn Zgj (Zaf Zdy):=Zav
inductive spStopGo (vs:List V)(H:Hp)(Q:VK)(E0_:XK):Prop
 | mk (x:V) (c0:vs=[x]) (c1:∀l:Addr,H l=none->Q (.ref l) (upd H l (.lst []))):spStopGo  vs H Q E0_
inductive spDoInit (C:Addr)(vs:List V)(H:Hp)(Q:VK)(E0_:XK):Prop
 | mk (x dx:Addr) (d:Str) (v:V) (c0:vs=[.ref x,.str d,v]) (c1:H x=some (.ins C dx [])) (c2:∀H':Hp,(∀c u,H c=some u->c≠x->H' c=some u)->H' x=some (.ins C dx (fDo d v))->Q .non H'):spDoInit C vs H Q E0_
inductive spDoGo (C:Addr)(vs:List V)(H:Hp)(Q:VK)(E0_:XK):Prop
 | mk (x dx:Addr) (d:Str) (v:V) (c0:vs=[.ref x]) (c1:H x=some (.ins C dx (fDo d v))) (c2:∀(l t:Addr) (H':Hp),Same H H'->H l=none->H' l=some (.lst [.ref t])->H' t=some (.tup [.non,v])->Q (.ref l) H'):spDoGo C vs H Q E0_
inductive spCheckWays (vs:List V)(H:Hp)(Q:VK)(E0_:XK):Prop
 | mk (t:Addr) (us:List V) (as:List Str) (c0:vs=[.ref t]) (c1:H t=some (.tup us)) (c2:WyAt H us as) (c3:as≠[]) (c4:as.Nodup) (c5:as.length<=1000) (c6:∀H':Hp,Same H H'->Q .non H'):spCheckWays  vs H Q E0_
inductive spLkInit (C:Addr)(vs:List V)(H:Hp)(Q:VK)(E0_:XK):Prop
 | mk (x dx u:Addr) (l:Str) (us:List V) (as:List Str) (c0:vs=[.ref x,.str l,.ref u]) (c1:H x=some (.ins C dx [])) (c2:H u=some (.lst us)) (c3:WyAt H us as) (c4:as≠[]) (c5:as.Nodup) (c6:as.length<=1000) (c7:∀(tw:Addr) (H':Hp),(∀c u,H c=some u->c≠x->H' c=some u)->H' x=some (.ins C dx (fLk l (.ref tw)))->H' tw=some (.tup us)->Q .non H'):spLkInit C vs H Q E0_
inductive spLkWays (C:Addr)(vs:List V)(H:Hp)(Q:VK)(E0_:XK):Prop
 | mk (x dx u:Addr) (l:Str) (us:List V) (c0:vs=[.ref x]) (c1:H x=some (.ins C dx (fLk l (.ref u)))) (c2:H u=some (.tup us)) (c3:∀r:Addr,H r=none->Q (.ref r) (upd H r (.lst us))):spLkWays C vs H Q E0_
theorem ok_stopgo {f:Addr}{fd:FuncData}(F:Fun K "goes_on" "Stop.goes_on" Zdx f fd):FnOk P w K mg base CX0 1 f fd Zgh spStopGo:=by
 refine F.oq scStopGoesOn λcdv A outer s H vs Q E hr h=>?_
 obtain⟨x,rfl,q⟩:=h
 refine⟨_,(Zag (Zam (Zbs Zab))),?_⟩
 exact⟨by show 0<=sizeLine;lia,q⟩
theorem ok_doinit {f C:Addr}{fd:FuncData}(F:Fun K "__init__" "Do.__init__" Zjw f fd)(L:ClD K C):FnOk P w K mg base CX0 1 f fd Zj6 (spDoInit C):=by
 refine F.oq scDoInit λcdv A outer s H vs Q E hr h=>?_
 obtain⟨x,dx,d,v,rfl,hx,q⟩:=h
 refine⟨_,(Zac (Zb3 (pv 0) (pv 1) rfl)
  (Zag (Zb3 (pv 0) (pv 2) rfl))),?_⟩
 refine⟨_,rfl,_,rfl,x,C,dx,[],rfl,hx,L.cl,L.n1,by show 0<1000;decide,?_⟩
 refine⟨_,rfl,_,rfl,x,C,dx,_,rfl,Zad,L.cl,L.n2,by show 1<1000;decide,?_⟩
 refine q _ (λc u e hc=>by rw[Zaj hc,Zaj hc];exact e) ?_
 rw[Zad]
 rfl
theorem ok_dogo {f C:Addr}{fd:FuncData}(F:Fun K "goes_on" "Do.goes_on" Zf7 f fd)(L:ClD K C):FnOk P w K mg base CX0 1 f fd Zi2 (spDoGo C):=by
 refine F.oq scDoGoesOn λcdv A outer s H vs Q E hr h=>?_
 obtain⟨x,dx,d,v,rfl,hx,q⟩:=h
 have hsl:sizeLine=16777216:=sizeLine_eq
 refine⟨_,(Zag (Zam (Zbs (Zaa (Zbb (Zaa Zbz (Zaa (Zbm (pv 0) rfl) Zab))) Zab)))),?_⟩
 refine⟨_,rfl,x,C,dx,_,_,rfl,hx,L.cl,L.n2,fDo_r d v,by show 2<=sizeLine;lia,λt ht=>?_⟩
 have s1:=Same.new (o:=.tup [.non,v]) ht
 refine⟨by show 1<=sizeLine;lia,λl hl=>?_⟩
 exact q l t _ (s1.trans (Same.new hl)) (s1.free hl) Zad (by rw[Zaj (Zah Zad hl)];exact Zad)
theorem ok_checkways {f:Addr}{fd:FuncData}(F:Fun K "check_ways" "check_ways" Zcl f fd)(T:Bl mg):FnOk P w K mg base CX0 1 f fd Zez spCheckWays:=by
 refine F.oq scCheckWays λcdv A outer s H vs Q E hr h=>?_
 obtain⟨t,us,as,rfl,ht,wy,ne,nd,ml,q⟩:=h
 have hsl:sizeLine=16777216:=sizeLine_eq
 have hul:=wy.len
 refine⟨_,(Zac (Zlt (i:=1) (N:=["way"]) (sc:=Zaf Zcl) (own:=["way"]) (fr:=[]) (js:=[]) scCheckWays.nd rfl rfl Zb4 rfl (Zma (pv 0)) (λ_ _ _ _=>Za3 (i:=0) (show List.Nodup (["way"]:List Str) by decide +kernel)) (λ_ _ _ _=>Zbn) (λ_ _ _ _=>(Zas (Zb2 K rfl) (pv 0) Zae (λ_ _=>rfl))))
  (Zac (Za2 (Zao Zbt (Zap Za8 (by rfl) T.len PySem.boot_len (Zaa (pv 1) Zab)) Zae (Zar _)) Zba Zan)
  (Zag (Za2 (Zao Zmn (Zap Zjk (by rfl) T.len PySem.boot_len (Zaa (Zay (Zjj rfl) (by rfl) T.set Zjm (Zaa (pv 1) Zab)) Zab)) (Zap Za8 (by rfl) T.len PySem.boot_len (Zaa (pv 1) Zab)) (Zar _)) Zba Zan)))),?_⟩
 refine⟨_,rfl,t,rfl,⟨_,SqT.of ht⟩,λD hD=>?_⟩
 refine lcJ (n:=us.length) (λi ys H4=>ys=(as.take i).map V.str/\Same H H4/\H4 D=some (.lst ys)) ⟨rfl,Same.new hD,Zad⟩
  (λi ys H4 hi hh0=>by obtain⟨_,s4,_⟩:=hh0;exact⟨_,us[i],SqT.of (s4 _ _ ht),by simp[hi]⟩) (λys H4 hh0=>by obtain⟨_,s4,_⟩:=hh0;exact⟨_,SqT.of (s4 _ _ ht),by simp⟩) ?_ ?_
 ·rintro i ys H4 y H5 hi ⟨rfl,s4,e4⟩ ⟨rfl,hy⟩
  refine Zbu ?_
  obtain⟨a,a',v,ha,rfl,et⟩:=wy.at (hy _ (SqT.of (s4 _ _ ht)))
  have at0:atI [V.str a,v] ((0:Nat):Int)=some (.str a):=Zal rfl
  refine⟨_,rfl,a',_,_,_,rfl,rfl,SqT.of (s4 _ _ et),at0,_,e4,by simp only[length_map,length_take];lia,?_,s4.put hD,Zad⟩
  obtain⟨hi2,e⟩:=List.getElem?_eq_some_iff.mp ha
  rw[take_succ_eq_append_getElem hi2,map_append,e]
  rfl
 rintro ys H4 ⟨rfl,s4,e4⟩
 rw[hul,take_length]at e4
 have hml:(as.map V.str).length=as.length:=length_map ..
 have h0:0<as.length:=List.length_pos_iff.mpr ne
 refine⟨_,rfl,_,_,rfl,.inl ⟨_,SqL.of e4,rfl⟩,rfl,_,rfl,?_⟩
 refine ite2 (λz=>?_) (λ_=>?_)
 ·exfalso
  have h9:=of_decide_eq_true z
  rw[hml]at h9
  have h8:=V.int.inj h9
  lia
 have ek:as.map V.str=(as.map (Sum.inr:Str->Key)).map kV:=by
  rw[map_map]
  rfl
 have hdd:=Zl0 nd
 have hks:(as.map (Sum.inr:Str->Key)).length=as.length:=length_map ..
 refine⟨_,rfl,D,as.map Sum.inr,rfl,SqL.of (by rw[<- ek];exact e4),by lia,λst' hst'=>?_⟩
 have s5:Same H4 (upd H4 st' (setO P w st' (SK.dd (kAt (as.map (Sum.inr:Str->Key))) (as.map (Sum.inr:Str->Key)).length).length)):=Same.new hst'
 refine⟨st',_,rfl,Zad,_,rfl,_,_,rfl,.inl ⟨_,SqL.of (s5 _ _ e4),rfl⟩,_,_,rfl,rfl,_,rfl,?_⟩
 refine ite2 (λz=>?_) (λ_=>?_)
 ·exfalso
  have:=of_decide_eq_true z
  rw[hdd,hml]at this
  lia
 exact q _ (s4.trans s5)
theorem ok_lkways {f C:Addr}{fd:FuncData}(F:Fun K "ways" "Look.ways" Zf1 f fd)(LL:ClL K C)(T:Bl mg):FnOk P w K mg base CX0 1 f fd Zem (spLkWays C):=by
 refine F.oq scLookWays λcdv A outer s H vs Q E hr h=>?_
 obtain⟨x,dx,u,l,us,rfl,hx,hu,q⟩:=h
 refine⟨_,(Zag (Zam (Zay Zbf (by rfl) T.list Zbx (Zaa (Zbm (pv 0) rfl) Zab)))),?_⟩
 exact⟨_,rfl,x,C,dx,_,_,rfl,hx,LL.cl,LL.n2,fLk_w l _,u,_,rfl,.inr (SqT.of hu),q⟩
theorem ok_lkgo {f f1 C:Addr}{fd d1:FuncData}(F:Fun K "goes_on" "Look.goes_on" Zdy f fd)(LL:ClL K C)(b_ways:Binds K d1 ["self"] [])(m_ways:Meth K C "ways" f1)(G_ways:FnOk P w K mg base CX0 1 f1 d1 Zem (spLkWays C)):FnOk P w K mg base CX0 2 f fd Zgj (spLkWays C):=by
 refine F.oq scLookGoesOn λcdv A outer s H vs Q E hr1 h=>?_
 obtain⟨x,dx,u,l,us,rfl,hx,hu,q⟩:=h
 refine⟨_,(Zag (Zam (Zbl (pv 0) LL.cl m_ways G_ways hr1 b_ways .nil Zak))),?_⟩
 exact⟨_,rfl,x,dx,_,rfl,hx,rfl,x,dx,u,l,us,rfl,hx,hu,q⟩
theorem ok_lkinit {f C:Addr}{fd:FuncData}(F:Fun K "__init__" "Look.__init__" Zee f fd)(LL:ClL K C)(T:Bl mg)(C_check_ways:Ca P w K mg base CX0 1 "check_ways" Zcl Zez spCheckWays):FnOk P w K mg base CX0 2 f fd Zgi (spLkInit C):=by
 refine F.oq scLookInit λcdv A outer s H vs Q E hr1 h=>?_
 obtain⟨x,dx,u,l,us,as,rfl,hx,hu,wy,ne,nd,ml,q⟩:=h
 have hsl:sizeLine=16777216:=sizeLine_eq
 have hul:=wy.len
 refine⟨_,(Zac (Zaw (i:=3) scLookInit.nd (Zay Zb5 (by rfl) T.tuple Zes (Zaa (Zcw (N:=["way"]) (sc:=Zaf Zee) (own:=["way"]) (fr:=[]) (js:=[]) Zb4 rfl (Za4 (pv 2)) (λ_ _ _ _=>Za3 (i:=0) (show List.Nodup (["way"]:List Str) by decide +kernel)) (λ_ _ _ _=>Zbn) (λ_ _ _ _=>(Zay (call_tupK K rfl) (by rfl) T.tuple Zes (Zaa (pv 0) Zab)))) Zab)))
  (Zac (Zaz (Zaq C_check_ways hr1 Zak (Zaa (pv 3) Zab)))
  (Zac (Zb3 (pv 0) (pv 1) rfl)
  (Zag (Zb3 (pv 0) (pv 3) rfl))))),?_⟩
 refine⟨_,rfl,u,rfl,⟨_,SqL.of hu⟩,λD hD=>?_⟩
 refine lcJ (n:=us.length) (λi ys H4=>ys=us.take i/\Same H H4/\H4 D=some (.lst ys)) ⟨rfl,Same.new hD,Zad⟩
  (λi ys H4 hi hh0=>by obtain⟨_,s4,_⟩:=hh0;exact⟨_,us[i],SqL.of (s4 _ _ hu),by simp[hi]⟩) (λys H4 hh0=>by obtain⟨_,s4,_⟩:=hh0;exact⟨_,SqL.of (s4 _ _ hu),by simp⟩) ?_ ?_
 ·rintro i ys H4 y H5 hi ⟨rfl,s4,e4⟩ ⟨rfl,hy⟩
  refine Zbu ?_
  have hyu:=hy _ (SqL.of (s4 _ _ hu))
  obtain⟨a,a',v,ha,rfl,et⟩:=wy.at hyu
  refine⟨_,rfl,a',_,rfl,.inr ⟨SqT.of (s4 _ _ et),?_⟩⟩
  refine⟨_,e4,by rw[length_take];lia,?_,s4.put hD,Zad⟩
  obtain⟨hi2,e⟩:=List.getElem?_eq_some_iff.mp hyu
  rw[take_succ_eq_append_getElem hi2,e]
 rintro ys H4 ⟨rfl,s4,e4⟩
 rw[take_length]at e4
 refine⟨D,_,rfl,.inl ⟨SqL.of e4,λtw htw=>?_⟩⟩
 obtain⟨H5,g0,s5,e5⟩:=gen1 (H:=H4) (o:=.tup us) htw
 rw[g0]
 have s05:=s4.trans s5
 refine⟨_,rfl,tw,us,as,rfl,e5,wy.same s05,ne,nd,ml,λH6 s6=>?_⟩
 have s06:=s05.trans s6
 have hx6:=s06 _ _ hx
 have e6:=s6 _ _ e5
 have nx:tw≠x:=Zbg e6 hx6 (by intro z;cases z)
 refine⟨_,rfl,_,rfl,x,C,dx,[],rfl,hx6,LL.cl,LL.n1,by show 0<1000;decide,?_⟩
 refine⟨_,rfl,_,rfl,x,C,dx,_,rfl,Zad,LL.cl,LL.n2,by show 1<1000;decide,?_⟩
 refine q tw _ (λc u e hc=>by rw[Zaj hc,Zaj hc];exact s06 _ _ e) ?_ (by rw[Zaj nx,Zaj nx];exact e6)
 rw[Zad]
 rfl
theorem PlAt.kx {C:C3}{H H':Hp}{m:Addr}{xs:List V}(k:∀c u,H c=some u->c≠m->H' c=some u)(hm:H m=some (.lst xs)):∀{t:Pn}{vs:List V},PlAt C H t vs->PlAt C H' t vs
 | .stop,_,⟨t,dx,e,h⟩=>⟨t,dx,e,k _ _ h (Zbg h hm (by intro z;cases z))⟩
 | .dd _ _,_,⟨t,dx,v,e,h,r⟩=>⟨t,dx,v,e,k _ _ h (Zbg h hm (by intro z;cases z)),PlAt.kx k hm r⟩
 | .lk _ _,_,⟨t,dx,u,us,e,h,h2,r⟩=>⟨t,dx,u,us,e,k _ _ h (Zbg h hm (by intro z;cases z)),k _ _ h2 (Zbg h2 hm (by intro z;cases z)),PlAt.kx k hm r⟩
 | .nil,_,e=>e
 | .way _ _ _,_,⟨t,v,us,e,h,p,r⟩=>⟨t,v,us,e,k _ _ h (Zbg h hm (by intro z;cases z)),PlAt.kx k hm p,PlAt.kx k hm r⟩
def ofL:List (Str×Pn)->Pn->Pn
 | [],w=>w
 | x::r,w=>.way x.1 x.2 (ofL r w)
theorem PlAt.put {C:C3}{H:Hp}{t:Addr}{a:Str}{v:V}{p:Pn}(h1:H t=some (.tup [.str a,v]))(h2:PlAt C H p [v]):∀{pre:List (Str×Pn)}{us:List V},PlAt C H (ofL pre .nil) us->PlAt C H (ofL (pre++[(a,p)]) .nil) (us++[.ref t])
 | [],us,e=>by
  rw[show us=[] from e]
  exact⟨t,v,[],rfl,h1,h2,rfl⟩
 | x::r,us,⟨t',v',us',e,z1,z2,z3⟩=>by
  rw[e]
  exact⟨t',v',us'++[.ref t],rfl,z1,z2,PlAt.put h1 h2 z3⟩
inductive Z2 {α:Type}(R:V->α->Prop):List V->List α->Prop
 | nil:Z2 R [] []
 | cons {v:V}{t:α}{vs:List V}{ts:List α}(h:R v t) (r:Z2 R vs ts):Z2 R (v::vs) (t::ts)
theorem Z2.mono {α:Type}{R S:V->α->Prop}(m:∀v t,R v t->S v t){vs:List V}{ts:List α}(h:Z2 R vs ts):Z2 S vs ts:=by
 induction h with
 | nil=>exact .nil
 | cons a _ ih=>exact .cons (m _ _ a) ih
theorem Z2.len {α:Type}{R:V->α->Prop}{vs:List V}{ts:List α}(h:Z2 R vs ts):vs.length=ts.length:=by
 induction h with
 | nil=>rfl
 | cons _ _ ih=>rw[length_cons,(length_cons),ih]
theorem Z2.app {α:Type}{R:V->α->Prop}{vs vs':List V}{ts ts':List α}(h:Z2 R vs ts)(h':Z2 R vs' ts'):Z2 R (vs++vs') (ts++ts'):=by
 induction h with
 | nil=>exact h'
 | cons a _ ih=>exact .cons a ih
theorem Z2.rev {α:Type}{R:V->α->Prop}{vs:List V}{ts:List α}(h:Z2 R vs ts):Z2 R vs.reverse ts.reverse:=by
 induction h with
 | nil=>exact .nil
 | cons a _ ih=>rw[List.reverse_cons,List.reverse_cons];exact ih.app (.cons a .nil)
theorem Z2.at {α:Type}{R:V->α->Prop}{vs:List V}{ts:List α}(h:Z2 R vs ts):∀{i:Nat}{v:V},vs[i]? = some v->∃t,ts[i]? = some t/\R v t:=by
 induction h with
 | nil=>intro i v e;cases e
 | cons a _ ih=>
  intro i v e
  cases i with
  | zero=>cases e;exact⟨_,rfl,a⟩
  | succ i=>exact ih e
def oN:Option Nat->V
 | none=>.non
 | some k=>.int (k:Int)
def RwV (C:C3)(H:Hp)(v:V)(x:Rw):Prop:=∃(t:Addr) (p:V),v=.ref t/\H t=some (.tup [p,oN x.2.1,oS x.2.2])/\PlAt C H x.1 [p]/\okP true x.1
def KdV (C:C3)(H:Hp)(v:V)(x:Rw):Prop:=∃(t:Addr) (p:V),v=.ref t/\H t=some (.tup [oS x.2.2,p])/\PlAt C H x.1 [p]/\okP true x.1
theorem RwV.same {C:C3}{H H':Hp}(s:Same H H')(v:V)(x:Rw):RwV C H v x->RwV C H' v x:=λ⟨t,p,e,h,pl,ok⟩=>⟨t,p,e,s _ _ h,pl.same s,ok⟩
theorem RwV.kx {C:C3}{H H':Hp}{m:Addr}{xs:List V}(k:∀c u,H c=some u->c≠m->H' c=some u)(hm:H m=some (.lst xs))(v:V)(x:Rw):RwV C H v x->RwV C H' v x:=λ⟨t,p,e,h,pl,ok⟩=>⟨t,p,e,k _ _ h (Zbg h hm (by intro z;cases z)),pl.kx k hm,ok⟩
theorem Zmq {C:C3}{H:Hp}(n:Nat):∀{ws:Pn}{us:List V},okP false ws->PlAt C H ws us->Z2 (KdV C H) us (kidW ws n)
 | .nil,us,_,e=>by
  rw[show us=[] from e]
  exact .nil
 | .way a p r,us,h,⟨t,v,us',e,h1,h2,h3⟩=>by
  rw[e]
  exact .cons ⟨t,v,rfl,h1,h2,h.2.1⟩ (Zmq n h.2.2 h3)
theorem sz_pos {t:Pn}(h:okP true t):1<=szP t:=by
 cases t with
 | stop=>exact Nat.le_refl _
 | dd _ _=>exact Nat.le_add_left ..
 | lk _ _=>exact Nat.le_add_left ..
 | nil=>exact h.elim
 | way _ _ _=>exact h.elim
theorem rst_len {R:V->Rw->Prop}(hR:∀v x,R v x->okP true x.1){vs:List V}{ws:List Rw}(h:Z2 R vs ws):∀n:Nat,ws.length<=(rstP ws n).length:=by
 induction h with
 | nil=>intro n;exact Nat.le_refl _
 | @cons v x _ ts a _ ih=>
  intro n
  have h1:=ih (n+szP x.1)
  have h2:=sz_pos (hR _ _ a)
  show ts.length+1<=(rwsP x.1 n x.2.1 x.2.2++rstP ts (n+szP x.1)).length
  rw[length_append,Zca]
  lia
structure MV (P:Program)(w:World)(K:W.Frag)(mg:Str->Option Value)(base:Heap)(C:Addr)(x:Str)(k:Nat)(sp:Sp):Prop where
 cl:Cls K C
 ex:∃(f:Addr) (fd:FuncData),Meth K C x f/\FnOk P w K mg base CX0 k f fd ["self"] sp/\Binds K fd ["self"] []
def VGo (C:C3)(a:Addr)(sp:Sp):Prop:=(a=C.s/\sp=spStopGo)\/(a=C.d/\sp=spDoGo C.d)\/(a=C.l/\sp=spLkWays C.l)
inductive spRowsIn (C:C3)(vs:List V)(H:Hp)(Q:VK)(E0_:XK):Prop
 | mk (p:V) (t:Pn) (c0:vs=[p]) (c1:PlAt C H t [p]) (c2:okP true t) (c3:wtP t<=40000) (c4:∀(r:Addr) (us:List V) (H':Hp),Same H H'->H r=none->H' r=some (.lst us)->Z2 (RwV C H') us (rstP [(t,none,none)] 0)->Q (.ref r) H'):spRowsIn C vs H Q E0_
theorem Zob {n:Nat}:∀{t:Pn}{x:Rw},x∈kidW t n->x.2.1=some n
 | .way a p r,x,h=>by
  rcases(mem_cons.mp h)with e | h
  ·rw[e]
  exact Zob h
 | .nil,_,h=>nomatch h
 | .stop,_,h=>nomatch h
 | .dd _ _,_,h=>nomatch h
 | .lk _ _,_,h=>nomatch h
theorem kids_n {n:Nat}{t:Pn}{x:Rw}(h:x∈kids t n):x.2.1=some n:=by
 cases t with
 | dd d r=>rw[mem_singleton.mp h]
 | lk l ws=>exact Zob h
 | stop=>exact nomatch h
 | nil=>exact nomatch h
 | way _ _ _=>exact nomatch h
theorem go_any {C:C3}{H:Hp}{t:Pn}{v:V}(n:Nat)(E:XK)(h:PlAt C H t [v])(ok:okP true t):∃(a C' dx:Addr) (fs:List (Str×V)) (sp:Sp),v=.ref a/\H a=some (.ins C' dx fs)/\fs.lookup ("goes_on" : Str)=none/\VGo C C' sp/\∀Q:VK,(∀(g:Addr) (us:List V) (H':Hp),Same H H'->H g=none->H' g=some (.lst us)->Z2 (KdV C H') us (kids t n)->Q (.ref g) H')->sp [.ref a] H Q E:=by
 cases t with
 | stop=>
  obtain⟨o,dx,e,h⟩:=h
  cases e
  exact⟨o,C.s,dx,[],spStopGo,rfl,h,rfl,.inl ⟨rfl,rfl⟩,λQ q=>⟨.ref o,rfl,λl hl=>q l [] _ (Same.new hl) hl Zad .nil⟩⟩
 | dd d r=>
  obtain⟨o,dx,v',e,h,pl⟩:=h
  cases e
  exact⟨o,C.d,dx,_,spDoGo C.d,rfl,h,rfl,.inr (.inl ⟨rfl,rfl⟩),λQ q=>⟨o,dx,d,v',rfl,h,λl t H' s hl e1 e2=>q l [.ref t] H' s hl e1 (.cons ⟨t,v',rfl,e2,pl.same s,ok.2⟩ .nil)⟩⟩
 | lk l ws=>
  obtain⟨o,dx,u,us,e,h,hu,pl⟩:=h
  cases e
  exact⟨o,C.l,dx,_,spLkWays C.l,rfl,h,rfl,.inr (.inr ⟨rfl,rfl⟩),λQ q=>⟨o,dx,u,l,us,rfl,h,hu,λg hg=>q g us _ (Same.new hg) hg Zad (Zmq n ok.2.2.2 (pl.same (Same.new hg)))⟩⟩
 | nil=>exact ok.elim
 | way _ _ _=>exact ok.elim
def RIn (C:C3)(H:Hp)(full:List Rw)(p:V)(r wv:Addr)(n:Nat)(σ:L2.St)(H':Hp):Prop:=∃(v3 v4 v5:Option V) (dn st:List Rw) (ds ss:List V),σ = [some p,some (.ref r),some (.ref wv),v3,v4,v5]/\n=full.length-dn.length/\Same H H'/\H' r=some (.lst ds)/\H' wv=some (.lst ss)/\Z2 (RwV C H') ds dn/\Z2 (RwV C H') ss.reverse st/\dn++rstP st dn.length=full
abbrev Zj1:List Str:=["plan"]
abbrev nRowsIn:List Str:=["plan", "rows", "waiting", "row", "answer", "rest"]
theorem scRowsIn:FnScope nRowsIn Zj1 (Zaf Zho):=Zav
theorem ok_rowsin {f:Addr}{C:C3}{fd:FuncData}(F:Fun K "rows_in" "rows_in" Zho f fd)(T:Bl mg)(GS:MV P w K mg base C.s "goes_on" 1 spStopGo)(GD:MV P w K mg base C.d "goes_on" 1 (spDoGo C.d))(GL:MV P w K mg base C.l "goes_on" 2 (spLkWays C.l)):FnOk P w K mg base CX0 3 f fd Zj1 (spRowsIn C):=by
 refine F.oq scRowsIn λcdv A outer s H vs Q E hr2 h=>?_
 obtain⟨p,t,rfl,hp,ok,wt,q⟩:=h
 have hr1:Room 1 _:=hr2.mono (by decide)
 have hsl:sizeLine=16777216:=sizeLine_eq
 have hV_goes_on:∀C' sp,VGo C C' sp->∃(k:Nat) (f:Addr) (fd:FuncData) (ps:List Str),Cls K C'/\Meth K C' "goes_on" f/\FnOk P w K mg base CX0 k f fd ps sp/\Room k _/\Binds K fd ps []:=λC' sp hv=>by
  rcases hv with⟨rfl,rfl⟩ | ⟨rfl,rfl⟩ | ⟨rfl,rfl⟩
  ·obtain⟨f',fd',m',g',b'⟩:=GS.ex
   exact⟨1,f',fd',["self"],GS.cl,m',g',hr1,b'⟩
  ·obtain⟨f',fd',m',g',b'⟩:=GD.ex
   exact⟨1,f',fd',["self"],GD.cl,m',g',hr1,b'⟩
  obtain⟨f',fd',m',g',b'⟩:=GL.ex
  exact⟨2,f',fd',["self"],GL.cl,m',g',hr2,b'⟩
 have hfl:(rstP [(t,none,none)] 0).length<=40000:=by
  show(rwsP t 0 none none++[]).length<=_
  rw[append_nil,Zca]
  have:=Zju t
  lia
 generalize hfu:rstP [(t,none,none)] 0=full at hfl q
 refine⟨_,(Zac (Zaw (i:=1) scRowsIn.nd (Zbs Zab))
  (Zac (Zaw (i:=2) scRowsIn.nd (Zbs (Zaa (Zbb (Zaa (pv 0) (Zaa Zbz (Zaa Zbz Zab)))) Zab)))
  (Zac (ps_while PassesOwn.never (Zao Zmo (Zap Za8 (by rfl) T.len PySem.boot_len (Zaa (pv 2) Zab)) Zae (Zar _))
   (Zac (Zaw (i:=3) scRowsIn.nd (Zkx PySem.F.plainAttrs_list PySem.F.slot_list_pop PySem.F.type_list_pop mt_pop (pv 2)))
  (Zac (Zaz (Zds PySem.F.plainAttrs_list PySem.F.slot_list_append PySem.F.type_list_append Za7 (pv 1) (Zaa (pv 3) Zab)))
  (Zag (Zbh PassesOwn.never rfl (pi_revL (by rfl) T.reversed (by decide +kernel) (Zaa (pe_methV (Zas Zat (pv 3) Zae (λ_ _=>rfl)) hV_goes_on) Zab)) (Zcm rfl (Zax (Za3 (i:=4) scRowsIn.nd) (Zax (Za3 (i:=5) scRowsIn.nd) Zbw)))
   (Zag (Zaz (Zds PySem.F.plainAttrs_list PySem.F.slot_list_append PySem.F.type_list_append Za7 (pv 2) (Zaa (Zbb (Zaa (pv 5) (Zaa (Zau Zhe (Zap Za8 (by rfl) T.len PySem.boot_len (Zaa (pv 1) Zab)) Zae) (Zaa (pv 4) Zab)))) Zab)))))))))
  (Zag (Zam (pv 1)))))),?_⟩
 refine⟨by show 0<=sizeLine;lia,λr hr'=>?_⟩
 obtain⟨H1,g0,s1,e1⟩:=gen1 (H:=H) (o:=.lst []) hr'
 rw[g0]
 refine⟨_,rfl,by show 3<=sizeLine;lia,λt0 ht0=>?_⟩
 obtain⟨H2,g0,s2,e2⟩:=gen1 (H:=H1) (o:=.tup [p,.non,.non]) ht0
 rw[g0]
 refine⟨by show 1<=sizeLine;lia,λwv hwv=>?_⟩
 obtain⟨H3,g0,s3,e3⟩:=gen1 (H:=H2) (o:=.lst [.ref t0]) hwv
 rw[g0]
 have rw':r≠wv:=Zah (s2 _ _ e1) hwv
 have s03:=(s1.trans s2).trans s3
 have hw0:H wv=none:=(s1.trans s2).free hwv
 refine⟨RIn C H full p r wv,⟨full.length,none,none,none,[],[(t,none,none)],[],[.ref t0],rfl,rfl,s03,s3 _ _ (s2 _ _ e1),e3,.nil,.cons ⟨t0,p,rfl,s3 _ _ e2,hp.same s03,ok⟩ .nil,hfu⟩,?_⟩
 rintro n σ H4 ⟨v3,v4,v5,dn,st,ds,ss,rfl,rfl,s4,er,ew,zd,zs,ef⟩
 have hzd:=zd.len
 have hfd:dn.length<=full.length:=by rw[<- ef,length_append];lia
 refine⟨_,rfl,_,_,rfl,.inl ⟨_,SqL.of ew,rfl⟩,_,_,rfl,rfl,_,rfl,?_⟩
 generalize hrv:ss.reverse=rs at zs
 cases zs with
 | nil=>
  have hs0:ss=[]:=List.reverse_eq_nil_iff.mp hrv
  refine ite2 (λz=>?_) (λ_=>?_)
  ·exfalso
   have:=of_decide_eq_true z
   rw[hs0]at this
   exact absurd this (by decide)
  refine⟨_,rfl,q r ds H4 s4 hr' er ?_⟩
  have e9:dn=full:=by rw[<- ef];exact(append_nil _).symm
  rw[<- e9]
  exact zd
 | @cons v x rs st' hx zs=>
  have hss:ss=rs.reverse++[v]:=by rw[<- List.reverse_reverse ss,hrv,List.reverse_cons]
  subst hss
  have hl:(rs.reverse++[v]).length=rs.reverse.length+1:=by rw[length_append];rfl
  have hg:(rs.reverse++[v])[(rs.reverse++[v]).length-1]? = some v:=by
   rw[hl,Nat.add_sub_cancel,getElem?_append_right (Nat.le_refl _),Nat.sub_self]
   rfl
  refine ite2 (λ_=>?_) (λz=>absurd (decide_eq_true (by rw[hl];lia)) z)
  refine⟨λσ' H'=>∃m',m'<full.length-dn.length/\RIn C H full p r wv m' σ' H',λ_ _ z=>z,?_⟩
  refine⟨_,rfl,.inl ⟨rfl,_,SqL.of ew⟩,wv,_,_,rfl,rfl,ew,hg,?_⟩
  rw[List.dropLast_concat]
  have k5:∀c u,H4 c=some u->c≠wv->(upd H4 wv (.lst rs.reverse)) c=some u:=λc u e hc=>by rw[Zaj hc];exact e
  have ew5:(upd H4 wv (.lst rs.reverse)) wv=some (.lst rs.reverse):=Zad
  generalize (upd H4 wv (.lst rs.reverse))=H5 at k5 ew5 ⊢
  have er5:=k5 _ _ er rw'
  obtain⟨tt,pv,rfl,ht4,hpl4,hok⟩:=hx
  have nw:tt≠wv:=Zbg ht4 ew (by intro z;cases z)
  have nr:tt≠r:=Zbg ht4 er (by intro z;cases z)
  have hef:=rst_step (t:=x.1) (b:=x.2.1) (a:=x.2.2) st' dn.length hok
  have ef':dn++(x::rstP (kids x.1 dn.length++st') (dn.length+1))=full:=by rw[<- ef];exact congrArg (dn++·) hef.symm
  have hfl2:dn.length+1<=full.length:=by rw[<- ef',length_append,length_cons];lia
  refine⟨_,rfl,.inl ⟨rfl,_,SqL.of er5⟩,_,rfl,r,_,_,rfl,rfl,er5,by lia,?_⟩
  have k6:∀c u,H5 c=some u->c≠r->(upd H5 r (.lst (ds++[.ref tt]))) c=some u:=λc u e hc=>by rw[Zaj hc];exact e
  have er6:(upd H5 r (.lst (ds++[.ref tt]))) r=some (.lst (ds++[.ref tt])):=Zad
  generalize (upd H5 r (.lst (ds++[.ref tt])))=H6 at k6 er6 ⊢
  have ew6:=k6 _ _ ew5 rw'.symm
  have ht6:=k6 _ _ (k5 _ _ ht4 nw) nr
  have pl6:=(hpl4.kx k5 ew).kx k6 er5
  have s46:∀c u,H c=some u->H6 c=some u:=λc u e=>k6 c u (k5 c u (s4 _ _ e) (Zah e hw0)) (Zah e hr')
  have zd6:Z2 (RwV C H6) (ds++[.ref tt]) (dn++[x]):=((zd.mono (RwV.kx k5 ew)).mono (RwV.kx k6 er5)).app (.cons ⟨tt,pv,rfl,ht6,pl6,hok⟩ .nil)
  have zs6:=(zs.mono (RwV.kx k5 ew)).mono (RwV.kx k6 er5)
  have at0:atI [pv,oN x.2.1,oS x.2.2] ((0:Nat):Int)=some pv:=Zal rfl
  obtain⟨a,C',dx,fs,sp,rfl,ha,hlk,hv,go⟩:=go_any dn.length E0 pl6 hok
  refine⟨_,rfl,tt,_,_,_,rfl,rfl,SqT.of ht6,at0,a,C',dx,fs,sp,rfl,ha,hlk,hv,go _ λg us H7 s7 hg eg zk=>?_⟩
  have zk7:=zk.len
  refine⟨g,us,rfl,SqL.of eg,?_⟩
  have gw:g≠wv:=(Zah ew6 hg).symm
  have gr:g≠r:=(Zah er6 hg).symm
  have hall:(kids x.1 dn.length++st').length<=40000:=by
   have h1:=rst_len (R:=λ_ y=>okP true y.1) (λ_ _ z=>z) ((zk.mono (λ_ _ hh0=>by obtain⟨_,_,_,_,_,z⟩:=hh0;exact z)).app (zs6.mono (λ_ _ hh0=>by obtain⟨_,_,_,_,_,z⟩:=hh0;exact z))) (dn.length+1)
   have h2:full.length=dn.length+((rstP (kids x.1 dn.length++st') (dn.length+1)).length+1):=by rw[<- ef',length_append,length_cons]
   lia
  rw[length_append]at hall
  have hrl:rs.reverse.length=st'.length:=by rw[List.length_reverse];exact zs.len
  refine for_listR (K:=K) (a:=g) (xs:=us) (λi σ H8=>∃(v4 v5:Option V) (ts:List V),σ = [some p,some (.ref r),some (.ref wv),some (.ref tt),v4,v5]/\(∀c u,H7 c=some u->c≠wv->H8 c=some u)/\H8 wv=some (.lst (rs.reverse++ts))/\Z2 (RwV C H8) ts ((kids x.1 dn.length).reverse.take i))
   ⟨v4,v5,[],rfl,λc u e _=>e,by rw[append_nil];exact s7 _ _ ew6,.nil⟩ (λi σ H8 _ hh0=>by obtain⟨_,_,_,_,k8,_⟩:=hh0;exact SqL.of (k8 _ _ eg gw)) ?_ ?_
  ·rintro i y σ H8 hy ⟨v4,v5,ts,rfl,k8,ew8,zt⟩
   have hiu:=(List.getElem?_eq_some_iff.mp hy).1
   rw[List.length_reverse]at hiu
   obtain⟨kd,hkd,tk,pk,rfl,htk,plk,okk⟩:=zk.rev.at hy
   have htk8:=k8 _ _ htk (Zbg htk (s7 _ _ ew6) (by intro z;cases z))
   have plk8:=plk.kx k8 (s7 _ _ ew6)
   have er8:=k8 _ _ (s7 _ _ er6) rw'
   have hkn:kd.2.1=some dn.length:=kids_n (List.mem_reverse.mp (mem_of_getElem? hkd))
   obtain⟨hik,ekd⟩:=List.getElem?_eq_some_iff.mp hkd
   have htl:=zt.len
   rw[length_take]at htl
   have hds:(ds++[V.ref tt]).length=dn.length+1:=by rw[length_append,length_singleton,hzd]
   have hrt:(rs.reverse++ts).length=rs.reverse.length+ts.length:=length_append ..
   refine⟨tk,_,rfl,SqT.of htk8,rfl,_,_,rfl,_,_,rfl,rfl,?_⟩
   refine⟨_,rfl,.inl ⟨rfl,_,SqL.of ew8⟩,_,rfl,_,rfl,_,_,rfl,.inl ⟨_,SqL.of er8,rfl⟩,_,_,rfl,rfl,_,rfl,by show 3<=sizeLine;lia,λt9 ht9=>?_⟩
   rw[show(((ds++[V.ref tt]).length:Nat):Int)-1=(dn.length:Int) by lia]
   obtain⟨H9,g0,s9,e9⟩:=gen1 (H:=H8) (o:=.tup [pk,.int (dn.length:Int),oS kd.2.2]) ht9
   rw[g0]
   have ew9:=s9 _ _ ew8
   refine⟨wv,_,_,rfl,rfl,ew9,by lia,?_⟩
   have kA:∀c u,H9 c=some u->c≠wv->(upd H9 wv (.lst (rs.reverse++ts++[.ref t9]))) c=some u:=λc u e hc=>by rw[Zaj hc];exact e
   have nt:t9≠wv:=Zbg e9 ew9 (by intro z;cases z)
   refine⟨some (oS kd.2.2),some pk,ts++[.ref t9],rfl,λc u e hc=>kA c u (s9 _ _ (k8 c u e hc)) hc,by rw[<- append_assoc];exact Zad,?_⟩
   rw[take_succ_eq_append_getElem hik,ekd]
   refine((zt.mono (RwV.same s9)).mono (RwV.kx kA ew9)).app (.cons ⟨t9,pk,rfl,?_,(plk8.same s9).kx kA ew9,okk⟩ .nil)
   rw[hkn]
   exact kA _ _ e9 nt
  rintro σ H8 ⟨v4,v5,ts,rfl,k8,ew8,zt⟩
  rw[zk7,<- List.length_reverse,take_length]at zt
  have sx:∀c u,H6 c=some u->c≠wv->H8 c=some u:=λc u e hc=>k8 c u (s7 _ _ e) hc
  refine⟨full.length-(dn++[x]).length,by rw[length_append,length_singleton];lia,some (.ref tt),v4,v5,dn++[x],kids x.1 dn.length++st',ds++[.ref tt],rs.reverse++ts,rfl,rfl,λc u e=>sx c u (s46 c u e) (Zah e hw0),sx _ _ er6 rw',ew8,zd6.mono (RwV.kx sx ew6),?_,?_⟩
  ·rw[List.reverse_append,List.reverse_reverse]
   have z1:=zt.rev
   rw[List.reverse_reverse]at z1
   exact z1.app (zs6.mono (RwV.kx sx ew6))
  rw[length_append,length_singleton,append_assoc]
  exact ef'
structure Ed where
 ds:List Dee
 ls:List Loo
 g:Nat
 k:Nat
def Sb (s t:Nat):Prop:=s&&&t=s
instance (s t:Nat):Decidable (Sb s t):=inferInstanceAs (Decidable (_=_))
theorem sb_iff {s t:Nat}:Sb s t↔∀i,s.testBit i=true->t.testBit i=true:=by
 unfold Sb
 constructor
 ·intro e i hi
  rw[<- e,testBit_and,and_eq_true]at hi
  exact hi.2
 intro h
 refine eq_of_testBit_eq λi=>?_
 rw[testBit_and]
 cases hb:s.testBit i with
 | false=>rfl
 | true=>rw[h i hb];rfl
theorem Sb.trans {a b c:Nat}(h:Sb a b)(h':Sb b c):Sb a c:=sb_iff.mpr λi hi=>sb_iff.mp h' i (sb_iff.mp h i hi)
structure EdOk (m:Nat)(e:Ed)(as:List Str):Prop where
 ch:ChOk m e.ds e.ls as
 hg:e.g<2^m
 hk:e.k<2^m
 m7:m<=7
 rd:∀d∈e.ds,Rp d.name
 rl:∀l∈e.ls,Rp l.name
structure ClE (K:W.Frag)(C:Addr):Prop where
 cl:Cls K C
 n1:NoAttr K C "told_chart"
 n2:NoAttr K C "told_goal"
 n3:NoAttr K C "told_keep"
def e1 (c:Addr):List (Str×V):=putF "told_chart" (.ref c) []
def e2 (c:Addr)(g:Nat):List (Str×V):=putF "told_goal" (.int (g:Int)) (e1 c)
def e3 (c:Addr)(g k:Nat):List (Str×V):=putF "told_keep" (.int (k:Int)) (e2 c g)
theorem Zie {c:Addr}{g k:Nat}{n:Str}(h:n∉(["told_chart", "told_goal", "told_keep"]:List Str)):(e3 c g k).lookup n=none:=by
 simp only[mem_cons,not_mem_nil,or_false,not_or]at h
 obtain⟨h1,h2,h3⟩:=h
 unfold e3 e2 e1
 rw[Zai,if_neg h3,Zai,if_neg h2,Zai,if_neg h1]
 rfl
theorem e3_chart {c:Addr}{g k:Nat}:(e3 c g k).lookup ("told_chart" : Str)=some (.ref c):=by
 unfold e3 e2 e1
 rw[Zai,if_neg (by decide +kernel),Zai,if_neg (by decide +kernel),Zai,if_pos rfl]
theorem e3_goal {c:Addr}{g k:Nat}:(e3 c g k).lookup ("told_goal" : Str)=some (.int (g:Int)):=by
 unfold e3 e2
 rw[Zai,if_neg (by decide +kernel),Zai,if_pos rfl]
theorem e3_keep {c:Addr}{g k:Nat}:(e3 c g k).lookup ("told_keep" : Str)=some (.int (k:Int)):=by
 unfold e3
 rw[Zai,if_pos rfl]
inductive ErAt (CE C:Addr)(H:Hp)(x:Addr)(m:Nat)(e:Ed):Prop
 | mk (dx c:Addr) (hx:H x=some (.ins CE dx (e3 c e.g e.k))) (hc:ChAt C H c m e.ds e.ls):ErAt CE C H x m e
theorem ErAt.same {CE C:Addr}{H H':Hp}{x:Addr}{m:Nat}{e:Ed}(h:ErAt CE C H x m e)(s:Same H H'):ErAt CE C H' x m e:=by
 obtain⟨dx,c,hx,hc⟩:=h
 exact⟨dx,c,s _ _ hx,hc.same s⟩
abbrev nV (ss:List Nat):List V:=ss.map λy:Nat=>V.int (y:Int)
inductive spErInit (CE:Addr)(vs:List V)(H:Hp)(Q:VK)(E0_:XK):Prop
 | mk (y dy c:Addr) (g k:Nat) (c0:vs=[.ref y,.ref c,.int (g:Int),.int (k:Int)]) (c1:H y=some (.ins CE dy [])) (c2:∀H':Hp,(∀c u,H c=some u->c≠y->H' c=some u)->H' y=some (.ins CE dy (e3 c g k))->Q .non H'):spErInit CE vs H Q E0_
inductive spErChart (CE C:Addr)(vs:List V)(H:Hp)(Q:VK)(E0_:XK):Prop
 | mk (x:Addr) (m:Nat) (e:Ed) (c0:vs=[.ref x]) (c1:ErAt CE C H x m e) (c2:∀c,ChAt C H c m e.ds e.ls->Q (.ref c) H):spErChart CE C vs H Q E0_
inductive spErGoal (CE C:Addr)(vs:List V)(H:Hp)(Q:VK)(E0_:XK):Prop
 | mk (x:Addr) (m:Nat) (e:Ed) (c0:vs=[.ref x]) (c1:ErAt CE C H x m e) (c2:Q (.int (e.g:Int)) H):spErGoal CE C vs H Q E0_
inductive spErKeep (CE C:Addr)(vs:List V)(H:Hp)(Q:VK)(E0_:XK):Prop
 | mk (x:Addr) (m:Nat) (e:Ed) (c0:vs=[.ref x]) (c1:ErAt CE C H x m e) (c2:Q (.int (e.k:Int)) H):spErKeep CE C vs H Q E0_
theorem in_sb {a b:Nat}:decide (V.int (Builtin.bitAnd (a:Int) (b:Int))=V.int (a:Int))=decide (Sb a b):=by
 rw[Zdc,Bool.eq_iff_iff,decide_eq_true_eq,decide_eq_true_eq]
 constructor
 ·intro h
  exact ofNat.inj (V.int.inj h)
 intro h
 have:a&&&b=a:=h
 rw[this]
abbrev Zce:List Str:=["self", "chart", "goal", "keep"]
abbrev nErrandInit:List Str:=["self", "chart", "goal", "keep"]
theorem Zfb:FnScope nErrandInit Zce (Zaf Zbp):=Zav
abbrev Zb0:List Str:=["self"]
abbrev nErrandChart:List Str:=["self"]
theorem scErrandChart:FnScope nErrandChart Zb0 (Zaf Zc7):=Zav
abbrev Zcz:List Str:=["self"]
abbrev nErrandGoal:List Str:=["self"]
theorem scErrandGoal:FnScope nErrandGoal Zcz (Zaf Zd3):=Zav
abbrev Zcy:List Str:=["self"]
abbrev nErrandKeep:List Str:=["self"]
theorem scErrandKeep:FnScope nErrandKeep Zcy (Zaf Zd2):=Zav
theorem ok_erinit {f CE TD:Addr}{fd:FuncData}(F:FunD K "__init__" "Errand.__init__" Zbp f fd TD)(LE:ClE K CE):FnOk P w K mg base CX0 2 f fd Zce (spErInit CE):=by
 refine F.ok Zfb (λvs H Q E h=>?_) (λcdv A outer s H vs Q E hr h=>?_)
 ·obtain⟨y,dy,c,g,k,rfl,_⟩:=h
  rfl
 obtain⟨y,dy,c,g,k,rfl,hy,q⟩:=h
 refine⟨_,(Zac (Zb3 (pv 0) (pv 1) rfl)
  (Zac (Zb3 (pv 0) (pv 2) rfl)
  (Zag (Zb3 (pv 0) (Zfr (Zao Zi3 (pv 3) Zbz (Zar _)) pe_never (pv 3)) rfl)))),?_⟩
 refine⟨_,rfl,_,rfl,y,CE,dy,_,rfl,hy,LE.cl,LE.n1,by show 0<1000;decide,?_⟩
 refine⟨_,rfl,_,rfl,y,CE,dy,_,rfl,Zad,LE.cl,LE.n2,by show 1<1000;decide,?_⟩
 refine⟨_,rfl,rfl,_,rfl,?_⟩
 refine iteF ?_
 refine⟨_,rfl,_,rfl,y,CE,dy,_,rfl,Zad,LE.cl,LE.n3,by show 2<1000;decide,?_⟩
 exact q _ (λc u e n=>by rw[Zaj n,Zaj n,Zaj n];exact e) Zad
theorem ok_erchart {f CE C:Addr}{fd:FuncData}(F:Fun K "chart" "Errand.chart" Zc7 f fd)(LE:ClE K CE):FnOk P w K mg base CX0 1 f fd Zb0 (spErChart CE C):=by
 refine F.oq scErrandChart λcdv A outer s H vs Q E hr h=>?_
 obtain⟨x,m,e,rfl,⟨dx,c,hx,hc⟩,q⟩:=h
 refine⟨_,(Zag (Zam (Zbm (pv 0) rfl))),?_⟩
 exact⟨_,rfl,x,CE,dx,_,_,rfl,hx,LE.cl,LE.n1,e3_chart,q c hc⟩
theorem ok_ergoal {f CE C:Addr}{fd:FuncData}(F:Fun K "goal" "Errand.goal" Zd3 f fd)(LE:ClE K CE):FnOk P w K mg base CX0 1 f fd Zcz (spErGoal CE C):=by
 refine F.oq scErrandGoal λcdv A outer s H vs Q E hr h=>?_
 obtain⟨x,m,e,rfl,⟨dx,c,hx,hc⟩,q⟩:=h
 refine⟨_,(Zag (Zam (Zbm (pv 0) rfl))),?_⟩
 exact⟨_,rfl,x,CE,dx,_,_,rfl,hx,LE.cl,LE.n2,e3_goal,q⟩
theorem ok_erkeep {f CE C:Addr}{fd:FuncData}(F:Fun K "keep" "Errand.keep" Zd2 f fd)(LE:ClE K CE):FnOk P w K mg base CX0 1 f fd Zcy (spErKeep CE C):=by
 refine F.oq scErrandKeep λcdv A outer s H vs Q E hr h=>?_
 obtain⟨x,m,e,rfl,⟨dx,c,hx,hc⟩,q⟩:=h
 refine⟨_,(Zag (Zam (Zbm (pv 0) rfl))),?_⟩
 exact⟨_,rfl,x,CE,dx,_,_,rfl,hx,LE.cl,LE.n3,e3_keep,q⟩
def Zfw (e:Ed)(d:Str)(s:Nat):Nat:=match e.ds.find? λx=>decide (x.name=d)with
 | some de=>Zg0 (.did de) s
 | none=>0
def Zbd (e:Ed)(l a:Str)(s:Nat):Nat:=match e.ls.find? λx=>decide (x.name=l)with
 | some lo=>s&&&bt (ixs lo.tab a)
 | none=>0
theorem find_d {ds:List Dee}(nd:(ds.map Dee.name).Nodup){d:Dee}(h:d∈ds):(ds.find? λx=>decide (x.name=d.name))=some d:=by
 induction ds with
 | nil=>cases h
 | cons x r ih=>
  rw[map_cons,nodup_cons]at nd
  rw[find?_cons]
  by_cases e:x.name=d.name
  ·rw[decide_eq_true e]
   rcases(mem_cons.mp h)with h | h
   ·rw[h]
   exact absurd (by rw[e];exact mem_map.mpr ⟨d,h,rfl⟩) nd.1
  rw[decide_eq_false e]
  rcases(mem_cons.mp h)with h | h
  ·rw[h]at e
   exact absurd rfl e
  exact ih nd.2 h
theorem find_l {ls:List Loo}(nd:(ls.map Loo.name).Nodup){l:Loo}(h:l∈ls):(ls.find? λx=>decide (x.name=l.name))=some l:=by
 induction ls with
 | nil=>cases h
 | cons x r ih=>
  rw[map_cons,nodup_cons]at nd
  rw[find?_cons]
  by_cases e:x.name=l.name
  ·rw[decide_eq_true e]
   rcases(mem_cons.mp h)with h | h
   ·rw[h]
   exact absurd (by rw[e];exact mem_map.mpr ⟨l,h,rfl⟩) nd.1
  rw[decide_eq_false e]
  rcases(mem_cons.mp h)with h | h
  ·rw[h]at e
   exact absurd rfl e
  exact ih nd.2 h
theorem Zg6 {m:Nat}{e:Ed}{as:List Str}(ok:EdOk m e as){d:Dee}(h:d∈e.ds)(s:Nat):Zfw e d.name s=Zg0 (.did d) s:=by
 unfold Zfw
 rw[find_d (nodup_append.mp ok.ch.nd).1 h]
theorem Zfc {m:Nat}{e:Ed}{as:List Str}(ok:EdOk m e as){l:Loo}(h:l∈e.ls)(a:Str)(s:Nat):Zbd e l.name a s=s&&&bt (ixs l.tab a):=by
 unfold Zbd
 rw[find_l (nodup_append.mp ok.ch.nd).2.1 h]
def rwS (e:Ed):Pn->Str->Nat->List Nat
 | .stop,_,s=>[s]
 | .dd d r,_,s=>s::rwS e r d (Zfw e d s)
 | .lk l ws,_,s=>s::rwS e ws l s
 | .nil,_,_=>[]
 | .way a p r,l,s=>rwS e p l (Zbd e l a s)++rwS e r l s
theorem Zb1 (e:Ed):∀(t:Pn) (l:Str) (s:Nat),(rwS e t l s).length=szP t
 | .stop,_,_=>rfl
 | .dd _ r,_,_=>congrArg (· + 1) (Zb1 e r _ _)
 | .lk _ ws,_,_=>congrArg (· + 1) (Zb1 e ws _ _)
 | .nil,_,_=>rfl
 | .way a p r,l,s=>by
  show(rwS e p l (Zbd e l a s)++rwS e r l s).length=szP p+szP r
  rw[length_append,Zb1 e p,Zb1 e r]
def Zg1 (e:Ed):Pn->Nat->Prop
 | .stop,s=>Sb s e.k/\Sb s e.g
 | .dd d _,s=>Sb s e.k/\∃de∈e.ds,de.name=d/\bdD de s=[]
 | .lk l ws,s=>Sb s e.k/\∃lo∈e.ls,lo.name=l/\bdL lo s=[]/\∀i,s.testBit i=true->∃z∈anP ws,lo.tab[i]? = some (some z)
 | _,_=>True
def GdW (e:Ed):Pn->Str->Nat->Prop
 | .stop,_,s=>Zg1 e .stop s
 | .dd d r,_,s=>Zg1 e (.dd d r) s/\GdW e r d (Zfw e d s)
 | .lk l ws,_,s=>Zg1 e (.lk l ws) s/\GdW e ws l s
 | .nil,_,_=>True
 | .way a p r,l,s=>GdW e p l (Zbd e l a s)/\GdW e r l s
theorem Zgr {e:Ed}:∀(t:Pn) (l:Str) (s n:Nat) (b:Option Nat) (a:Option Str),GdW e t l s->∀(i:Nat) (x:Rw) (c:Nat),(rwsP t n b a)[i]? = some x->(rwS e t l s)[i]? = some c->Zg1 e x.1 c
 | .stop,_,s,_,_,_,g,i,x,c,h1,h2=>by
  cases i with
  | zero=>cases h1;cases h2;exact g
  | succ i=>cases h1
 | .dd d r,_,s,n,b,a,g,i,x,c,h1,h2=>by
  cases i with
  | zero=>cases h1;cases h2;exact g.1
  | succ i=>exact Zgr r d _ _ _ _ g.2 i x c h1 h2
 | .lk l ws,_,s,n,b,a,g,i,x,c,h1,h2=>by
  cases i with
  | zero=>cases h1;cases h2;exact g.1
  | succ i=>exact Zgr ws l _ _ _ _ g.2 i x c h1 h2
 | .nil,_,_,_,_,_,_,i,x,c,h1,_=>by cases h1
 | .way y p r,l,s,n,b,a,g,i,x,c,h1,h2=>by
  have h1':(rwsP p n b (some y)++rwsP r (n+szP p) b none)[i]? = some x:=h1
  have h2':(rwS e p l (Zbd e l y s)++rwS e r l s)[i]? = some c:=h2
  by_cases hi:i<szP p
  ·rw[getElem?_append_left (by rw[Zca];exact hi)]at h1'
   rw[getElem?_append_left (by rw[Zb1];exact hi)]at h2'
   exact Zgr p l _ n b _ g.1 i x c h1' h2'
  rw[getElem?_append_right (by rw[Zca];lia),Zca]at h1'
  rw[getElem?_append_right (by rw[Zb1];lia),Zb1]at h2'
  exact Zgr r l _ _ b _ g.2 (i-szP p) x c h1' h2'
def ledT (e:Ed)(t:Pn)(a:Option Str)(s:Nat):Nat:=match t,a with
 | .dd d _,_=>Zfw e d s
 | .lk l _,some y=>Zbd e l y s
 | _,_=>0
def isD:Pn->Bool
 | .dd _ _=>true
 | _=>false
def isL:Pn->Bool
 | .lk _ _=>true
 | _=>false
def KdOk (t:Pn)(a:Option Str):Prop:=(isD t=true/\a=none)\/(isL t=true/\∃y,a=some y)
theorem Zhb {m:Nat}{e:Ed}{as:List Str}(ok:EdOk m e as):∀(t:Pn) (l:Str) (s:Nat),s<2^m->∀c∈rwS e t l s,c<2^m
 | .stop,_,s,hs,c,h=>by rw[mem_singleton.mp h];exact hs
 | .dd d r,_,s,hs,c,h=>by
  rcases(mem_cons.mp h)with h | h
  ·rw[h];exact hs
  refine Zhb ok r d _ ?_ c h
  unfold Zfw
  cases hf:e.ds.find? λx=>decide (x.name=d)with
  | none=>exact two_pow_pos m
  | some de=>exact Zeq (ls:=e.ls) ok.ch.m2 ok.ch.de (.did de (List.mem_of_find?_eq_some hf)) hs
 | .lk l ws,_,s,hs,c,h=>by
  rcases(mem_cons.mp h)with h | h
  ·rw[h];exact hs
  exact Zhb ok ws l s hs c h
 | .nil,_,_,_,_,h=>nomatch h
 | .way a p r,l,s,hs,c,h=>by
  rcases(mem_append.mp h)with h | h
  ·refine Zhb ok p l _ ?_ c h
   unfold Zbd
   cases hf:e.ls.find? λx=>decide (x.name=l)with
   | none=>exact two_pow_pos m
   | some lo=>exact lt_of_le_of_lt Nat.and_le_left hs
  exact Zhb ok r l s hs c h
theorem Zep {e:Ed}(full:List Rw)(C:List Nat):∀(t:Pn) (q:Bool) (l:Str) (s n:Nat) (b:Option Nat) (a:Option Str),okP q t->(∀i x,(rwsP t n b a)[i]? = some x->full[n+i]? = some x)->(∀i c,(rwS e t l s)[i]? = some c->C[n+i]? = some c) ->
  ∀(i:Nat) (x:Rw) (c:Nat),(rwsP t n b a)[i]? = some x->(rwS e t l s)[i]? = some c ->
   (x.2.1=b/\((q=true/\x.2.2=a/\c=s)\/(q=false/\∃y,x.2.2=some y/\c=Zbd e l y s)))\/∃k tk ck,x.2.1=some k/\n<=k/\k<n+i/\full[k]?.map (·.1)=some tk/\C[k]? = some ck/\KdOk tk x.2.2/\c=ledT e tk x.2.2 ck
 | .stop,q,l,s,n,b,a,ok,_,_,i,x,c,h1,h2=>by
  cases q with
  | false=>exact ok.elim
  | true=>
   cases i with
   | zero=>cases h1;cases h2;exact .inl ⟨rfl,.inl ⟨rfl,rfl,rfl⟩⟩
   | succ i=>cases h1
 | .dd d r,true,l,s,n,b,a,ok,hf,hC,i,x,c,h1,h2=>by
  cases i with
  | zero=>cases h1;cases h2;exact .inl ⟨rfl,.inl ⟨rfl,rfl,rfl⟩⟩
  | succ i=>
   right
   have f0:=hf 0 (.dd d r,b,a) rfl
   have c0:=hC 0 s rfl
   rcases Zep full C r true d _ (n+1) (some n) none ok.2 (λi x h=>by have:=hf (i+1) x h;rw[show n+1+i=n+(i+1) by lia];exact this) (λi c h=>by have:=hC (i+1) c h;rw[show n+1+i=n+(i+1) by lia];exact this) i x c h1 h2 with⟨e1,⟨_,e2,e3⟩ | ⟨z,_⟩⟩ | ⟨k,tk,ck,e1,k1,k2,r1⟩
   ·exact⟨n,.dd d r,s,e1,Nat.le_refl _,by lia,by rw[Nat.add_zero]at f0;rw[f0];rfl,by rw[Nat.add_zero]at c0;exact c0,.inl ⟨rfl,e2⟩,by rw[e3];rfl⟩
   ·cases z
   exact⟨k,tk,ck,e1,by lia,by lia,r1⟩
 | .lk l' ws,true,l,s,n,b,a,ok,hf,hC,i,x,c,h1,h2=>by
  cases i with
  | zero=>cases h1;cases h2;exact .inl ⟨rfl,.inl ⟨rfl,rfl,rfl⟩⟩
  | succ i=>
   right
   have f0:=hf 0 (.lk l' ws,b,a) rfl
   have c0:=hC 0 s rfl
   rcases Zep full C ws false l' _ (n+1) (some n) none ok.2.2.2 (λi x h=>by have:=hf (i+1) x h;rw[show n+1+i=n+(i+1) by lia];exact this) (λi c h=>by have:=hC (i+1) c h;rw[show n+1+i=n+(i+1) by lia];exact this) i x c h1 h2 with⟨e1,⟨z,_⟩ | ⟨_,y,e2,e3⟩⟩ | ⟨k,tk,ck,e1,k1,k2,r1⟩
   ·cases z
   ·exact⟨n,.lk l' ws,s,e1,Nat.le_refl _,by lia,by rw[Nat.add_zero]at f0;rw[f0];rfl,by rw[Nat.add_zero]at c0;exact c0,.inr ⟨rfl,y,e2⟩,by rw[e2,e3];rfl⟩
   exact⟨k,tk,ck,e1,by lia,by lia,r1⟩
 | .nil,_,_,_,_,_,_,_,_,_,i,x,c,h1,_=>by cases h1
 | .way y p r,false,l,s,n,b,a,ok,hf,hC,i,x,c,h1,h2=>by
  have h1':(rwsP p n b (some y)++rwsP r (n+szP p) b none)[i]? = some x:=h1
  have h2':(rwS e p l (Zbd e l y s)++rwS e r l s)[i]? = some c:=h2
  have pl:=Zca p n b (some y)
  have sl:=Zb1 e p l (Zbd e l y s)
  by_cases hi:i<szP p
  ·rw[getElem?_append_left (by rw[pl];exact hi)]at h1'
   rw[getElem?_append_left (by rw[sl];exact hi)]at h2'
   rcases Zep full C p true l _ n b (some y) ok.2.1 (λi x h=>hf i x (by
    show(rwsP p n b (some y)++rwsP r (n+szP p) b none)[i]? = some x
    rw[getElem?_append_left (List.getElem?_eq_some_iff.mp h).1];exact h)) (λi c h=>hC i c (by
    show(rwS e p l (Zbd e l y s)++rwS e r l s)[i]? = some c
    rw[getElem?_append_left (List.getElem?_eq_some_iff.mp h).1];exact h)) i x c h1' h2' with⟨e1,⟨_,e2,e3⟩ | ⟨z,_⟩⟩ | r1
   ·exact .inl ⟨e1,.inr ⟨rfl,y,e2,e3⟩⟩
   ·cases z
   exact .inr r1
  rw[getElem?_append_right (by rw[pl];lia),pl]at h1'
  rw[getElem?_append_right (by rw[sl];lia),sl]at h2'
  rcases Zep full C r false l s (n+szP p) b none ok.2.2 (λi x h=>by
   rw[show n+szP p+i=n+(szP p+i) by lia]
   refine hf (szP p+i) x ?_
   show(rwsP p n b (some y)++rwsP r (n+szP p) b none)[szP p+i]? = some x
   rw[getElem?_append_right (by rw[pl];lia),pl,Nat.add_sub_cancel_left];exact h) (λi c h=>by
   rw[show n+szP p+i=n+(szP p+i) by lia]
   refine hC (szP p+i) c ?_
   show(rwS e p l (Zbd e l y s)++rwS e r l s)[szP p+i]? = some c
   rw[getElem?_append_right (by rw[sl];lia),sl,Nat.add_sub_cancel_left];exact h) (i-szP p) x c h1' h2' with⟨e1,⟨z,_⟩ | r1⟩ | ⟨k,tk,ck,e1,k1,k2,r1⟩
  ·cases z
  ·exact .inl ⟨e1,.inr r1⟩
  exact .inr ⟨k,tk,ck,e1,by lia,by lia,r1⟩
 | .dd _ _,false,_,_,_,_,_,ok,_,_,_,_,_,_,_=>ok.elim
 | .lk _ _,false,_,_,_,_,_,ok,_,_,_,_,_,_,_=>ok.elim
 | .way _ _ _,true,_,_,_,_,_,ok,_,_,_,_,_,_,_=>ok.elim
structure IsP (K:W.Frag)(C:C3):Prop where
 nS:NIs K C.s
 nD:NIs K C.d
 nL:NIs K C.l
 sD:PySem.W.kin_not K C.s C.d=true
 sL:PySem.W.kin_not K C.s C.l=true
 dS:PySem.W.kin_not K C.d C.s=true
 dL:PySem.W.kin_not K C.d C.l=true
 lS:PySem.W.kin_not K C.l C.s=true
 lD:PySem.W.kin_not K C.l C.d=true
theorem Zcn {K:W.Frag}{C:Addr}:PySem.W.isIn K (.ref C) C=true:=by
 unfold PySem.W.isIn
 simp
def NmOk (ds:List Dee)(ls:List Loo):Pn->Prop
 | .dd d _=>d∈ds.map Dee.name
 | .lk l _=>l∈ls.map Loo.name
 | _=>True
inductive spCheckNames (C:C3)(CC:Addr)(vs:List V)(H:Hp)(Q:VK)(E0_:XK):Prop
 | mk (c r:Addr) (m:Nat) (ds:List Dee) (ls:List Loo) (us:List V) (rows:List Rw) (c0:vs=[.ref c,.ref r]) (c1:ChAt CC H c m ds ls) (c2:(ds.map Dee.name++ls.map Loo.name).Nodup) (c3:H r=some (.lst us)) (c4:Z2 (RwV C H) us rows) (c5:(∀x∈rows,NmOk ds ls x.1)) (c6:Q .non H):spCheckNames C CC vs H Q E0_
inductive spLedOn (C:C3)(CC:Addr)(vs:List V)(H:Hp)(Q:VK)(E0_:XK):Prop
 | mk (c:Addr) (m:Nat) (e:Ed) (as:List Str) (v:V) (t:Pn) (a:Option Str) (s:Nat) (c0:vs=[.ref c,v,oS a,.int (s:Int)]) (c1:ChAt CC H c m e.ds e.ls) (c2:EdOk m e as) (c3:s<2^m) (c4:PlAt C H t [v]) (c5:okP true t) (c6:Zg1 e t s) (c7:KdOk t a) (c8:∀H':Hp,Same H H'->Q (.int (ledT e t a s:Nat)) H'):spLedOn C CC vs H Q E0_
theorem Zkd {C:C3}{H:Hp}:∀{ws:Pn}{us:List V},okP false ws->PlAt C H ws us->∃(ts:List Addr) (kvs:List (Key×V)),us=ts.map V.ref/\ts.length=kvs.length/\kvs.map (·.1)=(anP ws).map (λz=>(Sum.inr z:Key))/\∀(i:Nat) (t:Addr) (k:Key) (v:V),ts[i]? = some t->kvs[i]? = some (k,v)->H t=some (.tup [kV k,v])
 | .nil,us,_,e=>⟨[],[],e,rfl,rfl,λi t k v h=>by cases h⟩
 | .way a p r,us,ok,⟨t,v,us',e,h1,_,h3⟩=>by
  obtain⟨ts,kvs,e1,e2,e3,g⟩:=Zkd ok.2.2 h3
  refine⟨t::ts,((Sum.inr a:Key),v)::kvs,by rw[e,e1];rfl,by rw[length_cons,length_cons,e2],by rw[map_cons,e3];rfl,λi t' k' v' h h'=>?_⟩
  cases i with
  | zero=>cases h;cases h';exact h1
  | succ i=>exact g i t' k' v' h h'
inductive spAnswered (C:C3)(CC:Addr)(vs:List V)(H:Hp)(Q:VK)(E0_:XK):Prop
 | mk (c:Addr) (m:Nat) (e:Ed) (as:List Str) (v:V) (lo:Loo) (ws:Pn) (c0:vs=[.ref c,v]) (c1:ChAt CC H c m e.ds e.ls) (c2:EdOk m e as) (c3:lo∈e.ls) (c4:PlAt C H (.lk lo.name ws) [v]) (c5:okP true (.lk lo.name ws)) (c6:∀(F:Nat) (H':Hp),Same H H'->(∀i,F.testBit i=true↔∃z∈anP ws,lo.tab[i]? = some (some z))->Q (.int (F:Int)) H'):spAnswered C CC vs H Q E0_
inductive spFaults (C:C3)(CE CC:Addr)(vs:List V)(H:Hp)(Q:VK)(E0_:XK):Prop
 | mk (x:Addr) (m:Nat) (e:Ed) (as:List Str) (v:V) (t:Pn) (s:Nat) (c0:vs=[.ref x,v,.int (s:Int)]) (c1:ErAt CE CC H x m e) (c2:EdOk m e as) (c3:s<2^m) (c4:PlAt C H t [v]) (c5:okP true t) (c6:Zg1 e t s) (c7:∀(l:Addr) (ts:List Addr) (H':Hp),Same H H'->H' l=some (.lst (ts.map V.ref))->(∀t∈ts,∃z:Str,H' t=some (.tup [.str z,.int 0]))->ts.length<=3->Q (.ref l) H'):spFaults C CE CC vs H Q E0_
inductive spCheckRow (C:C3)(CE CC:Addr)(vs:List V)(H:Hp)(Q:VK)(E0_:XK):Prop
 | mk (x:Addr) (m n:Nat) (e:Ed) (as:List Str) (v:V) (t:Pn) (s:Nat) (c0:vs=[.ref x,.int (n:Int),v,.int (s:Int)]) (c1:ErAt CE CC H x m e) (c2:EdOk m e as) (c3:s<2^m) (c4:PlAt C H t [v]) (c5:okP true t) (c6:Zg1 e t s) (c7:∀H':Hp,Same H H'->Q .non H'):spCheckRow C CE CC vs H Q E0_
inductive spWalked (C:C3)(CE CC:Addr)(vs:List V)(H:Hp)(Q:VK)(E0_:XK):Prop
 | mk (x:Addr) (m:Nat) (e:Ed) (as:List Str) (v:V) (t:Pn) (s:Nat) (c0:vs=[.ref x,.int (s:Int),v]) (c1:ErAt CE CC H x m e) (c2:EdOk m e as) (c3:s<2^m) (c4:PlAt C H t [v]) (c5:okP true t) (c6:wtP t<=40000) (c7:GdW e t Str.empty s) (c8:∀(r:Addr) (H':Hp),Same H H'->H r=none->H' r=some (.lst (nV (rwS e t Str.empty s)))->Q (.ref r) H'):spWalked C CE CC vs H Q E0_
inductive spDoes (C:C3)(CE CC:Addr)(vs:List V)(H:Hp)(Q:VK)(E0_:XK):Prop
 | mk (x:Addr) (m:Nat) (e:Ed) (as:List Str) (v:V) (t:Pn) (s:Nat) (c0:vs=[.ref x,.int (s:Int),v]) (c1:ErAt CE CC H x m e) (c2:EdOk m e as) (c3:s<2^m) (c4:PlAt C H t [v]) (c5:okP true t) (c6:wtP t<=40000) (c7:GdW e t Str.empty s) (c8:∀H':Hp,Same H H'->Q (.bl true) H'):spDoes C CE CC vs H Q E0_
theorem out0 {a b:Nat}(h:Sb a b)(ha:a<2^200)(hb:b<2^200):Builtin.bitXor (a:Int) (Builtin.bitAnd (a:Int) (b:Int))=0:=by
 obtain⟨r,e,hr⟩:=out_bit ha hb
 have r0:r=0:=eq_of_testBit_eq λi=>by
  rw[hr,zero_testBit]
  cases hb:a.testBit i with
  | false=>rfl
  | true=>rw[sb_iff.mp h i hb];rfl
 rw[e,r0]
 rfl
theorem sb_bd {s t:Nat}(h:bd t s=[]):Sb s t:=by
 have e:=@in_bd s t
 rw[in_sb,h]at e
 exact of_decide_eq_true (e.trans (decide_eq_true rfl))
abbrev Zd8:List Str:=["chart", "rows"]
abbrev nCheckNames:List Str:=["chart", "rows", "row"]
theorem scCheckNames:FnScope nCheckNames Zd8 (Zaf Zcs):=Zav
abbrev Zme:List Str:=["chart", "one", "answer", "some"]
abbrev nLedOn:List Str:=["chart", "one", "answer", "some"]
theorem scLedOn:FnScope nLedOn Zme (Zaf Zki):=Zav
abbrev Zgm:List Str:=["chart", "one"]
abbrev nAnswered:List Str:=["chart", "one", "answers", "found", "answer", "tellers"]
theorem scAnswered:FnScope nAnswered Zgm (Zaf Zei):=Zav
abbrev Zj5:List Str:=["errand", "one", "some"]
abbrev nFaults:List Str:=["errand", "one", "some", "chart", "found"]
theorem scFaults:FnScope nFaults Zj5 (Zaf Zhs):=Zav
abbrev Zgl:List Str:=["errand", "number", "one", "some"]
abbrev nCheckRow:List Str:=["errand", "number", "one", "some", "wrong", "first"]
theorem scCheckRow:FnScope nCheckRow Zgl (Zaf Zc8):=Zav
abbrev Zgg:List Str:=["errand", "some", "plan"]
abbrev nWalked:List Str:=["errand", "some", "plan", "chart", "rows", "come", "one", "above", "answer", "here"]
theorem scWalked:FnScope nWalked Zgg (Zaf Zfz):=Zav
abbrev Zop:List Str:=["errand", "some", "plan"]
abbrev nDoes:List Str:=["errand", "some", "plan"]
theorem scDoes:FnScope nDoes Zop (Zaf Znj):=Zav
theorem ok_checknames {f CC f1 f2:Addr}{C:C3}{fd d1 d2:FuncData}(F:Fun K "check_names" "check_names" Zcs f fd)(T:Bl mg)(L:Cl K CC)(I:IsP K C)(LD:ClD K C.d)(LL:ClL K C.l)(mD:mg "Do" = some (.ref C.d))(mL:mg "Look" = some (.ref C.l))
  (b_check_deed:Binds K d1 ["self", "name"] [])(m_check_deed:Meth K CC "check_deed" f1)(G_check_deed:FnOk P w K mg base CX0 1 f1 d1 Zdp (spCheckDeed CC))(b_check_look:Binds K d2 ["self", "name"] [])(m_check_look:Meth K CC "check_look" f2)(G_check_look:FnOk P w K mg base CX0 1 f2 d2 Zdo (spCheckLook CC)):FnOk P w K mg base CX0 2 f fd Zd8 (spCheckNames C CC):=by
 refine F.oq scCheckNames λcdv A outer s H vs Q E hr1 h=>?_
 obtain⟨c,r,m,ds,ls,us,rows,rfl,ch,nd,hr,zr,nm,q⟩:=h
 obtain⟨cdx,p',o',a',q',d',kp,ko,ka,kq,kd,o1,o2,h1,_⟩:=ch.ex
 have a0:∀u v z:V,atI [u,v,z] ((0:Nat):Int)=some u:=λ_ _ _=>Zal rfl
 refine⟨_,(Zag (Zbh PassesOwn.never rfl (Za4 (pv 1)) (Za3 (i:=2) scCheckNames.nd)
   (Zac (Za2 (Zby (Zap Zco (by rfl) T.isi Zdb (Zaa (Zas Zat (pv 2) Zae (λ_ _=>rfl)) (Zaa (Zcc (v:=.ref C.d) (by rfl) mD rfl) Zab)))) (Zag (Zaz (Zcb (pv 0) L.cl m_check_deed G_check_deed hr1 b_check_deed .nil Zak (Zaa (Zbm (Zas Zat (pv 2) Zae (λ_ _=>rfl)) rfl) Zab)))) Zan)
  (Zag (Za2 (Zby (Zap Zco (by rfl) T.isi Zdb (Zaa (Zas Zat (pv 2) Zae (λ_ _=>rfl)) (Zaa (Zcc (v:=.ref C.l) (by rfl) mL rfl) Zab)))) (Zag (Zaz (Zcb (pv 0) L.cl m_check_look G_check_look hr1 b_check_look .nil Zak (Zaa (Zbm (Zas Zat (pv 2) Zae (λ_ _=>rfl)) rfl) Zab)))) Zan))))),?_⟩
 refine⟨_,rfl,r,rfl,⟨_,SqL.of hr⟩,?_⟩
 refine Zbc (K:=K) (a:=r) (xs:=us) (λi σ H2=>∃(v2:Option V),σ = [some (.ref c),some (.ref r),v2]/\H2=H) ⟨none,rfl,rfl⟩ (λi σ H2 _ hh0=>by obtain⟨_,_,z⟩:=hh0;rw[z];exact SqL.of hr) ?_ ?_
 ·rintro i v σ H2 hv ⟨v2,rfl,rfl⟩
  obtain⟨x,hx,t,pv,rfl,ht,pl,okx⟩:=zr.at hv
  have nmx:=nm x (mem_of_getElem? hx)
  refine⟨_,rfl,t,_,_,_,rfl,rfl,SqT.of ht,a0 _ _ _,?_⟩
  obtain⟨tr,ab,an⟩:=x
  cases tr with
  | stop=>
   obtain⟨o,dx,e,h⟩:=pl
   cases e
   refine⟨o,C.s,C.d,dx,_,rfl,h,.inr ⟨I.nS,I.sD,_,rfl,?_⟩⟩
   refine iteF ?_
   dsimp only[tNext]
   refine⟨_,rfl,t,_,_,_,rfl,rfl,SqT.of ht,a0 _ _ _,o,C.s,C.l,dx,_,rfl,h,.inr ⟨I.nS,I.sL,_,rfl,?_⟩⟩
   refine iteF ?_
   exact⟨_,rfl,rfl⟩
  | dd d r'=>
   obtain⟨o,dx,w',e,h,_⟩:=pl
   cases e
   refine⟨o,C.d,C.d,dx,_,rfl,h,.inl ⟨Zcn,_,rfl,?_⟩⟩
   refine iteT ?_
   refine⟨_,rfl,c,cdx,_,rfl,h1,Ze8 (by decide +kernel),_,rfl,t,_,_,_,rfl,rfl,SqT.of ht,a0 _ _ _,o,C.d,dx,_,_,rfl,h,LD.cl,LD.n1,Zos d w',c,m,ds,ls,d,rfl,ch,nd,.inr ⟨nmx,?_⟩⟩
   refine⟨_,rfl,t,_,_,_,rfl,rfl,SqT.of ht,a0 _ _ _,o,C.d,C.l,dx,_,rfl,h,.inr ⟨I.nD,I.dL,_,rfl,?_⟩⟩
   refine iteF ?_
   exact⟨_,rfl,rfl⟩
  | lk l ws=>
   obtain⟨o,dx,u,us',e,h,_⟩:=pl
   cases e
   refine⟨o,C.l,C.d,dx,_,rfl,h,.inr ⟨I.nL,I.lD,_,rfl,?_⟩⟩
   refine iteF ?_
   dsimp only[tNext]
   refine⟨_,rfl,t,_,_,_,rfl,rfl,SqT.of ht,a0 _ _ _,o,C.l,C.l,dx,_,rfl,h,.inl ⟨Zcn,_,rfl,?_⟩⟩
   refine iteT ?_
   refine⟨_,rfl,c,cdx,_,rfl,h1,Ze8 (by decide +kernel),_,rfl,t,_,_,_,rfl,rfl,SqT.of ht,a0 _ _ _,o,C.l,dx,_,_,rfl,h,LL.cl,LL.n1,Znp l (.ref u),c,m,ds,ls,l,rfl,ch,nd,.inr ⟨nmx,?_⟩⟩
   exact⟨_,rfl,rfl⟩
  | nil=>exact okx.elim
  | way _ _ _=>exact okx.elim
 rintro σ H2 ⟨v2,rfl,rfl⟩
 exact q
theorem ok_ledon {f CC:Addr}{C:C3}{fd:FuncData}(F:Fun K "led_on" "led_on" Zki f fd)(T:Bl mg)(L:Cl K CC)(I:IsP K C)(LD:ClD K C.d)(LL:ClL K C.l)(mD:mg "Do" = some (.ref C.d))
  (C_after:Ca P w K mg base CX0 5 "after" Zkp Zmm (spAfter CC))(C_parts:Ca P w K mg base CX0 5 "parts" Zir Zmc (spParts CC)):FnOk P w K mg base CX0 6 f fd Zme (spLedOn C CC):=by
 refine F.oq scLedOn λcdv A outer s0 H vs Q E hr5 h=>?_
 obtain⟨c,m,e,as,v,t,a,s,rfl,ch,ok,hs,pl,okt,ro,kd,q⟩:=h
 have hu:=Zfk hr5
 refine⟨_,(Zac (Za2 (Zby (Zap Zco (by rfl) T.isi Zdb (Zaa (pv 1) (Zaa (Zcc (v:=.ref C.d) (by rfl) mD rfl) Zab)))) (Zag (Zam (Zaq C_after hr5 Zak (Zaa (pv 0) (Zaa (Zbm (pv 1) rfl) (Zaa (pv 3) Zab)))))) Zan)
  (Zag (Zam (Zkw hu (Zay (Zdr rfl) (by rfl) T.dict Zii (Zaa (Zaq C_parts hr5 Zak (Zaa (pv 0) (Zaa (Zbm (pv 1) rfl) (Zaa (pv 3) Zab)))) Zab)) (pv 2) Zae ⟨by rfl,by rfl,by rfl,by rfl⟩)))),?_⟩
 cases t with
 | stop=>rcases kd with⟨z,_⟩ | ⟨z,_⟩ <;> cases z
 | dd d r=>
  obtain⟨o,dx,w',e',h,_⟩:=pl
  cases e'
  obtain⟨_,de,hde,rfl,can⟩:=ro
  refine⟨_,rfl,o,C.d,C.d,dx,_,rfl,h,.inl ⟨Zcn,_,rfl,?_⟩⟩
  refine iteT ?_
  refine⟨_,rfl,_,rfl,o,C.d,dx,_,_,rfl,h,LD.cl,LD.n1,Zos _ w',_,rfl,c,m,_,_,as,de.name,s,rfl,ch,ok.ch,hs,.inr ⟨de,hde,rfl,ok.rd de hde,.inl ⟨can,λH' s'=>?_⟩⟩⟩
  have:=q H' s'
  have e1:ledT e (.dd de.name r) a s=Zg0 (.did de) s:=by
   show(match (Pn.dd de.name r),a with | .dd d _,_=>Zfw e d s | .lk l _,some y=>Zbd e l y s | _,_=>0)=_
   exact Zg6 ok hde s
  rw[e1]at this
  exact this
 | lk l ws=>
  obtain⟨o,dx,u,us',e',h,_⟩:=pl
  cases e'
  obtain⟨_,lo,hlo,rfl,can,_⟩:=ro
  obtain⟨y,rfl⟩:∃y,a=some y:=by
   rcases kd with⟨z,_⟩ | ⟨_,z⟩
   ·cases z
   exact z
  refine⟨_,rfl,o,C.l,C.d,dx,_,rfl,h,.inr ⟨I.nL,I.lD,_,rfl,?_⟩⟩
  refine iteF ?_
  dsimp only[tNext]
  refine⟨_,rfl,_,rfl,o,C.l,dx,_,_,rfl,h,LL.cl,LL.n1,Znp _ (.ref u),_,rfl,c,m,_,_,as,lo.name,s,rfl,ch,ok.ch,hs,.inr ⟨lo,hlo,rfl,ok.rl lo hlo,.inl ⟨can,λr ts qs H1 s1 hr er qr pt ql=>?_⟩⟩⟩
  have nk:((qs.map λq=>((Sum.inr q.1:Key),V.int (q.2:Int))).map (·.1)).Nodup:=by
   have:=pt.ri.nd
   rw[map_map]
   have e2:qs.map ((λp:Key×V=>p.1) ∘ λq=>((Sum.inr q.1:Key),V.int (q.2:Int)))=(qs.map (·.1)).map λz=>(Sum.inr z:Key):=by rw[map_map];rfl
   rw[e2]
   exact List.Pairwise.map _ (λa b hab z=>hab (Sum.inr.inj z)) this
  refine⟨r,ts,(qs.map λq=>((Sum.inr q.1:Key),V.int (q.2:Int))),rfl,er,by rw[length_map];exact qr.len,by rw[length_map];exact ql,λi t k v h1 h2=>?_,λd hd=>?_⟩
  ·rw[getElem?_map]at h2
   obtain⟨q',hq',e2⟩:=map_eq_some_iff.mp h2
   cases e2
   exact qr.got i t q' h1 hq'
  rw[Zek nk]
  have s2:Same H1 (upd H1 d (.dK (qs.map λq=>((Sum.inr q.1:Key),V.int (q.2:Int))))):=Same.new hd
  refine⟨d,rfl,.inl ⟨_,.inl Zad⟩,_,rfl,_,DGet.k (k:=(Sum.inr y:Key)) Zad,?_⟩
  have:=q _ (s1.trans s2)
  have e1:ledT e (.lk lo.name ws) (some y) s=s&&&bt (ixs lo.tab y):=Zfc ok hlo y s
  rw[e1]at this
  have e3:(valV (qs.map λq=>((Sum.inr q.1:Key),V.int (q.2:Int))) (Sum.inr y:Key)).getD (V.int 0)=V.int ((s&&&bt (ixs lo.tab y):Nat):Int):=by
   by_cases nz:s&&&bt (ixs lo.tab y)=0
   ·have no:valV (qs.map λq=>((Sum.inr q.1:Key),V.int (q.2:Int))) (Sum.inr y:Key)=none:=by
     cases hv:valV (qs.map λq=>((Sum.inr q.1:Key),V.int (q.2:Int))) (Sum.inr y:Key)with
     | none=>rfl
     | some v=>
      have:=Zhk hv
      rw[map_map]at this
      obtain⟨q',hq',e4⟩:=mem_map.mp this
      have e5:q'.1=y:=Sum.inr.inj e4
      obtain⟨h3,h4⟩:=(pt.mem q').mp hq'
      rw[h3,e5]at h4
      exact absurd nz h4
    rw[no,nz]
    rfl
   have hm:=(pt.mem (y,s&&&bt (ixs lo.tab y))).mpr ⟨rfl,nz⟩
   obtain⟨i,hi⟩:=getElem?_of_mem hm
   have:=Zjt nk (i:=i) (kv:=((Sum.inr y:Key),V.int ((s&&&bt (ixs lo.tab y):Nat):Int))) (by rw[getElem?_map,hi];rfl)
   rw[this]
   rfl
  rw[e3]
  exact this
 | nil=>exact okt.elim
 | way _ _ _=>exact okt.elim
theorem ok_answered {f CC f1 f2:Addr}{C:C3}{fd d1 d2:FuncData}(F:Fun K "answered" "answered" Zei f fd)(T:Bl mg)(L:Cl K CC)(LL:ClL K C.l)(b_ways:Binds K d1 ["self"] [])(m_ways:Meth K C.l "ways" f1)(G_ways:FnOk P w K mg base CX0 1 f1 d1 Zem (spLkWays C.l))
  (b_answer_sets:Binds K d2 ["self", "name"] [])(m_answer_sets:Meth K CC "answer_sets" f2)(G_answer_sets:FnOk P w K mg base CX0 2 f2 d2 Zc3 (spAnswerSets CC)):FnOk P w K mg base CX0 3 f fd Zgm (spAnswered C CC):=by
 refine F.oq scAnswered λcdv A outer s0 H vs Q E hr2 h=>?_
 obtain⟨c,m,e,as,v,lo,ws,rfl,ch,ok,hlo,pl,okt,q⟩:=h
 have hr1:Room 1 _:=hr2.mono (by decide)
 have hu:=Zfk hr2
 obtain⟨cdx,p',o',a',q',d',kp,ko,ka,kq,kd,o1,o2,h1,_⟩:=ch.ex
 obtain⟨o,dx,u,us,e',h,hu',plw⟩:=pl
 cases e'
 obtain⟨ts,kvs,rfl,tl,ek,got⟩:=Zkd okt.2.2.2 plw
 have nk:(kvs.map (·.1)).Nodup:=by
  rw[ek]
  exact List.Pairwise.map _ (λa b hab z=>hab (Sum.inr.inj z)) okt.2.2.1.1
 have kl:kvs.length<=1000:=by
  have:=congrArg List.length ek
  rw[length_map,length_map]at this
  rw[this]
  exact okt.2.2.1.2
 have inA:∀z:Str,(valV kvs (Sum.inr z:Key)).isSome=true↔z∈anP ws:=λz=>by
  rw[<- Zed,any_eq_true]
  constructor
  ·rintro⟨kv,hkv,e1⟩
   have:kv.1∈kvs.map (·.1):=mem_map.mpr ⟨kv,hkv,rfl⟩
   rw[ek,of_decide_eq_true e1]at this
   obtain⟨z',hz',e2⟩:=mem_map.mp this
   rw[<- Sum.inr.inj e2]
   exact hz'
  intro hz
  have:(Sum.inr z:Key)∈kvs.map (·.1):=by rw[ek];exact mem_map.mpr ⟨z,hz,rfl⟩
  obtain⟨kv,hkv,e1⟩:=mem_map.mp this
  exact⟨kv,hkv,decide_eq_true e1⟩
 refine⟨_,(Zac (Zaw (i:=2) scAnswered.nd (Zay (Zdr rfl) (by rfl) T.dict Zii (Zaa (Zbl (pv 1) LL.cl m_ways G_ways hr1 b_ways .nil Zak) Zab)))
  (Zac (Zaw (i:=3) scAnswered.nd Zae)
  (Zac (Zbh PassesOwn.never rfl (Zma (Zcb (pv 0) L.cl m_answer_sets G_answer_sets hr2 b_answer_sets .nil Zak (Zaa (Zbm (pv 1) rfl) Zab))) (Zcm rfl (Zax (Za3 (i:=4) scAnswered.nd) (Zax (Za3 (i:=5) scAnswered.nd) Zbw)))
   (Zag (Za2 (Zku (pc_din hu (pv 4) (pv 2))) (Zag (Zaw (i:=3) scAnswered.nd (Zau Zh7 (pv 3) (pv 5)))) Zan)))
  (Zag (Zam (pv 3)))))),?_⟩
 refine⟨_,rfl,o,dx,_,rfl,h,rfl,o,dx,u,lo.name,_,rfl,h,hu',λr hr=>?_⟩
 obtain⟨H1,g0,s1,e1⟩:=gen1 (H:=H) (o:=.lst (ts.map V.ref)) hr
 rw[g0]
 refine⟨r,ts,kvs,rfl,e1,tl,kl,λi t k v h1 h2=>s1 _ _ (got i t k v h1 h2),λd hd=>?_⟩
 rw[Zek nk]
 obtain⟨H2,g0,s2,e2⟩:=gen1 (H:=H1) (o:=.dK kvs) hd
 rw[g0]
 have s02:=s1.trans s2
 refine⟨_,rfl,c,cdx,_,rfl,s02 _ _ h1,Ze8 (by decide +kernel),_,rfl,o,C.l,dx,_,_,rfl,s02 _ _ h,LL.cl,LL.n1,Znp _ (.ref u),c,m,_,_,lo.name,rfl,ch.same s02,ok.ch.nd,.inr ⟨lo,hlo,rfl,λv pv=>?_⟩⟩
 obtain⟨rr,ro,ts2,ps,zs,rfl,d0,hrr,hp,pm,lt,po⟩:=pv
 have hT:SqT K H2 rr (ts2.map V.ref):=.inl (.inr ⟨ro,hrr⟩)
 refine⟨rr,rfl,⟨_,hT⟩,?_⟩
 refine for_tup (K:=K) (a:=rr) (xs:=ts2.map V.ref) (λi σ H3=>∃(v4 v5:Option V) (F:Nat),σ = [some (.ref c),some (.ref o),some (.ref d),some (.int (F:Int)),v4,v5]/\H3=H2/\∀k,F.testBit k=true↔∃p∈zs.take i,p.1∈anP ws/\lo.tab[k]? = some (some p.1))
  ⟨none,none,0,rfl,rfl,λk=>⟨λz=>(by rw[zero_testBit]at z;cases z),λhp0=>by obtain⟨p,hp,_⟩:=hp0;exact(by rw[take_zero]at hp;cases hp)⟩⟩ (λi σ H3 _ hh0=>by obtain⟨_,_,_,_,z,_⟩:=hh0;rw[z];exact hT) ?_ ?_
 ·rintro i v σ H3 hv ⟨v4,v5,F,rfl,rfl,hF⟩
  rw[getElem?_map]at hv
  obtain⟨t,ht,rfl⟩:=map_eq_some_iff.mp hv
  have hiz:i<zs.length:=by rw[<- hp.1];exact(List.getElem?_eq_some_iff.mp ht).1
  have hz:zs[i]? = some zs[i]:=getElem?_eq_getElem hiz
  have et:=hp.2 i t _ ht hz
  rw[po.val _ (pm.mem_iff.mp (getElem_mem hiz))]at et
  have htk:zs.take (i+1)=zs.take i++[zs[i]]:=take_succ_eq_append_getElem hiz
  refine⟨t,_,rfl,SqT.of et,rfl,_,_,rfl,_,_,rfl,rfl,?_⟩
  refine⟨_,rfl,_,rfl,d,_,rfl,DGet.k (k:=(Sum.inr zs[i].1:Key)) e2,_,rfl,?_⟩
  by_cases hin:zs[i].1∈anP ws
  ·refine ite2 (λ_=>?_) (λz=>absurd ((inA _).mpr hin) z)
   refine⟨_,rfl,_,rfl,_,_,rfl,rfl,?_⟩
   refine⟨_,_,F|||bt (ixs lo.tab zs[i].1),by rw[<- Zda];rfl,rfl,λk=>?_⟩
   rw[testBit_or,Bool.or_eq_true,hF,Ze5,decide_eq_true_eq,htk]
   constructor
   ·rintro(⟨p,hp',r1⟩ | hk)
    ·exact⟨p,mem_append_left _ hp',r1⟩
    exact⟨_,mem_append_right _ (mem_singleton.mpr rfl),hin,hk⟩
   rintro⟨p,hp',r1,r2⟩
   rcases mem_append.mp hp' with hp' | hp'
   ·exact .inl ⟨p,hp',r1,r2⟩
   rw[mem_singleton.mp hp']at r2
   exact .inr r2
  refine ite2 (λz=>absurd ((inA _).mp z) hin) (λ_=>?_)
  refine⟨_,_,F,rfl,rfl,λk=>?_⟩
  rw[hF,htk]
  constructor
  ·rintro⟨p,hp',r1⟩
   exact⟨p,mem_append_left _ hp',r1⟩
  rintro⟨p,hp',r1,r2⟩
  rcases mem_append.mp hp' with hp' | hp'
  ·exact⟨p,hp',r1,r2⟩
  rw[mem_singleton.mp hp']at r1
  exact absurd r1 hin
 rintro σ H3 ⟨v4,v5,F,rfl,rfl,hF⟩
 have zl:(ts2.map V.ref).length=zs.length:=by rw[length_map];exact hp.1
 rw[zl,take_length]at hF
 refine⟨_,rfl,q F _ s02 λk=>?_⟩
 rw[hF]
 constructor
 ·rintro⟨p,_,r1,r2⟩
  exact⟨p.1,r1,r2⟩
 rintro⟨z,r1,r2⟩
 obtain⟨p,hp',e3⟩:=mem_map.mp ((po.has z).mp (mem_of_getElem? r2))
 exact⟨p,pm.mem_iff.mpr hp',by rw[e3];exact r1,by rw[e3];exact r2⟩
theorem ok_checkrow {f CE CC:Addr}{C:C3}{fd:FuncData}(F:Fun K "check_row" "check_row" Zc8 f fd)(T:Bl mg)(C_faults:Ca P w K mg base CX0 4 "faults" Zhs Zj5 (spFaults C CE CC))(C_least_of:Ca P w K mg base CX0 2 "least_of" Zfp Zh0 spLeast):FnOk P w K mg base CX0 5 f fd Zgl (spCheckRow C CE CC):=by
 refine F.oq scCheckRow λcdv A outer s0 H vs Q E hr4 h=>?_
 obtain⟨x,m,n,e,as,v,t,s,rfl,er,ok,hs,pl,okt,ro,q⟩:=h
 have hr2:Room 2 _:=hr4.mono (by decide)
 refine⟨_,(Zac (Zlt (i:=4) (N:=["why", "worlds"]) (sc:=Zaf Zc8) (own:=["why", "worlds"]) (fr:=[]) (js:=[]) scCheckRow.nd rfl rfl Zb4 rfl (Za4 (Zaq C_faults hr4 Zak (Zaa (pv 0) (Zaa (pv 2) (Zaa (pv 3) Zab))))) (λ_ _ _ _=>Zmu K rfl (Zcm (n:=2) rfl (Zax (Za3 (i:=0) (show List.Nodup (["why", "worlds"]:List Str) by decide +kernel)) (Zax (Za3 (i:=1) (show List.Nodup (["why", "worlds"]:List Str) by decide +kernel)) Zbw)))) (λ_ _ _ _=>Zcv (Zao Zh8 (pv 1) Zae (Zar _))) (λ_ _ _ _=>(Zbb (Zaa (Zaq C_least_of hr2 Zak (Zaa (pv 1) Zab)) (Zaa (pv 0) Zab)))))
  (Zag (Za2 (Zao Zmo (Zap Za8 (by rfl) T.len PySem.boot_len (Zaa (pv 4) Zab)) Zae (Zar _)) Zba Zan))),?_⟩
 refine⟨_,rfl,_,rfl,_,rfl,x,m,e,as,v,t,s,rfl,er,ok,hs,pl,okt,ro,λl ts H1 s1 el ht tl=>?_⟩
 refine⟨l,rfl,⟨_,SqL.of el⟩,λD hD=>?_⟩
 have ll:(ts.map V.ref).length=ts.length:=length_map ..
 refine lcJ2 (K:=K) (n:=ts.length) (λi ys H2=>ys=[]/\Same H1 H2/\H2 D=some (.lst [])) ⟨rfl,Same.new hD,Zad⟩ (λi ys H2 hi ⟨_,s2,_⟩=>⟨_,(ts.map V.ref)[i]'(by lia),SqL.of (s2 _ _ el),getElem?_eq_getElem (by lia)⟩) (λys H2 hh0=>by obtain⟨_,s2,_⟩:=hh0;exact⟨_,SqL.of (s2 _ _ el),by lia⟩) ?_ ?_
 ·rintro i ys H2 v H3 hi ⟨rfl,s2,e2⟩ ⟨rfl,hy⟩
  have hv:=hy _ (SqL.of (s2 _ _ el))
  rw[getElem?_map]at hv
  obtain⟨t',ht',rfl⟩:=map_eq_some_iff.mp hv
  obtain⟨z,hz⟩:=ht t' (mem_of_getElem? ht')
  refine⟨t',_,_,rfl,SqT.of (s2 _ _ hz),?_⟩
  refine⟨_,rfl,rfl,_,rfl,?_⟩
  refine iteF ?_
  exact⟨rfl,s2,e2⟩
 rintro ys H2 ⟨rfl,s2,e2⟩
 refine⟨_,rfl,_,_,rfl,.inl ⟨_,SqL.of e2,rfl⟩,_,_,rfl,rfl,_,rfl,?_⟩
 refine iteF ?_
 exact q H2 (s1.trans s2)
theorem ok_faults {f CE CC f1 f2 f3 f5:Addr}{C:C3}{fd d1 d2 d3 d5:FuncData}(F:Fun K "faults" "faults" Zhs f fd)(T:Bl mg)(L:Cl K CC)(LE:ClE K CE)(I:IsP K C)(LD:ClD K C.d)(LL:ClL K C.l)(mS:mg "Stop" = some (.ref C.s))(mD:mg "Do" = some (.ref C.d))(mL:mg "Look" = some (.ref C.l))
  (b_chart:Binds K d1 ["self"] [])(m_chart:Meth K CE "chart" f1)(G_chart:FnOk P w K mg base CX0 1 f1 d1 Zb0 (spErChart CE CC))(b_keep:Binds K d2 ["self"] [])(m_keep:Meth K CE "keep" f2)(G_keep:FnOk P w K mg base CX0 1 f2 d2 Zcy (spErKeep CE CC))(b_goal:Binds K d3 ["self"] [])(m_goal:Meth K CE "goal" f3)(G_goal:FnOk P w K mg base CX0 1 f3 d3 Zcz (spErGoal CE CC))
  (C_without:Ca P w K mg base CX0 1 "without" Zfo Zhx spOut)(b_doable:Binds K d5 ["self", "name"] [])(m_doable:Meth K CC "doable" f5)(G_doable:FnOk P w K mg base CX0 2 f5 d5 Zh6 (spDoableM CC))(C_answered:Ca P w K mg base CX0 3 "answered" Zei Zgm (spAnswered C CC)):FnOk P w K mg base CX0 4 f fd Zj5 (spFaults C CE CC):=by
 refine F.oq scFaults λcdv A outer s0 H vs Q E hr3 h=>?_
 obtain⟨x,m,e,as,v,t,s,rfl,R0,ok,hs,pl,okt,ro,q⟩:=h
 have hr2:Room 2 _:=hr3.mono (by decide)
 have hr1:Room 1 _:=hr3.mono (by decide)
 have hsl:sizeLine=16777216:=sizeLine_eq
 have m2:=ok.ch.m2
 have R:=R0
 obtain⟨dx,c0,hx,hc0⟩:=R
 have s200:=Ze3 hs m2
 have k200:=Ze3 ok.hk m2
 have g200:=Ze3 ok.hg m2
 have kp:Sb s e.k:=by
  cases t with
  | stop=>exact ro.1
  | dd _ _=>exact ro.1
  | lk _ _=>exact ro.1
  | nil=>exact okt.elim
  | way _ _ _=>exact okt.elim
 refine⟨_,(Zac (Zaw (i:=3) scFaults.nd (Zbl (pv 0) LE.cl m_chart G_chart hr1 b_chart .nil Zak))
  (Zac (Zaw (i:=4) scFaults.nd (Zbs (Zaa (Zbb (Zaa Za6 (Zaa (Zaq C_without hr1 Zak (Zaa (pv 2) (Zaa (Zbl (pv 0) LE.cl m_keep G_keep hr1 b_keep .nil Zak) Zab))) Zab))) Zab)))
  (Zac (Za2 (Zby (Zap Zco (by rfl) T.isi Zdb (Zaa (pv 1) (Zaa (Zcc (v:=.ref C.s) (by rfl) mS rfl) Zab)))) (Zag (Zaz (Zds PySem.F.plainAttrs_list PySem.F.slot_list_append PySem.F.type_list_append Za7 (pv 4) (Zaa (Zbb (Zaa Za6 (Zaa (Zaq C_without hr1 Zak (Zaa (pv 2) (Zaa (Zbl (pv 0) LE.cl m_goal G_goal hr1 b_goal .nil Zak) Zab))) Zab))) Zab)))) Zan)
  (Zac (Za2 (Zby (Zap Zco (by rfl) T.isi Zdb (Zaa (pv 1) (Zaa (Zcc (v:=.ref C.d) (by rfl) mD rfl) Zab)))) (Zag (Zaz (Zds PySem.F.plainAttrs_list PySem.F.slot_list_append PySem.F.type_list_append Za7 (pv 4) (Zaa (Zbb (Zaa Za6 (Zaa (Zaq C_without hr1 Zak (Zaa (pv 2) (Zaa (Zcb (pv 3) L.cl m_doable G_doable hr2 b_doable .nil Zak (Zaa (Zbm (pv 1) rfl) Zab)) Zab))) Zab))) Zab)))) Zan)
  (Zac (Za2 (Zby (Zap Zco (by rfl) T.isi Zdb (Zaa (pv 1) (Zaa (Zcc (v:=.ref C.l) (by rfl) mL rfl) Zab)))) (Zac (Zaz (Zds PySem.F.plainAttrs_list PySem.F.slot_list_append PySem.F.type_list_append Za7 (pv 4) (Zaa (Zbb (Zaa Za6 (Zaa (Zaq C_without hr1 Zak (Zaa (pv 2) (Zaa (Zcb (pv 3) L.cl m_doable G_doable hr2 b_doable .nil Zak (Zaa (Zbm (pv 1) rfl) Zab)) Zab))) Zab))) Zab)))
  (Zag (Zaz (Zds PySem.F.plainAttrs_list PySem.F.slot_list_append PySem.F.type_list_append Za7 (pv 4) (Zaa (Zbb (Zaa Za6 (Zaa (Zaq C_without hr1 Zak (Zaa (pv 2) (Zaa (Zaq C_answered hr3 Zak (Zaa (pv 3) (Zaa (pv 1) Zab))) Zab))) Zab))) Zab))))) Zan)
  (Zag (Zam (pv 4)))))))),?_⟩
 refine⟨_,rfl,x,dx,_,rfl,hx,Zie (by decide +kernel),x,m,e,rfl,R0,λc hc=>?_⟩
 obtain⟨cdx,p',o',a',q',d',kp',ko,ka,kq,kd,o1,o2,hc1,_⟩:=hc.ex
 refine⟨_,rfl,_,rfl,x,dx,_,rfl,hx,Zie (by decide +kernel),x,m,e,rfl,R0,_,_,rfl,?_⟩
 rw[out0 kp s200 k200]
 refine⟨by show 2<=sizeLine;lia,λt1 ht1=>⟨by show 1<=sizeLine;lia,λl hl=>?_⟩⟩
 have s1:Same H (upd H t1 (.tup [.str "keep",.int 0])):=Same.new ht1
 have e1:(upd H t1 (.tup [.str "keep",.int 0])) t1=some (.tup [.str "keep",.int 0]):=Zad
 generalize (upd H t1 (.tup [.str "keep",.int 0]))=H1 at s1 e1 hl ⊢
 obtain⟨H2,g0,s2,e2⟩:=gen1 (H:=H1) (o:=.lst [.ref t1]) hl
 rw[g0]
 have s02:=s1.trans s2
 have hl0:H l=none:=s1.free hl
 have t12:=s2 _ _ e1
 have nl1:t1≠l:=Zah e1 hl
 cases t with
 | stop=>
  obtain⟨o,ox,e',h⟩:=pl
  cases e'
  have h2:=s02 _ _ h
  refine⟨_,rfl,o,C.s,C.s,ox,_,rfl,h2,.inl ⟨Zcn,_,rfl,?_⟩⟩
  refine iteT ?_
  refine⟨_,rfl,.inl ⟨rfl,_,SqL.of e2⟩,_,rfl,_,rfl,x,dx,_,rfl,s02 _ _ hx,Zie (by decide +kernel),x,m,e,rfl,R0.same s02,_,_,rfl,?_⟩
  rw[out0 ro.2 s200 g200]
  refine⟨by show 2<=sizeLine;lia,λt2 ht2=>?_⟩
  obtain⟨H3,g0,s3,e3⟩:=gen1 (H:=H2) (o:=.tup [.str "goal",.int 0]) ht2
  rw[g0]
  have nl2:t2≠l:=(Zah e2 ht2).symm
  refine⟨l,_,_,rfl,rfl,s3 _ _ e2,by show 1<sizeLine;lia,?_⟩
  have s04:Same H (upd H3 l (.lst ([.ref t1]++[.ref t2]))):=(s02.trans s3).put hl0
  have h4:=s04 _ _ h
  refine⟨_,rfl,o,C.s,C.d,ox,_,rfl,h4,.inr ⟨I.nS,I.sD,_,rfl,?_⟩⟩
  refine iteF ?_
  dsimp only[tNext]
  refine⟨_,rfl,o,C.s,C.l,ox,_,rfl,h4,.inr ⟨I.nS,I.sL,_,rfl,?_⟩⟩
  refine iteF ?_
  dsimp only[tNext]
  refine⟨_,rfl,q l [t1,t2] _ s04 Zad (λt ht=>?_) (le_succ 2)⟩
  simp only[mem_cons,not_mem_nil,or_false]at ht
  rcases ht with rfl | rfl
  ·exact⟨_,by rw[Zaj nl1];exact s3 _ _ t12⟩
  exact⟨_,by rw[Zaj nl2];exact e3⟩
 | dd d r=>
  obtain⟨o,ox,w',e',h,_⟩:=pl
  cases e'
  obtain⟨_,de,hde,rfl,can⟩:=ro
  have h2:=s02 _ _ h
  have hst:(de.name,bt (doI (λn=>decide (bt n≠0)) de.tab))∈doOf e.ds e.ls:=mem_append_left _ (mem_map.mpr ⟨de,hde,rfl⟩)
  have sbd:Sb s (bt (doI (λn=>decide (bt n≠0)) de.tab)):=sb_bd (by rw[Znd (ok.ch.de de hde).len hs];exact can)
  refine⟨_,rfl,o,C.d,C.s,ox,_,rfl,h2,.inr ⟨I.nD,I.dS,_,rfl,?_⟩⟩
  refine iteF ?_
  dsimp only[tNext]
  refine⟨_,rfl,o,C.d,C.d,ox,_,rfl,h2,.inl ⟨Zcn,_,rfl,?_⟩⟩
  refine iteT ?_
  refine⟨_,rfl,.inl ⟨rfl,_,SqL.of e2⟩,_,rfl,_,rfl,c,cdx,_,rfl,s02 _ _ hc1,Ze8 (by decide +kernel),_,rfl,o,C.d,ox,_,_,rfl,h2,LD.cl,LD.n1,Zos _ w',c,m,_,_,de.name,rfl,hc.same s02,ok.ch.nd,.inr ⟨_,hst,rfl,_,_,rfl,?_⟩⟩
  rw[out0 sbd s200 (Zns ok.ch hst)]
  refine⟨by show 2<=sizeLine;lia,λt2 ht2=>?_⟩
  obtain⟨H3,g0,s3,e3⟩:=gen1 (H:=H2) (o:=.tup [.str "cannot",.int 0]) ht2
  rw[g0]
  have nl2:t2≠l:=(Zah e2 ht2).symm
  refine⟨l,_,_,rfl,rfl,s3 _ _ e2,by show 1<sizeLine;lia,?_⟩
  have s04:Same H (upd H3 l (.lst ([.ref t1]++[.ref t2]))):=(s02.trans s3).put hl0
  have h4:=s04 _ _ h
  refine⟨_,rfl,o,C.d,C.l,ox,_,rfl,h4,.inr ⟨I.nD,I.dL,_,rfl,?_⟩⟩
  refine iteF ?_
  dsimp only[tNext]
  refine⟨_,rfl,q l [t1,t2] _ s04 Zad (λt ht=>?_) (le_succ 2)⟩
  simp only[mem_cons,not_mem_nil,or_false]at ht
  rcases ht with rfl | rfl
  ·exact⟨_,by rw[Zaj nl1];exact s3 _ _ t12⟩
  exact⟨_,by rw[Zaj nl2];exact e3⟩
 | lk l' ws=>
  have pl0:=pl
  obtain⟨o,ox,u,us',e',h,_⟩:=pl
  cases e'
  obtain⟨_,lo,hlo,rfl,can,al⟩:=ro
  have h2:=s02 _ _ h
  have lol:=ok.ch.lo lo hlo
  have hst:(lo.name,bt (doI isSome lo.tab))∈doOf e.ds e.ls:=mem_append_right _ (mem_map.mpr ⟨lo,hlo,rfl⟩)
  have sbd:Sb s (bt (doI isSome lo.tab)):=sb_bd (by rw[Znc lol hs];exact can)
  refine⟨_,rfl,o,C.l,C.s,ox,_,rfl,h2,.inr ⟨I.nL,I.lS,_,rfl,?_⟩⟩
  refine iteF ?_
  dsimp only[tNext]
  refine⟨_,rfl,o,C.l,C.d,ox,_,rfl,h2,.inr ⟨I.nL,I.lD,_,rfl,?_⟩⟩
  refine iteF ?_
  dsimp only[tNext]
  refine⟨_,rfl,o,C.l,C.l,ox,_,rfl,h2,.inl ⟨Zcn,_,rfl,?_⟩⟩
  refine iteT ?_
  refine⟨_,rfl,.inl ⟨rfl,_,SqL.of e2⟩,_,rfl,_,rfl,c,cdx,_,rfl,s02 _ _ hc1,Ze8 (by decide +kernel),_,rfl,o,C.l,ox,_,_,rfl,h2,LL.cl,LL.n1,Znp _ (.ref u),c,m,_,_,lo.name,rfl,hc.same s02,ok.ch.nd,.inr ⟨_,hst,rfl,_,_,rfl,?_⟩⟩
  rw[out0 sbd s200 (Zns ok.ch hst)]
  refine⟨by show 2<=sizeLine;lia,λt2 ht2=>?_⟩
  obtain⟨H3,g0,s3,e3⟩:=gen1 (H:=H2) (o:=.tup [.str "cannot",.int 0]) ht2
  rw[g0]
  have nl2:t2≠l:=(Zah e2 ht2).symm
  refine⟨l,_,_,rfl,rfl,s3 _ _ e2,by show 1<sizeLine;lia,?_⟩
  have s04:Same H (upd H3 l (.lst ([.ref t1]++[.ref t2]))):=(s02.trans s3).put hl0
  have e4:(upd H3 l (.lst ([.ref t1]++[.ref t2]))) l=some (.lst [.ref t1,.ref t2]):=Zad
  have t14:(upd H3 l (.lst ([.ref t1]++[.ref t2]))) t1=some (.tup [.str "keep",.int 0]):=by rw[Zaj nl1];exact s3 _ _ t12
  have t24:(upd H3 l (.lst ([.ref t1]++[.ref t2]))) t2=some (.tup [.str "cannot",.int 0]):=by rw[Zaj nl2];exact e3
  generalize (upd H3 l (.lst ([.ref t1]++[.ref t2])))=H4 at s04 e4 t14 t24 ⊢
  refine⟨_,rfl,.inl ⟨rfl,_,SqL.of e4⟩,_,rfl,_,rfl,_,rfl,c,m,e,as,_,lo,ws,rfl,hc.same s04,ok,hlo,pl0.same s04,okt,λF H5 s5 hF=>⟨_,_,rfl,?_⟩⟩
  have f200:F<2^200:=lt_pow_two_of_testBit _ λi hi=>by
   cases hb:F.testBit i with
   | false=>rfl
   | true=>
    obtain⟨z,_,hz⟩:=(hF i).mp hb
    have:=(List.getElem?_eq_some_iff.mp hz).1
    lia
  have sbF:Sb s F:=sb_iff.mpr λi hi=>(hF i).mpr (al i hi)
  rw[out0 sbF s200 f200]
  refine⟨by show 2<=sizeLine;lia,λt3 ht3=>?_⟩
  obtain⟨H6,g0,s6,e6⟩:=gen1 (H:=H5) (o:=.tup [.str "answer",.int 0]) ht3
  rw[g0]
  have e45:=s5 _ _ e4
  have nl3:t3≠l:=(Zah e45 ht3).symm
  refine⟨l,_,_,rfl,rfl,s6 _ _ e45,by show 2<sizeLine;lia,?_⟩
  have s56:=s5.trans s6
  refine⟨_,rfl,q l [t1,t2,t3] _ ((s04.trans s56).put hl0) Zad (λt ht=>?_) (Nat.le_refl 3)⟩
  simp only[mem_cons,not_mem_nil,or_false]at ht
  rcases ht with rfl | rfl | rfl
  ·exact⟨_,by rw[Zaj nl1];exact s56 _ _ t14⟩
  ·exact⟨_,by rw[Zaj nl2];exact s56 _ _ t24⟩
  exact⟨_,by rw[Zaj nl3];exact e6⟩
 | nil=>exact okt.elim
 | way _ _ _=>exact okt.elim
theorem ok_walked {f CE CC f1:Addr}{C:C3}{fd d1:FuncData}(F:Fun K "walked" "walked" Zfz f fd)(T:Bl mg)(LE:ClE K CE)(b_chart:Binds K d1 ["self"] [])(m_chart:Meth K CE "chart" f1)(G_chart:FnOk P w K mg base CX0 1 f1 d1 Zb0 (spErChart CE CC))
  (C_rows_in:Ca P w K mg base CX0 3 "rows_in" Zho Zj1 (spRowsIn C))(C_check_names:Ca P w K mg base CX0 2 "check_names" Zcs Zd8 (spCheckNames C CC))
  (C_led_on:Ca P w K mg base CX0 6 "led_on" Zki Zme (spLedOn C CC))(C_check_row:Ca P w K mg base CX0 5 "check_row" Zc8 Zgl (spCheckRow C CE CC)):FnOk P w K mg base CX0 7 f fd Zgg (spWalked C CE CC):=by
 refine F.oq scWalked λcdv A outer s0 H vs Q E hr6 h=>?_
 obtain⟨x,m,e,as,v,t,s,rfl,R0,ok,hs,pl,okt,wt,gd,q⟩:=h
 have hr5:Room 5 _:=hr6.mono (by decide)
 have hr3:Room 3 _:=hr6.mono (by decide)
 have hr2:Room 2 _:=hr6.mono (by decide)
 have hr1:Room 1 _:=hr6.mono (by decide)
 have hsl:sizeLine=16777216:=sizeLine_eq
 have R:=R0
 obtain⟨dx,c0,hx,hc0⟩:=R
 have Clen:=Zb1 e t Str.empty s
 have wts:=Zju t
 generalize hC:rwS e t Str.empty s=Cs at Clen q
 have fullE:rstP [(t,none,none)] 0=rwsP t 0 none none:=by
  show rwsP t 0 none none++[]=_
  rw[append_nil]
 have flen:=Zca t 0 none none
 have rowOk:∀(i:Nat) (y:Rw) (c:Nat),(rwsP t 0 none none)[i]? = some y->Cs[i]? = some c->Zg1 e y.1 c:=by
  rw[<- hC]
  exact Zgr t Str.empty s 0 none none gd
 have led:∀(i:Nat) (y:Rw) (c:Nat),(rwsP t 0 none none)[i]? = some y->Cs[i]? = some c->(y.2.1=none/\c=s)\/∃k tk ck,y.2.1=some k/\k<i/\(rwsP t 0 none none)[k]?.map (·.1)=some tk/\Cs[k]? = some ck/\KdOk tk y.2.2/\c=ledT e tk y.2.2 ck:=λi y c h1 h2=>by
  rw[<- hC]at h2
  rcases Zep (e:=e) (rwsP t 0 none none) Cs t true Str.empty s 0 none none okt (λi x h=>by rw[Nat.zero_add];exact h) (λi c h=>by rw[Nat.zero_add,<- hC];exact h) i y c h1 h2 with⟨e1,⟨_,_,e3⟩ | ⟨z,_⟩⟩ | ⟨k,tk,ck,e1,_,k2,r1⟩
  ·exact .inl ⟨e1,e3⟩
  ·cases z
  exact .inr ⟨k,tk,ck,e1,by lia,r1⟩
 have ltC:∀c∈Cs,c<2^m:=by
  rw[<- hC]
  exact Zhb ok t Str.empty s hs
 have nms:∀y∈rwsP t 0 none none,NmOk e.ds e.ls y.1:=λy hy=>by
  obtain⟨i,hi⟩:=getElem?_of_mem hy
  have hil:=(List.getElem?_eq_some_iff.mp hi).1
  have r1:=rowOk i y _ hi (getElem?_eq_getElem (show i<Cs.length by lia))
  obtain⟨tr,ab,an⟩:=y
  cases tr with
  | dd d r=>obtain⟨_,de,h1,h2,_⟩:=r1;exact mem_map.mpr ⟨de,h1,h2⟩
  | lk l ws=>obtain⟨_,lo,h1,h2,_⟩:=r1;exact mem_map.mpr ⟨lo,h1,h2⟩
  | stop=>trivial
  | nil=>trivial
  | way _ _ _=>trivial
 have a0:∀u v z:V,atI [u,v,z] ((0:Nat):Int)=some u:=λ_ _ _=>Zal rfl
 refine⟨_,(Zac (Zaw (i:=3) scWalked.nd (Zbl (pv 0) LE.cl m_chart G_chart hr1 b_chart .nil Zak))
  (Zac (Zaw (i:=4) scWalked.nd (Zaq C_rows_in hr3 Zak (Zaa (pv 2) Zab)))
  (Zac (Zaz (Zaq C_check_names hr2 Zak (Zaa (pv 3) (Zaa (pv 4) Zab))))
  (Zac (Zaw (i:=5) scWalked.nd (Zbs Zab))
  (Zac (Zbh PassesOwn.never rfl (Za4 (pv 4)) (Zcm rfl (Zax (Za3 (i:=6) scWalked.nd) (Zax (Za3 (i:=7) scWalked.nd) (Zax (Za3 (i:=8) scWalked.nd) Zbw))))
   (Zac (Zaw (i:=9) scWalked.nd (Zfr (Zao Zi3 (pv 7) Zbz (Zar _)) (pv 1) (Zaq C_led_on hr6 Zak (Zaa (pv 3) (Zaa (Zas Zat (Zas Zbj (pv 4) (pv 7) (λ_ _=>rfl)) Zae (λ_ _=>rfl)) (Zaa (pv 8) (Zaa (Zas Zbj (pv 5) (pv 7) (λ_ _=>rfl)) Zab)))))))
  (Zac (Zaz (Zaq C_check_row hr5 Zak (Zaa (pv 0) (Zaa (Zap Za8 (by rfl) T.len PySem.boot_len (Zaa (pv 5) Zab)) (Zaa (pv 6) (Zaa (pv 9) Zab))))))
  (Zag (Zaz (Zds PySem.F.plainAttrs_list PySem.F.slot_list_append PySem.F.type_list_append Za7 (pv 5) (Zaa (pv 9) Zab)))))))
  (Zag (Zam (pv 5)))))))),?_⟩
 refine⟨_,rfl,x,dx,_,rfl,hx,Zie (by decide +kernel),x,m,e,rfl,R0,λc hc=>?_⟩
 refine⟨_,rfl,v,t,rfl,pl,okt,wt,λr us H1 s1 hr er zr=>?_⟩
 rw[fullE]at zr
 refine⟨_,rfl,_,rfl,c,r,m,_,_,us,_,rfl,hc.same s1,ok.ch.nd,er,zr,nms,?_⟩
 have ul:=zr.len
 refine⟨zero_le _,λcm hcm=>?_⟩
 have hcm0:H cm=none:=s1.free hcm
 obtain⟨H2,g0,s2,e2⟩:=gen1 (H:=H1) (o:=.lst []) hcm
 rw[g0]
 refine⟨_,rfl,r,rfl,⟨_,SqL.of (s2 _ _ er)⟩,?_⟩
 refine Zbc (K:=K) (a:=r) (xs:=us) (λi σ H3=>∃(v6 v7 v8 v9:Option V),σ = [some (.ref x),some (.int (s:Int)),some v,some (.ref c),some (.ref r),some (.ref cm),v6,v7,v8,v9]/\Same H1 H3/\H3 cm=some (.lst (nV (Cs.take i))))
  ⟨none,none,none,none,rfl,s2,e2⟩ (λi σ H3 _ hh0=>by obtain⟨_,_,_,_,_,z,_⟩:=hh0;exact SqL.of (z _ _ er)) ?_ ?_
 ·rintro i y' σ H3 hy ⟨v6,v7,v8,v9,rfl,s3,ecm⟩
  obtain⟨y,hyx,tt,pv,rfl,htt,ply,oky⟩:=zr.at hy
  have hi:=(List.getElem?_eq_some_iff.mp hyx).1
  have hiC:i<Cs.length:=by lia
  have hCi:Cs[i]? = some Cs[i]:=getElem?_eq_getElem hiC
  have htk:Cs.take (i+1)=Cs.take i++[Cs[i]]:=take_succ_eq_append_getElem hiC
  have r1:=rowOk i y _ hyx hCi
  have l1:=led i y _ hyx hCi
  have lt1:=ltC _ (getElem_mem hiC)
  generalize Cs[i]=ci at hCi htk r1 l1 lt1
  have s03:=s1.trans s3
  have tl:(nV (Cs.take i)).length=i:=by rw[length_map,length_take];lia
  refine⟨tt,_,rfl,SqT.of (s3 _ _ htt),rfl,_,_,rfl,_,_,rfl,_,_,rfl,rfl,?_⟩
  refine Zdw (λσ' H'=>σ'=[some (.ref x),some (.int (s:Int)),some v,some (.ref c),some (.ref r),some (.ref cm),some pv,some (oN y.2.1),some (oS y.2.2),some (.int (ci:Int))]/\Same H3 H') ?_ ?_
  ·rintro σ' H4 ⟨rfl,s4⟩
   have ecm4:=s4 _ _ ecm
   have s04:=s03.trans s4
   refine⟨_,rfl,_,rfl,_,_,rfl,.inl ⟨_,SqL.of ecm4,rfl⟩,_,rfl,_,rfl,x,m,(nV (Cs.take i)).length,e,as,pv,y.1,ci,rfl,R0.same s04,ok,lt1,(ply.same s3).same s4,oky,r1,λH5 s5=>?_⟩
   have ecm5:=s5 _ _ ecm4
   refine⟨_,rfl,.inl ⟨rfl,_,SqL.of ecm5⟩,_,rfl,cm,_,_,rfl,rfl,ecm5,by lia,?_⟩
   refine⟨_,_,_,_,rfl,((s3.trans s4).trans s5).put hcm,?_⟩
   rw[Zad,htk]
   show _=some (HO.lst (List.map (λy:Nat=>V.int (y:Int)) (_++_)))
   rw[map_append]
   rfl
  intro N hN
  refine⟨_,rfl,rfl,_,rfl,?_⟩
  rcases l1 with⟨e1,e3⟩ | ⟨k,tk,ck,e1,k1,fk,ckk,kd,e3⟩
  ·rw[e1]
   refine iteT ?_
   refine⟨_,rfl,hN _ _ ⟨?_,Same.refl _⟩⟩
   rw[e1,e3]
   rfl
  rw[e1]
  refine iteF ?_
  have hku:us[k]? = some (us[k]'(by lia)):=getElem?_eq_getElem (by lia)
  obtain⟨yk,hyk,tk',pvk,etk,htk',plk,okk⟩:=zr.at hku
  have etk2:yk.1=tk:=by
   rw[hyk]at fk
   exact Option.some.inj fk
  have rk:=rowOk k yk ck hyk ckk
  rw[etk2]at rk okk plk
  have hkc:(nV (Cs.take i))[k]? = some (.int (ck:Int)):=by
   rw[getElem?_map,getElem?_take_of_lt k1,ckk]
   rfl
  refine⟨_,rfl,_,rfl,_,rfl,r,_,_,_,rfl,rfl,SqL.of (s3 _ _ er),Zal (by rw[hku,etk]),tk',_,_,_,rfl,rfl,SqT.of (s3 _ _ htk'),a0 _ _ _,_,rfl,_,rfl,_,rfl,cm,_,_,_,rfl,rfl,SqL.of ecm,Zal hkc,c,m,e,as,pvk,tk,y.2.2,ck,rfl,(hc.same s1).same s3,ok,ltC _ (mem_of_getElem? ckk),plk.same s3,okk,rk,kd,λH4 s4=>?_⟩
  refine hN _ _ ⟨?_,s4⟩
  rw[e1,e3]
  rfl
 rintro σ H3 ⟨v6,v7,v8,v9,rfl,s3,ecm⟩
 have e9:Cs.take us.length=Cs:=take_of_length_le (by lia)
 rw[e9]at ecm
 exact⟨_,rfl,q cm H3 (s1.trans s3) hcm0 ecm⟩
theorem ok_does {f CE CC f1:Addr}{C:C3}{fd d1:FuncData}(F:Fun K "does" "does" Znj f fd)(D_walked:Df K mg "walked" Zfz Zgg f1 d1)(G_walked:FnOk P w K mg base CX0 7 f1 d1 Zgg (spWalked C CE CC)):FnOk P w K mg base CX0 8 f fd Zop (spDoes C CE CC):=by
 refine F.oq scDoes λcdv A outer s0 H vs Q E hr7 h=>?_
 obtain⟨x,m,e,as,v,t,s,rfl,R0,ok,hs,pl,okt,wt,gd,q⟩:=h
 refine⟨_,(Zac (ps_try0 G_walked hr7 (by rfl) D_walked.m D_walked.F.kp D_walked.b (λpn xe=>(Zaa (pv 0) (Zaa (pv 1) (Zaa (pv 2) Zab)))))
  (Zag (Zam Zfj))),?_⟩
 exact⟨_,rfl,_,rfl,_,rfl,x,m,e,as,v,t,s,rfl,R0,ok,hs,pl,okt,wt,gd,λr H' s' _ _=>q H' s'⟩
theorem ok_table {f:Addr}{fd:FuncData}(F:Fun K "_law_table" "_law_table" Zd0 f fd):FnOk P w K mg base CX0 1 f fd Zd5 spTable:=by
 refine F.oq scLTable λcdv A outer s H vs Q E hr h=>?_
 obtain⟨a,us,n,nms,tb,rfl,ha,st,q⟩:=h
 refine⟨_,(Zac (Zbh PassesOwn.never rfl (Za4 (pv 0)) (Za3 (i:=2) scLTable.nd)
   (Zag (Za2 (Zao Zbt (Zas Zat (pv 2) Zae (λ_ _=>rfl)) (pv 1) (Zar _)) (Zag (Zam (Zas Zat (pv 2) Zae (λ_ _=>rfl)))) Zan)))
  (Zag (Zam Zbz))),?_⟩
 have hul:=st.len
 refine⟨_,rfl,a,rfl,⟨_,SqL.of ha⟩,Zbc (K:=K) (a:=a) (xs:=us) (λi σ H2=>∃(v2:Option V),σ = [some (.ref a),some (.str n),v2]/\H2=H/\n∉nms.take i)
  ⟨none,rfl,rfl,by simp⟩ (λi σ H2 _ hh0=>by obtain⟨_,_,z,_⟩:=hh0;rw[z];exact SqL.of ha) ?_ ?_⟩
 ·rintro i v σ H2 hv ⟨v2,rfl,rfl,no⟩
  have hi:i<nms.length:=by
   have:=(List.getElem?_eq_some_iff.mp hv).1
   lia
  have hn:nms[i]? = some nms[i]:=getElem?_eq_getElem hi
  obtain⟨p,ta,rfl,et⟩:=st.got i v _ hv hn
  have at0:atI [V.str nms[i],V.int p,V.ref (tb i)] ((0:Nat):Int)=some (.str nms[i]):=Zal rfl
  have at2:atI [V.str nms[i],V.int p,V.ref (tb i)] ((2:Nat):Int)=some (.ref (tb i)):=Zal rfl
  refine⟨_,rfl,ta,_,_,_,rfl,rfl,SqT.of et,at0,_,rfl,rfl,_,rfl,?_⟩
  refine ite2 (λhc=>?_) (λhc=>?_)
  ·have e:nms[i]=n:=V.str.inj (of_decide_eq_true hc)
   rcases q with⟨no',q⟩ | ⟨j,hj,nn,q⟩
   ·exact absurd (mem_of_getElem? (hn.trans (by rw[e]))) no'
   have:i=j:=(List.getElem?_inj hi nn).mp (by rw[hn,hj,e])
   subst this
   exact⟨_,rfl,ta,_,_,_,rfl,rfl,SqT.of et,at2,q⟩
  refine⟨_,rfl,rfl,λz=>?_⟩
  rw[take_succ,hn]at z
  rcases(mem_append.mp z)with z | z
  ·exact no z
  have e:n=nms[i]:=mem_singleton.mp z
  exact hc (decide_eq_true (by rw[<- e]))
 rintro σ H2 ⟨v2,rfl,rfl,no⟩
 rw[hul,take_length]at no
 rcases q with⟨_,q⟩ | ⟨j,hj,_,q⟩
 ·exact q
 exact absurd (mem_of_getElem? hj) no
def okW:Bool->Pn->Prop
 | true,.stop=>True
 | true,.dd d r=>Lb d/\okW true r
 | true,.lk l ws=>Lb l/\okW false ws
 | false,.nil=>True
 | false,.way a p r=>Lb a/\okW true p/\okW false r
 | _,_=>False
theorem okP.wk:∀{t:Pn}{p:Bool},okP p t->okW p t
 | .stop,true,_=>trivial
 | .dd _ _,true,h=>⟨h.1,okP.wk h.2⟩
 | .lk _ _,true,h=>⟨h.1,okP.wk h.2.2.2⟩
 | .nil,false,_=>trivial
 | .way _ _ _,false,h=>⟨h.1,okP.wk h.2.1,okP.wk h.2.2⟩
 | .stop,false,h=>h.elim
 | .dd _ _,false,h=>h.elim
 | .lk _ _,false,h=>h.elim
 | .nil,true,h=>h.elim
 | .way _ _ _,true,h=>h.elim
def isW:Pn->Prop
 | .nil=>True
 | .way _ _ r=>isW r
 | _=>False
theorem PlAt.wy {C:C3}{H:Hp}:∀{ws:Pn}{us:List V},isW ws->PlAt C H ws us->WyAt H us (anP ws)
 | .nil,us,_,e=>by
  rw[show us=[] from e]
  exact⟨rfl,λi u a h=>by cases h⟩
 | .way a p r,us,h,⟨t,v,us',e,h1,_,h3⟩=>by
  have ih:=PlAt.wy (ws:=r) h h3
  rw[e]
  refine⟨congrArg (· + 1) ih.len,λi u a' g1 g2=>?_⟩
  cases i with
  | zero=>
   cases g1
   cases g2
   exact⟨t,v,rfl,h1⟩
  | succ i=>exact ih.got i u a' g1 g2
theorem an_ne {ws:Pn}(h:isW ws)(n:ws≠.nil):anP ws≠[]:=by
 cases ws with
 | nil=>exact absurd rfl n
 | way a p r=>exact List.cons_ne_nil _ _
 | stop=>exact h.elim
 | dd _ _=>exact h.elim
 | lk _ _=>exact h.elim
structure MkO (K:W.Frag)(C:Addr):Prop where
 ma:PySem.W.makesIn K C=true
 hi:PySem.W.findIn K (.ref C) "__init__" = some (some (.builtin "object.__init__"))
 so:PySem.W.subIn K (.ref C) (.type "object")=some true
 kp:PySem.W.keepIn K (.ref C)=true
theorem Zmt {t:Pn}(h:okW true t):1<=htP t:=by
 cases t with
 | stop=>exact Nat.le_refl _
 | dd _ _=>exact Nat.le_add_left ..
 | lk _ _=>exact Nat.le_add_left ..
 | nil=>exact h.elim
 | way _ _ _=>exact h.elim
theorem Zid {f:Addr}{fd:FuncData}{k:Nat}{ps:List Str}{sp:Sp}(h:∀vs H Q E,¬sp vs H Q E):FnOk P w K mg base CX0 k f fd ps sp:=⟨λvs H Q E z=>absurd z (h vs H Q E),λ_ _ _ H _ _ vs Q E _ _ _ _ z=>absurd z (h vs H Q E)⟩
def wyL:Pn->List (Str×Pn)
 | .way a p r=>(a,p)::wyL r
 | _=>[]
def WtV (H:Hp)(n m:Nat)(v:V)(x:Str×Pn):Prop:=∃(t:Addr) (u:V),v=.ref t/\H t=some (.tup [.str x.1,u])/\TrAt H x.2 [u]/\Lb x.1/\okW true x.2/\htP x.2<=n/\wtP x.2<=m
theorem WtV.same {H H':Hp}{n m:Nat}(s:Same H H')(v:V)(x:Str×Pn):WtV H n m v x->WtV H' n m v x:=λ⟨t,u,e,h,tr,z⟩=>⟨t,u,e,s _ _ h,tr.same s,z⟩
theorem Zhj {H:Hp}{n m:Nat}:∀{ws:Pn}{us:List V},okW false ws->htP ws<=n->wtP ws<=m->TrAt H ws us->Z2 (WtV H n m) us (wyL ws)
 | .nil,us,_,_,_,e=>by
  rw[show us=[] from e]
  exact .nil
 | .way a p r,us,h,hh,hw,⟨t,v,us',e,h1,h2,h3⟩=>by
  rw[e]
  have hh':max (htP p) (htP r)<=n:=hh
  have hw':wtP p+wtP r+1<=m:=hw
  have hm:=Nat.max_le.mp hh'
  have z1:wtP p<=m:=by lia
  have z2:wtP r<=m:=by lia
  exact .cons ⟨t,v,rfl,h1,h2,h.1,h.2.1,hm.1,z1⟩ (Zhj h.2.2 hm.2 z2 h3)
theorem wy_an:∀ws:Pn,(wyL ws).length=(anP ws).length
 | .way a p r=>congrArg (· + 1) (wy_an r)
 | .nil=>rfl
 | .stop=>rfl
 | .dd _ _=>rfl
 | .lk _ _=>rfl
theorem Zn7:∀{ws:Pn},okP false ws->ofL (wyL ws) .nil=ws
 | .nil,_=>rfl
 | .way a p r,h=>congrArg (Pn.way a p) (Zn7 h.2.2)
 | .stop,h=>h.elim
 | .dd _ _,h=>h.elim
 | .lk _ _,h=>h.elim
theorem Znf:∀{ws:Pn},okP false ws->∀y∈wyL ws,Lb y.1/\okP true y.2
 | .way a p r,h,y,hy=>by
  rcases(mem_cons.mp hy)with e | hy
  ·rw[e]
   exact⟨h.1,h.2.1⟩
  exact Znf h.2.2 y hy
 | .nil,_,_,hy=>nomatch hy
 | .stop,h,_,_=>h.elim
 | .dd _ _,h,_,_=>h.elim
 | .lk _ _,h,_,_=>h.elim
inductive spPlanL (C:C3)(n:Nat)(vs:List V)(H:Hp)(Q:VK)(E0_:XK):Prop
 | mk (v:V) (t:Pn) (c0:vs=[v]) (c1:TrAt H t [v]) (c2:okP true t) (c3:htP t<=n) (c4:∀(v':V) (H':Hp),Same H H'->PlAt C H' t [v']->Q v' H'):spPlanL C n vs H Q E0_
abbrev Zkz:List Str:=["_law_tree"]
abbrev nLPlan:List Str:=["_law_tree"]
theorem scLPlan:FnScope nLPlan Zkz (Zaf Zg9):=Zav
theorem Zk4 {f fD fL:Addr}{C:C3}{fd dD dL:FuncData}(F:Fun K "_law_plan" "_law_plan" Zg9 f fd)(D_l_plan:Df K mg "_law_plan" Zg9 Zkz f fd)(OS:MkO K C.s)(mS:mg "Stop" = some (.ref C.s))(MD:L2.Mk K C.d fD)(mD:mg "Do" = some (.ref C.d))(bD:Binds K dD ["self", "deed", "rest"] [])(GD:FnOk P w K mg base CX0 1 fD dD Zj6 (spDoInit C.d))
  (ML:L2.Mk K C.l fL)(mL:mg "Look" = some (.ref C.l))(bL:Binds K dL ["self", "look", "ways"] [])(GL:FnOk P w K mg base CX0 2 fL dL Zgi (spLkInit C.l)):∀n:Nat,FnOk P w K mg base CX0 (4+n) f fd Zkz (spPlanL C n)
 | 0=>Zid λvs H Q E h=>by
  obtain⟨v,t,_,_,ok,h0,_⟩:=h
  have:=Zmt ok.wk
  lia
 | n+1=>by
  have G_l_plan:=Zk4 F D_l_plan OS mS MD mD bD GD ML mL bL GL n
  refine F.ok (k:=4+n) scLPlan (λvs H Q E h=>?_) (λcdv A outer s H vs Q E hrP h=>?_)
  ·obtain⟨v,t,rfl,_⟩:=h
   rfl
  obtain⟨v,t,rfl,tr,ok,hn,q⟩:=h
  have hr2:Room 2 _:=hrP.mono (by lia)
  have hr3:Room 3 _:=hrP.mono (by lia)
  have hsl:sizeLine=16777216:=sizeLine_eq
  refine⟨_,(Zac (Za2 (Zao Zbt (Zas Zat (pv 0) Zae (λ_ _=>rfl)) Za6 (Zar _)) (Zag (Zam (pe_makeO OS.ma OS.hi OS.so OS.kp (by rfl) mS))) Zan)
  (Zac (Za2 (Zao Zbt (Zas Zat (pv 0) Zae (λ_ _=>rfl)) Za6 (Zar _)) (Zag (Zam (Zgd MD GD hr2 (by rfl) mD bD .nil Zak (Zaa (Zas Zat (pv 0) Zae (λ_ _=>rfl)) (Zaa (Za5 G_l_plan hrP (by rfl) D_l_plan.m D_l_plan.F.kp D_l_plan.b .nil Zak (Zaa (Zas Zat (pv 0) Zae (λ_ _=>rfl)) Zab)) Zab))))) Zan)
  (Zag (Zam (Zgd ML GL hr3 (by rfl) mL bL .nil Zak (Zaa (Zas Zat (pv 0) Zae (λ_ _=>rfl)) (Zaa (Zcw (N:=["_law_way"]) (sc:=Zaf Zg9) (own:=["_law_way"]) (fr:=[]) (js:=[]) Zb4 rfl (Za4 (Zas Zat (pv 0) Zae (λ_ _=>rfl))) (λ_ _ _ _=>Za3 (i:=0) (show List.Nodup (["_law_way"]:List Str) by decide +kernel)) (λ_ _ _ _=>Zbn) (λ_ _ _ _=>(Zbb (Zaa (Zas (Zb2 K rfl) (pv 0) Zae (λ_ _=>rfl)) (Zaa (Za5 G_l_plan hrP (by rfl) D_l_plan.m D_l_plan.F.kp D_l_plan.b .nil Zak (Zaa (Zas (Zb2 K rfl) (pv 0) Zae (λ_ _=>rfl)) Zab)) Zab))))) Zab))))))),?_⟩
  cases t with
  | nil=>exact ok.elim
  | way _ _ _=>exact ok.elim
  | stop=>
   obtain⟨a,e,h⟩:=tr
   cases e
   refine⟨_,rfl,a,_,_,_,rfl,rfl,SqT.of h,Zal (j:=0) (v:=V.str Zdu) rfl,rfl,_,rfl,?_⟩
   refine ite2 (λ_=>?_) (λz=>absurd (decide_eq_true rfl) z)
   intro o dx ho hdx dn
   exact q (.ref o) _ ((Same.new hdx).trans (Same.new (by rw[Zaj dn.symm];exact ho))) ⟨o,dx,rfl,Zad⟩
  | dd d r=>
   obtain⟨a,v',e,h,tr'⟩:=tr
   cases e
   have a0:atI [V.str (Str.ofString "do"),.str d,v'] ((0:Nat):Int)=some (.str (Str.ofString "do")):=Zal rfl
   have a1:atI [V.str (Str.ofString "do"),.str d,v'] ((1:Nat):Int)=some (.str d):=Zal rfl
   have a2:atI [V.str (Str.ofString "do"),.str d,v'] ((2:Nat):Int)=some v':=Zal rfl
   have hh':htP r+1<=n+1:=hn
   refine⟨_,rfl,a,_,_,_,rfl,rfl,SqT.of h,a0,rfl,_,rfl,?_⟩
   refine ite2 (λz=>absurd (V.str.inj (of_decide_eq_true z)) (by decide +kernel)) (λ_=>?_)
   dsimp only[tNext]
   refine⟨_,rfl,a,_,_,_,rfl,rfl,SqT.of h,a0,rfl,_,rfl,?_⟩
   refine ite2 (λ_=>?_) (λz=>absurd (decide_eq_true rfl) z)
   refine⟨_,rfl,a,_,_,_,rfl,rfl,SqT.of h,a1,_,rfl,a,_,_,_,rfl,rfl,SqT.of h,a2,v',r,rfl,tr',ok.2,by lia,λpv H1 s1 pl1=>?_⟩
   intro o dx ho hdx dn
   obtain⟨H2,g0,s2,e2⟩:=gen2 (C:=C.d) ho hdx dn
   rw[g0]
   refine⟨o,dx,d,pv,rfl,e2,λH3 k3 e3=>⟨rfl,?_⟩⟩
   have s13:Same H1 H3:=λc u e=>k3 c u (s2 _ _ e) (Zah e ho)
   exact q (.ref o) H3 (s1.trans s13) ⟨o,dx,pv,rfl,e3,pl1.same s13⟩
  | lk l ws=>
   obtain⟨a,u,us,e,h,hu,tr'⟩:=tr
   cases e
   have a0:atI [V.str (Str.ofString "look"),.str l,.ref u] ((0:Nat):Int)=some (.str (Str.ofString "look")):=Zal rfl
   have a1:atI [V.str (Str.ofString "look"),.str l,.ref u] ((1:Nat):Int)=some (.str l):=Zal rfl
   have a2:atI [V.str (Str.ofString "look"),.str l,.ref u] ((2:Nat):Int)=some (.ref u):=Zal rfl
   have hh':htP ws+1<=n+1:=hn
   refine⟨_,rfl,a,_,_,_,rfl,rfl,SqT.of h,a0,rfl,_,rfl,?_⟩
   refine ite2 (λz=>absurd (V.str.inj (of_decide_eq_true z)) (by decide +kernel)) (λ_=>?_)
   dsimp only[tNext]
   refine⟨_,rfl,a,_,_,_,rfl,rfl,SqT.of h,a0,rfl,_,rfl,?_⟩
   refine ite2 (λz=>absurd (V.str.inj (of_decide_eq_true z)) (by decide +kernel)) (λ_=>?_)
   dsimp only[tNext]
   have okw:=ok.2.2.2
   have zt:=Zhj (n:=n) (m:=wtP ws) okw.wk (by lia) (Nat.le_refl _) tr'
   have l1:=zt.len
   have l2:=wy_an ws
   have l3:=ok.2.2.1.2
   refine⟨_,rfl,a,_,_,_,rfl,rfl,SqT.of h,a1,_,rfl,a,_,_,_,rfl,rfl,SqT.of h,a2,u,rfl,⟨_,SqL.of hu⟩,λD hD=>?_⟩
   refine lcJ (n:=us.length) (λi ys H4=>PlAt C H4 (ofL ((wyL ws).take i) .nil) ys/\ys.length=i/\Same H H4/\H4 D=some (.lst ys)) ⟨rfl,rfl,Same.new hD,Zad⟩
    (λi ys H4 hi hh0=>by obtain⟨_,_,s4,_⟩:=hh0;exact⟨_,us[i],SqL.of (s4 _ _ hu),by simp[hi]⟩) (λys H4 hh0=>by obtain⟨_,_,s4,_⟩:=hh0;exact⟨_,SqL.of (s4 _ _ hu),by simp⟩) ?_ ?_
   ·rintro i ys HZ y H4 hi ⟨pl4,yl,s4,e4⟩ ⟨rfl,hy⟩
    refine Zbu ?_
    obtain⟨x,hx,t',v',rfl,ht',trx,_,_,hnx,_⟩:=(zt.mono (WtV.same s4)).at (hy _ (SqL.of (s4 _ _ hu)))
    obtain⟨_,okx⟩:=Znf okw x (mem_of_getElem? hx)
    have b0:atI [V.str x.1,v'] ((0:Nat):Int)=some (.str x.1):=Zal rfl
    have b1:atI [V.str x.1,v'] ((1:Nat):Int)=some v':=Zal rfl
    refine⟨_,rfl,t',_,_,_,rfl,rfl,SqT.of ht',b0,_,rfl,t',_,_,_,rfl,rfl,SqT.of ht',b1,v',x.2,rfl,trx,okx,hnx,λpv H5 s5 pl5=>?_⟩
    refine⟨by show 2<=sizeLine;lia,λtp htp=>?_⟩
    obtain⟨H6,g0,s6,e6⟩:=gen1 (H:=H5) (o:=.tup [.str x.1,pv]) htp
    rw[g0]
    have s46:=s5.trans s6
    have eD:=s46 _ _ e4
    obtain⟨hi2,ex⟩:=List.getElem?_eq_some_iff.mp hx
    refine⟨_,eD,by lia,?_,by rw[length_append,yl];rfl,(s4.trans s46).put hD,Zad⟩
    have kD:∀c u,H6 c=some u->c≠D->(upd H6 D (.lst (ys++[.ref tp]))) c=some u:=λc u e hc=>by rw[Zaj hc];exact e
    rw[take_succ_eq_append_getElem hi2,ex]
    exact PlAt.put (a:=x.1) (p:=x.2) (kD _ _ e6 (Zbg e6 eD (by intro z;cases z))) ((pl5.same s6).kx kD eD) ((pl4.same s46).kx kD eD)
   rintro ys H4 ⟨pl4,yl,s4,e4⟩
   rw[l1,take_length,Zn7 okw]at pl4
   have hw:isW ws:=by
    have:∀{ws:Pn},okP false ws->isW ws:=λ{ws}=>by
     induction ws with
     | nil=>exact λ_=>trivial
     | way a p r _ ih=>exact λh=>ih h.2.2
     | stop=>exact λh=>h.elim
     | dd _ _ _=>exact λh=>h.elim
     | lk _ _ _=>exact λh=>h.elim
    exact this okw
   intro o dx ho hdx dn
   obtain⟨H5,g0,s5,e5⟩:=gen2 (C:=C.l) ho hdx dn
   rw[g0]
   refine⟨o,dx,D,l,ys,anP ws,rfl,e5,s5 _ _ e4,(pl4.same s5).wy hw,an_ne hw ok.2.1,ok.2.2.1.1,ok.2.2.1.2,λtw H6 k6 e6 etw=>⟨rfl,?_⟩⟩
   have s46:Same H4 H6:=λc u e=>k6 c u (s5 _ _ e) (Zah e ho)
   exact q (.ref o) H6 (s4.trans s46) ⟨o,dx,tw,ys,rfl,e6,etw,pl4.same s46⟩
structure Dat (H:Hp)(dt:Addr)(e:Ed):Prop where
 ex:∃(l1 l2:Addr) (us ws:List V),H dt=some (.tup [.ref l1,.ref l2,.int (e.g:Int),.int (e.k:Int)])/\H l1=some (.lst us)/\H l2=some (.lst ws)/\A2 (DeV H) us e.ds/\A2 (LoV H) ws e.ls
theorem Dat.same {H H':Hp}{dt:Addr}{e:Ed}(h:Dat H dt e)(s:Same H H'):Dat H' dt e:=by
 obtain⟨l1,l2,us,ws,h1,h2,h3,h4,h5⟩:=h.ex
 exact⟨l1,l2,us,ws,s _ _ h1,s _ _ h2,s _ _ h3,h4.mono λv t _ r=>r.same s,h5.mono λv t _ r=>r.same s⟩
inductive spBehindL (vs:List V)(H:Hp)(Q:VK)(E0_:XK):Prop
 | mk (dt tt:Addr) (m:Nat) (e:Ed) (as:List Str) (u0 u2:V) (d:Dee) (s:Nat) (c0:vs=[.ref dt,.ref tt,.int (s:Int)]) (c1:Dat H dt e) (c2:EdOk m e as) (c3:s<2^m) (c4:H tt=some (.tup [u0,.str d.name,u2])) (c5:d∈e.ds) (c6:∀H':Hp,Same H H'->Q (.int (Zg0 (.did d) s:Nat)) H'):spBehindL  vs H Q E0_
inductive spPartL (vs:List V)(H:Hp)(Q:VK)(E0_:XK):Prop
 | mk (dt tt:Addr) (m:Nat) (e:Ed) (as:List Str) (u0 u2:V) (l:Loo) (a:Str) (s:Nat) (c0:vs=[.ref dt,.ref tt,.str a,.int (s:Int)]) (c1:Dat H dt e) (c2:EdOk m e as) (c3:s<2^m) (c4:H tt=some (.tup [u0,.str l.name,u2])) (c5:l∈e.ls) (c6:∀H':Hp,Same H H'->Q (.int (s&&&bt (ixs l.tab a):Nat)) H'):spPartL  vs H Q E0_
theorem bt_flt {s:Nat}{tab:List (Option Str)}{a:Str}:bt ((wl s).filter λw=>decide (tab[w.toNat]? = some (some a)))=s&&&bt (ixs tab a):=by
 refine eq_of_testBit_eq λi=>?_
 rw[testBit_and,Ze5,Zcp,Bool.eq_iff_iff,any_eq_true,and_eq_true,decide_eq_true_eq]
 constructor
 ·rintro⟨w,hw,e⟩
  obtain⟨h1,h2⟩:=mem_filter.mp hw
  have e':w.toNat=i:=by simpa using e
  rw[e',decide_eq_true_eq]at h2
  have:=(wl_mem.mp h1).2
  rw[e']at this
  exact⟨this,h2⟩
 rintro⟨h1,h2⟩
 exact⟨(i:Int),mem_filter.mpr ⟨wl_mem.mpr ⟨by lia,by rw[toNat_natCast];exact h1⟩,by rw[toNat_natCast];exact decide_eq_true h2⟩,by simp⟩
theorem tr_wy {H:Hp}:∀{ws:Pn}{us:List V},okP false ws->TrAt H ws us->WyAt H us (anP ws)
 | .nil,us,_,e=>by
  rw[show us=[] from e]
  exact⟨rfl,λi u a h=>by cases h⟩
 | .way a p r,us,ok,⟨t,v,us',e,h1,_,h3⟩=>by
  have w:=tr_wy ok.2.2 h3
  rw[e]
  refine⟨by show us'.length+1=(anP r).length+1;rw[w.len],λi u b h h'=>?_⟩
  cases i with
  | zero=>cases h;cases h';exact⟨t,v,rfl,h1⟩
  | succ i=>exact w.got i u b h h'
inductive spWaysL (vs:List V)(H:Hp)(Q:VK)(E0_:XK):Prop
 | mk (tt u:Addr) (u0 u1:V) (us:List V) (as:List Str) (c0:vs=[.ref tt]) (c1:H tt=some (.tup [u0,u1,.ref u])) (c2:H u=some (.lst us)) (c3:WyAt H us as) (c4:as.length<=1000) (c5:∀(r:Addr) (H':Hp),Same H H'->H' r=some (.lst (as.map V.str))->Q (.ref r) H'):spWaysL  vs H Q E0_
def WhyOk (e:Ed)(w:Nat):Pn->Prop
 | .stop=>e.k.testBit w=true/\e.g.testBit w=true
 | .dd d _=>e.k.testBit w=true/\∃de∈e.ds,de.name=d/\∃x r,de.tab[w]? = some (x::r)
 | .lk l ws=>e.k.testBit w=true/\∃lo∈e.ls,lo.name=l/\∃z∈anP ws,lo.tab[w]? = some (some z)
 | _=>False
inductive spWhyL (vs:List V)(H:Hp)(Q:VK)(E0_:XK):Prop
 | mk (dt:Addr) (tv:V) (m:Nat) (e:Ed) (as:List Str) (t:Pn) (w:Nat) (c0:vs=[.ref dt,tv,.int (w:Int)]) (c1:Dat H dt e) (c2:EdOk m e as) (c3:w<m) (c4:TrAt H t [tv]) (c5:okP true t) (c6:WhyOk e w t) (c7:∀H':Hp,Same H H'->Q (.str "") H'):spWhyL  vs H Q E0_
theorem why_ok {m:Nat}{e:Ed}{as:List Str}(ok:EdOk m e as){t:Pn}(okt:okP true t){s:Nat}(hs:s<2^m)(r:Zg1 e t s){w:Nat}(hw:s.testBit w=true):WhyOk e w t:=by
 have wm:w<m:=by
  refine Nat.lt_of_not_le λh=>?_
  rw[testBit_lt_two_pow (lt_of_lt_of_le hs (pow_le_pow_right (by decide) h))]at hw
  cases hw
 have hm:(w:Int)∈wl s:=wl_mem.mpr ⟨by lia,by rw[toNat_natCast];exact hw⟩
 cases t with
 | stop=>exact⟨sb_iff.mp r.1 w hw,sb_iff.mp r.2 w hw⟩
 | dd d r'=>
  obtain⟨h1,de,h2,h3,h4⟩:=r
  refine⟨sb_iff.mp h1 w hw,de,h2,h3,?_⟩
  have hl:=(ok.ch.de de h2).len
  have h5:=filter_eq_nil_iff.mp h4 _ hm
  rw[toNat_natCast,decide_eq_true_eq,getElem?_eq_getElem (by lia)]at h5
  rw[getElem?_eq_getElem (by lia)]
  cases hx:de.tab[w]'(by lia)with
  | nil=>rw[hx]at h5;exact absurd rfl h5
  | cons x r=>exact⟨x,r,rfl⟩
 | lk l ws=>
  obtain⟨h1,lo,h2,h3,_,h4⟩:=r
  exact⟨sb_iff.mp h1 w hw,lo,h2,h3,h4 w hw⟩
 | nil=>exact okt.elim
 | way _ _ _=>exact okt.elim
inductive spWalkL (n:Nat)(vs:List V)(H:Hp)(Q:VK)(E0_:XK):Prop
 | mk (dt rw':Addr) (tv:V) (m:Nat) (e:Ed) (as:List Str) (t:Pn) (l:Str) (s:Nat) (xs:List Nat) (H0:Hp) (c0:vs=[.ref dt,tv,.int (s:Int),.ref rw']) (c1:Dat H0 dt e) (c2:EdOk m e as) (c3:s<2^m) (c4:TrAt H0 t [tv]) (c5:okP true t) (c6:htP t<=n) (c7:GdW e t l s) (c8:Same H0 H) (c9:H0 rw'=none) (c10:H rw'=some (.lst (nV xs))) (c11:xs.length+szP t<=100000) (c12:∀H':Hp,(∀c u,H c=some u->c≠rw'->H' c=some u)->H' rw'=some (.lst (nV (xs++rwS e t l s)))->Q .non H'):spWalkL n vs H Q E0_
theorem gd_row {e:Ed}{t:Pn}{l:Str}{s:Nat}(ok:okP true t)(g:GdW e t l s):Zg1 e t s:=by
 cases t with
 | stop=>exact g
 | dd _ _=>exact g.1
 | lk _ _=>exact g.1
 | nil=>exact ok.elim
 | way _ _ _=>exact ok.elim
def wyS (e:Ed)(l:Str)(s:Nat)(ys:List (Str×Pn)):List Nat:=ys.flatMap λy=>rwS e y.2 l (Zbd e l y.1 s)
theorem Zjr {e:Ed}{l:Str}{s:Nat}:∀{ws:Pn},okP false ws->rwS e ws l s=wyS e l s (wyL ws)
 | .nil,_=>rfl
 | .way a p r,h=>by
  show rwS e p l (Zbd e l a s)++rwS e r l s=wyS e l s ((a,p)::wyL r)
  rw[Zjr h.2.2]
  rfl
 | .stop,h=>h.elim
 | .dd _ _,h=>h.elim
 | .lk _ _,h=>h.elim
theorem wyS_snoc {e:Ed}{l:Str}{s:Nat}(ys:List (Str×Pn))(y:Str×Pn):wyS e l s (ys++[y])=wyS e l s ys++rwS e y.2 l (Zbd e l y.1 s):=by
 unfold wyS
 rw[List.flatMap_append,List.flatMap_cons,List.flatMap_nil,append_nil]
theorem wyS_le {e:Ed}{l:Str}{s:Nat}{ws:Pn}(ok:okP false ws)(i:Nat):(wyS e l s ((wyL ws).take i)).length<=szP ws:=by
 have h1:=Zb1 e ws l s
 rw[Zjr ok,<- List.take_append_drop i (wyL ws)]at h1
 unfold wyS at h1 ⊢
 rw[List.flatMap_append,length_append]at h1
 lia
theorem Zmx {e:Ed}{l:Str}{s:Nat}:∀{ws:Pn},okP false ws->GdW e ws l s->∀y∈wyL ws,GdW e y.2 l (Zbd e l y.1 s)
 | .way a p r,h,g,y,hy=>by
  rcases(mem_cons.mp hy)with z | hy
  ·rw[z]
   exact g.1
  exact Zmx h.2.2 g.2 y hy
 | .nil,_,_,_,hy=>nomatch hy
 | .stop,h,_,_,_=>h.elim
 | .dd _ _,h,_,_,_=>h.elim
 | .lk _ _,h,_,_,_=>h.elim
def enS (e:Ed):Pn->Str->Nat->Nat
 | .stop,_,s=>s
 | .dd d r,_,s=>enS e r d (Zfw e d s)
 | .lk l ws,_,s=>enS e ws l s
 | .nil,_,_=>0
 | .way a p r,l,s=>enS e p l (Zbd e l a s)|||enS e r l s
def wyE (e:Ed)(l:Str)(s:Nat)(ys:List (Str×Pn)):Nat:=ys.foldl (λn y=>n|||enS e y.2 l (Zbd e l y.1 s)) 0
theorem Zke {e:Ed}{l:Str}{s:Nat}:∀{ws:Pn}(n:Nat),okP false ws->(wyL ws).foldl (λn y=>n|||enS e y.2 l (Zbd e l y.1 s)) n=n|||enS e ws l s
 | .nil,n,_=>(Nat.or_zero n).symm
 | .way a p r,n,h=>by
  show(wyL r).foldl _ (n|||enS e p l (Zbd e l a s))=n|||(enS e p l (Zbd e l a s)|||enS e r l s)
  rw[Zke _ h.2.2,Nat.or_assoc]
 | .stop,_,h=>h.elim
 | .dd _ _,_,h=>h.elim
 | .lk _ _,_,h=>h.elim
theorem wyE_all {e:Ed}{l:Str}{s:Nat}{ws:Pn}(h:okP false ws):wyE e l s (wyL ws)=enS e ws l s:=by
 unfold wyE
 rw[Zke 0 h,Nat.zero_or]
theorem wyE_snoc {e:Ed}{l:Str}{s:Nat}(ys:List (Str×Pn))(y:Str×Pn):wyE e l s (ys++[y])=wyE e l s ys|||enS e y.2 l (Zbd e l y.1 s):=by
 unfold wyE
 rw[List.foldl_append]
 rfl
def orA (xs:List Nat):Nat:=xs.foldl (· ||| ·) 0
theorem orA_snoc (xs:List Nat)(x:Nat):orA (xs++[x])=orA xs|||x:=by
 unfold orA
 rw[List.foldl_append]
 rfl
inductive spEndsL (n:Nat)(vs:List V)(H:Hp)(Q:VK)(E0_:XK):Prop
 | mk (dt:Addr) (tv:V) (m:Nat) (e:Ed) (as:List Str) (t:Pn) (l:Str) (s:Nat) (c0:vs=[.ref dt,tv,.int (s:Int)]) (c1:Dat H dt e) (c2:EdOk m e as) (c3:s<2^m) (c4:TrAt H t [tv]) (c5:okP true t) (c6:htP t<=n) (c7:GdW e t l s) (c8:∀H':Hp,Same H H'->Q (.int (enS e t l s:Nat)) H'):spEndsL n vs H Q E0_
inductive spAllRows (n:Nat)(vs:List V)(H:Hp)(Q:VK)(E0_:XK):Prop
 | mk (dt:Addr) (tv:V) (m:Nat) (e:Ed) (as:List Str) (t:Pn) (l:Str) (s:Nat) (c0:vs=[.ref dt,tv,.int (s:Int)]) (c1:Dat H dt e) (c2:EdOk m e as) (c3:s<2^m) (c4:TrAt H t [tv]) (c5:okP true t) (c6:htP t<=n) (c7:szP t<=40000) (c8:GdW e t l s) (c9:∀H':Hp,Same H H'->Q (.int (orA (rwS e t l s):Nat)) H'):spAllRows n vs H Q E0_
abbrev Zcf:List Str:=["_law_data", "_law_tree", "_law_some"]
abbrev nLBehind:List Str:=["_law_data", "_law_tree", "_law_some", "_law_found", "_law_world", "_law_other"]
theorem scLBehind:FnScope nLBehind Zcf (Zaf Zdg):=Zav
abbrev Zfd:List Str:=["_law_data", "_law_tree", "_law_answer", "_law_some"]
abbrev nLPart:List Str:=["_law_data", "_law_tree", "_law_answer", "_law_some", "_law_table_here"]
theorem scLPart:FnScope nLPart Zfd (Zaf Zf4):=Zav
abbrev Zmf:List Str:=["_law_tree"]
abbrev nLWays:List Str:=["_law_tree"]
theorem scLWays:FnScope nLWays Zmf (Zaf Zis):=Zav
abbrev Znl:List Str:=["_law_data", "_law_tree", "_law_world"]
abbrev nLWhy:List Str:=["_law_data", "_law_tree", "_law_world", "_law_answer"]
theorem scLWhy:FnScope nLWhy Znl (Zaf Znh):=Zav
abbrev Ziz:List Str:=["_law_data", "_law_tree", "_law_some", "_law_rows"]
abbrev nLWalk:List Str:=["_law_data", "_law_tree", "_law_some", "_law_rows", "_law_world", "_law_answer", "_law_rest", "_law_found"]
theorem scLWalk:FnScope nLWalk Ziz (Zaf Zg8):=Zav
abbrev Zk0:List Str:=["_law_data", "_law_tree", "_law_some"]
abbrev nLEnds:List Str:=["_law_data", "_law_tree", "_law_some", "_law_found", "_law_answer", "_law_rest"]
theorem scLEnds:FnScope nLEnds Zk0 (Zaf Zit):=Zav
abbrev Zgk:List Str:=["_law_data", "_law_tree", "_law_some"]
abbrev nLAllRows:List Str:=["_law_data", "_law_tree", "_law_some", "_law_rows", "_law_found", "_law_one"]
theorem scLAllRows:FnScope nLAllRows Zgk (Zaf Zeh):=Zav
theorem ok_behindL {f:Addr}{fd:FuncData}(F:Fun K "_law_behind" "_law_behind" Zdg f fd)(C_l_list:Ca P w K mg base CX0 1 "_law_list" Zef Zfe spWof)(C_l_table:Ca P w K mg base CX0 1 "_law_table" Zd0 Zd5 spTable):FnOk P w K mg base CX0 2 f fd Zcf spBehindL:=by
 refine F.oq scLBehind λcdv A outer s0 H vs Q E hr1 h=>?_
 obtain⟨dt,tt,m,e,as,u0,u2,d,s,rfl,D0,ok,hs,htt,hd,q⟩:=h
 obtain⟨l1,l2,us,ws,hdt,h1,h2,hds,hls⟩:=D0.ex
 obtain⟨tb,stl,tbs⟩:=Zig hds
 obtain⟨jd,hjd⟩:=getElem?_of_mem hd
 obtain⟨es,htb,he⟩:=tbs jd d hjd
 have dok:=ok.ch.de d hd
 have m2:=ok.ch.m2
 have ndn:=(nodup_append.mp ok.ch.nd).1
 have hel:=he.len
 have hdl:=dok.len
 have b0:∀u v x y:V,atI [u,v,x,y] ((0:Nat):Int)=some u:=λ_ _ _ _=>Zal rfl
 have a1:∀u v z:V,atI [u,v,z] ((1:Nat):Int)=some v:=λ_ _ _=>Zal rfl
 refine⟨_,(Zac (Zaw (i:=3) scLBehind.nd Zae)
  (Zac (Zbh PassesOwn.never rfl (Za4 (Zaq C_l_list hr1 Zak (Zaa (pv 2) Zab))) (Za3 (i:=4) scLBehind.nd)
   (Zag (Zbh PassesOwn.never rfl (Za4 (Zas Zbj (Zaq C_l_table hr1 Zak (Zaa (Zas Zat (pv 0) Zae (λ_ _=>rfl)) (Zaa (Zas Zat (pv 1) Zae (λ_ _=>rfl)) Zab))) (pv 4) (λ_ _=>rfl))) (Za3 (i:=5) scLBehind.nd)
   (Zag (Zaw (i:=3) scLBehind.nd (Zau Zh7 (pv 3) (Zau Zff Zae (pv 5))))))))
  (Zag (Zam (pv 3))))),?_⟩
 refine⟨_,rfl,s,rfl,Ze3 hs m2,λl H1 s1 hl e1=>⟨l,rfl,⟨_,SqL.of e1⟩,?_⟩⟩
 have hl1:((wl s).map V.int).length=(wl s).length:=length_map ..
 refine Zbc (K:=K) (a:=l) (xs:=(wl s).map V.int) (λi σ H2=>∃(v4 v5:Option V),σ = [some (.ref dt),some (.ref tt),some (.int (s:Int)),some (.int ((bt (((wl s).take i).flatMap (lead (.did d))):Nat):Int)),v4,v5]/\H2=H1)
  ⟨none,none,rfl,rfl⟩ (λi σ H2 _ hh0=>by obtain⟨_,_,_,z⟩:=hh0;rw[z];exact SqL.of e1) ?_ ?_
 ·rintro i v σ H2 hv ⟨v4,v5,rfl,rfl⟩
  have hi:i<(wl s).length:=by
   have:=(List.getElem?_eq_some_iff.mp hv).1
   lia
  have hw:(wl s)[i]? = some (wl s)[i]:=getElem?_eq_getElem hi
  have hv':v=.int (wl s)[i]:=by
   rw[getElem?_map,hw]at hv
   exact(Option.some.inj hv).symm
  subst hv'
  obtain⟨w0,w1⟩:=Zft hs (getElem_mem hi)
  have htk:(wl s).take (i+1)=(wl s).take i++[(wl s)[i]]:=take_succ_eq_append_getElem hi
  generalize (wl s)[i]=wv at hw w0 w1 htk
  obtain⟨j,rfl⟩:∃j:Nat,(j:Int)=wv:=⟨wv.toNat,toNat_of_nonneg w0⟩
  have hje:j<es.length:=by lia
  obtain⟨en,hen,henm,eb,hev,heb⟩:=he.at (getElem?_eq_getElem hje)
  have hat:atI es (j:Int)=some (.ref eb):=Zal (by rw[getElem?_eq_getElem hje,hev])
  have hld:lead (.did d) (j:Int)=en:=by
   show d.tab.getD ((j:Int)).toNat []=_
   rw[toNat_natCast,getD_eq_getElem?_getD,hen]
   rfl
  have hinn:=dok.inn en henm
  have hl2:(en.map V.int).length=en.length:=length_map ..
  refine⟨_,rfl,dt,_,_,_,rfl,rfl,SqT.of (s1 _ _ hdt),b0 _ _ _ _,_,rfl,tt,_,_,_,rfl,rfl,SqT.of (s1 _ _ htt),a1 _ _ _,l1,us,d.name,e.ds.map Dee.name,tb,rfl,s1 _ _ h1,⟨stl.len,λi v n h h'=>(stl.got i v n h h').imp λp z=>z.same s1⟩,.inr ⟨jd,by rw[getElem?_map,hjd];rfl,ndn,?_⟩⟩
  refine⟨_,rfl,tb jd,_,_,_,rfl,rfl,SqL.of (s1 _ _ htb),hat,eb,rfl,⟨_,SqL.of (s1 _ _ heb)⟩,?_⟩
  refine Zbc (K:=K) (a:=eb) (xs:=en.map V.int) (λi2 σ H3=>∃(v5:Option V),σ = [some (.ref dt),some (.ref tt),some (.int (s:Int)),some (.int ((bt (((wl s).take i).flatMap (lead (.did d))++en.take i2):Nat):Int)),some (.int (j:Int)),v5]/\H3=H2)
   ⟨v5,by rw[take_zero,append_nil];rfl,rfl⟩ (λi2 σ H3 _ hh0=>by obtain⟨_,_,z⟩:=hh0;rw[z];exact SqL.of (s1 _ _ heb)) ?_ ?_
  ·rintro i2 v σ H3 hv ⟨v5,rfl,rfl⟩
   rw[getElem?_map]at hv
   obtain⟨n,en2,rfl⟩:=map_eq_some_iff.mp hv
   have hi2:i2<en.length:=(List.getElem?_eq_some_iff.mp en2).1
   have hni:en[i2]=n:=(List.getElem?_eq_some_iff.mp en2).2
   have hn2:=hinn n (mem_of_getElem? en2)
   have key:Builtin.bitOr ((bt (((wl s).take i).flatMap (lead (.did d))++en.take i2):Nat):Int) (1*2^n.toNat)=((bt (((wl s).take i).flatMap (lead (.did d))++en.take (i2+1)):Nat):Int):=by
    rw[take_succ_eq_append_getElem hi2,hni,<- append_assoc,Zj9,one_mul,Zlu,Zda]
   refine⟨_,rfl,_,rfl,_,_,rfl,rfl,⟨hn2.1,by lia,by decide⟩,_,_,rfl,rfl,?_⟩
   exact⟨some (.int n),by rw[<- key];rfl,rfl⟩
  rintro σ H3 ⟨v5,rfl,rfl⟩
  refine⟨some (.int (j:Int)),v5,?_,rfl⟩
  rw[hl2,take_length,htk,List.flatMap_append]
  simp only[List.flatMap_cons,List.flatMap_nil,append_nil,hld]
 rintro σ H2 ⟨v4,v5,rfl,rfl⟩
 rw[hl1,take_length]
 exact⟨_,rfl,q H2 s1⟩
theorem ok_partL {f:Addr}{fd:FuncData}(F:Fun K "_law_part" "_law_part" Zf4 f fd)(T:Bl mg)(C_l_list:Ca P w K mg base CX0 1 "_law_list" Zef Zfe spWof)(C_l_table:Ca P w K mg base CX0 1 "_law_table" Zd0 Zd5 spTable):FnOk P w K mg base CX0 2 f fd Zfd spPartL:=by
 refine F.oq scLPart λcdv A outer s0 H vs Q E hr1 h=>?_
 obtain⟨dt,tt,m,e,as,u0,u2,lo,a,s,rfl,D0,ok,hs,htt,hl,q⟩:=h
 have hsl:sizeLine=16777216:=sizeLine_eq
 obtain⟨l1,l2,us,ws,hdt,h1,h2,hds,hls⟩:=D0.ex
 obtain⟨tb,stl,tbs⟩:=Zk9 hls
 obtain⟨jd,hjd⟩:=getElem?_of_mem hl
 have htb:=tbs jd lo hjd
 have m2:=ok.ch.m2
 have ndn:=(nodup_append.mp ok.ch.nd).2.1
 have lol:=ok.ch.lo lo hl
 have b1:∀u v x y:V,atI [u,v,x,y] ((1:Nat):Int)=some v:=λ_ _ _ _=>Zal rfl
 have a1:∀u v z:V,atI [u,v,z] ((1:Nat):Int)=some v:=λ_ _ _=>Zal rfl
 refine⟨_,(Zac (Ziw (i:=4) scLPart.nd rfl (Or.inr rfl) (Zaq C_l_table hr1 Zak (Zaa (Zas Zat (pv 0) Zae (λ_ _=>rfl)) (Zaa (Zas Zat (pv 1) Zae (λ_ _=>rfl)) Zab))))
  (Zag (Zam (Zap (Zji rfl) (by rfl) T.sum Zoj (Zaa (Zcw (N:=["_law_world", "_law_answer", "_law_table_here"]) (sc:=Zaf Zf4) (own:=["_law_world"]) (fr:=["_law_answer", "_law_table_here"]) (js:=[2,4]) Zb4 rfl (Za4 (Zaq C_l_list hr1 Zak (Zaa (pv 3) Zab))) (λ_ _ _ _=>Za3 (i:=0) (show List.Nodup (["_law_world", "_law_answer", "_law_table_here"]:List Str) by decide +kernel)) (λ_ _ _ _=>Zcv (Zao Zbt (Zas (Zlc K rfl) (pv 2) (pv 0) (λ_ _=>rfl)) (pv 1) (Zar _))) (λ_ _ _ _=>(Zau Zff Zae (pv 0)))) Zab))))),?_⟩
 refine⟨_,rfl,dt,_,_,_,rfl,rfl,SqT.of hdt,b1 _ _ _ _,_,rfl,tt,_,_,_,rfl,rfl,SqT.of htt,a1 _ _ _,l2,ws,lo.name,e.ls.map Loo.name,tb,rfl,h2,stl,.inr ⟨jd,by rw[getElem?_map,hjd];rfl,ndn,?_⟩⟩
 refine⟨_,rfl,s,rfl,Ze3 hs m2,λl H1 s1 hl' e1=>⟨l,rfl,⟨_,SqL.of e1⟩,λD hD=>?_⟩⟩
 have hl1:((wl s).map V.int).length=(wl s).length:=length_map ..
 have wl7:(wl s).length<=200:=by
  unfold wl
  rw[length_map]
  refine le_trans (length_filter_le _ _) ?_
  rw[length_range]
  exact Zno (Ze3 hs m2)
 refine lcJ (n:=(wl s).length) (λi ys H2=>ys=((((wl s).take i).filter λw=>decide (lo.tab[w.toNat]? = some (some a))).map λn=>(2:Int)^n.toNat).map V.int/\Same H1 H2/\H2 D=some (.lst ys))
  ⟨by rw[take_zero];rfl,Same.new hD,Zad⟩ (λi ys H2 hi ⟨_,z,_⟩=>⟨_,((wl s).map V.int)[i]'(by lia),SqL.of (z _ _ e1),getElem?_eq_getElem (by lia)⟩) (λys H2 hh0=>by obtain⟨_,z,_⟩:=hh0;exact⟨_,SqL.of (z _ _ e1),by lia⟩) ?_ ?_
 ·rintro i ys H2 v H3 hi ⟨rfl,s2,e2⟩ ⟨rfl,hy⟩
  have hv:=hy _ (SqL.of (s2 _ _ e1))
  have hw:(wl s)[i]? = some (wl s)[i]:=getElem?_eq_getElem hi
  have hv':v=.int (wl s)[i]:=by
   rw[getElem?_map,hw]at hv
   exact(Option.some.inj hv).symm
  subst hv'
  obtain⟨w0,w1⟩:=Zft hs (getElem_mem hi)
  have htk:(wl s).take (i+1)=(wl s).take i++[(wl s)[i]]:=take_succ_eq_append_getElem hi
  generalize (wl s)[i]=wv at hw w0 w1 htk
  obtain⟨j,rfl⟩:∃j:Nat,(j:Int)=wv:=⟨wv.toNat,toNat_of_nonneg w0⟩
  have hj:j<lo.tab.length:=by lia
  have hx:lo.tab[j]? = some lo.tab[j]:=getElem?_eq_getElem hj
  have hat:atI (lo.tab.map oS) (j:Int)=some (oS lo.tab[j]):=Zal (by rw[getElem?_map,hx];rfl)
  have fl:(((wl s).take i).filter λw=>decide (lo.tab[w.toNat]? = some (some a))).length<=200:=by
   refine le_trans (length_filter_le _ _) ?_
   rw[length_take]
   lia
  refine⟨_,rfl,_,rfl,tb jd,_,_,_,rfl,rfl,SqL.of (s2 _ _ (s1 _ _ htb)),hat,_,rfl,(by cases lo.tab[j] <;> rfl),_,rfl,?_⟩
  by_cases eq:lo.tab[j]=some a
  ·refine ite2 (λ_=>?_) (λz=>absurd (decide_eq_true (by rw[eq];rfl)) z)
   refine⟨_,rfl,_,_,rfl,rfl,⟨by lia,by lia,by lia⟩,?_⟩
   refine⟨_,e2,by rw[length_map,length_map];lia,?_,s2.put hD,Zad⟩
   rw[htk,filter_append,map_append,map_append]
   have e3:List.filter (λw:Int=>decide (lo.tab[w.toNat]? = some (some a))) [(j:Int)]=[(j:Int)]:=by
    rw[List.filter_cons,if_pos (by rw[toNat_natCast,hx,eq];exact decide_eq_true rfl)]
    rfl
   rw[e3,one_mul]
   rfl
  have ne:¬oS lo.tab[j]=V.str a:=λz=>by
   cases ho:lo.tab[j]with
   | none=>rw[ho]at z;cases z
   | some y=>rw[ho]at z eq;cases z;exact eq rfl
  refine ite2 (λz=>absurd (of_decide_eq_true z) ne) (λ_=>?_)
  refine⟨?_,s2,e2⟩
  rw[htk,filter_append]
  have e3:List.filter (λw:Int=>decide (lo.tab[w.toNat]? = some (some a))) [(j:Int)]=[]:=by
   rw[List.filter_cons,if_neg (by rw[toNat_natCast,hx,decide_eq_true_eq];intro z;exact eq (Option.some.inj z))]
   rfl
  rw[e3,append_nil]
 rintro ys H2 ⟨rfl,s2,e2⟩
 rw[take_length]at e2
 refine⟨D,_,rfl,SqL.of e2,?_⟩
 rw[Znx (((wl_rise s).filter _).imp λh=>by lia) (λn hn=>(wl_mem.mp (mem_filter.mp hn).1).1),bt_flt]
 exact q H2 (s1.trans s2)
theorem ok_waysL {f:Addr}{fd:FuncData}(F:Fun K "_law_ways" "_law_ways" Zis f fd):FnOk P w K mg base CX0 1 f fd Zmf spWaysL:=by
 refine F.oq scLWays λcdv A outer s0 H vs Q E hr0 h=>?_
 obtain⟨tt,u,u0,u1,us,as,rfl,htt,hu,wy,l3,q⟩:=h
 have hsl:sizeLine=16777216:=sizeLine_eq
 have a2:∀u v z:V,atI [u,v,z] ((2:Nat):Int)=some z:=λ_ _ _=>Zal rfl
 have c0:∀u v:V,atI [u,v] ((0:Nat):Int)=some u:=λ_ _=>Zal rfl
 refine⟨_,(Zag (Zam (Zcw (N:=["_law_way"]) (sc:=Zaf Zis) (own:=["_law_way"]) (fr:=[]) (js:=[]) Zb4 rfl (Za4 (Zas Zat (pv 0) Zae (λ_ _=>rfl))) (λ_ _ _ _=>Za3 (i:=0) (show List.Nodup (["_law_way"]:List Str) by decide +kernel)) (λ_ _ _ _=>Zbn) (λ_ _ _ _=>(Zas (Zb2 K rfl) (pv 0) Zae (λ_ _=>rfl)))))),?_⟩
 refine⟨_,rfl,tt,_,_,_,rfl,rfl,SqT.of htt,a2 _ _ _,u,rfl,⟨_,SqL.of hu⟩,λD hD=>?_⟩
 have ul:=wy.len
 refine lcJ (n:=us.length) (λi ys H2=>ys=(as.take i).map V.str/\Same H H2/\H2 D=some (.lst ys)) ⟨by rw[take_zero];rfl,Same.new hD,Zad⟩ (λi ys H2 hi ⟨_,z,_⟩=>⟨_,us[i],SqL.of (z _ _ hu),getElem?_eq_getElem hi⟩) (λys H2 hh0=>by obtain⟨_,z,_⟩:=hh0;exact⟨_,SqL.of (z _ _ hu),Nat.le_refl _⟩) ?_ ?_
 ·rintro i ys H2 v H3 hi ⟨rfl,s2,e2⟩ ⟨rfl,hy⟩
  have hv:=hy _ (SqL.of (s2 _ _ hu))
  obtain⟨a,t,v',ha,rfl,ht⟩:=wy.at hv
  have hia:=(List.getElem?_eq_some_iff.mp ha).1
  have htk:as.take (i+1)=as.take i++[a]:=by rw[take_succ_eq_append_getElem hia,(List.getElem?_eq_some_iff.mp ha).2]
  refine Zbu ?_
  refine⟨_,rfl,t,_,_,_,rfl,rfl,SqT.of (s2 _ _ ht),c0 _ _,?_⟩
  refine⟨_,e2,by rw[length_map,length_take];lia,?_,s2.put hD,Zad⟩
  rw[htk,map_append]
  rfl
 rintro ys H2 ⟨rfl,s2,e2⟩
 rw[ul,take_length]at e2
 exact q D H2 s2 e2
theorem ok_whyL {f:Addr}{fd:FuncData}(F:Fun K "_law_why" "_law_why" Znh f fd)(C_l_table:Ca P w K mg base CX0 1 "_law_table" Zd0 Zd5 spTable)(C_l_ways:Ca P w K mg base CX0 1 "_law_ways" Zis Zmf spWaysL):FnOk P w K mg base CX0 2 f fd Znl spWhyL:=by
 refine F.oq scLWhy λcdv A outer s0 H vs Q E hr1 h=>?_
 obtain⟨dt,tv,m,e,as,t,w,rfl,D0,ok,hw,tr,okt,wo,q⟩:=h
 have hun:=hr1.units
 obtain⟨l1,l2,us,ws,hdt,h1,h2,hds,hls⟩:=D0.ex
 have b0:∀u v x y:V,atI [u,v,x,y] ((0:Nat):Int)=some u:=λ_ _ _ _=>Zal rfl
 have b1:∀u v x y:V,atI [u,v,x,y] ((1:Nat):Int)=some v:=λ_ _ _ _=>Zal rfl
 have b2:∀u v x y:V,atI [u,v,x,y] ((2:Nat):Int)=some x:=λ_ _ _ _=>Zal rfl
 have b3:∀u v x y:V,atI [u,v,x,y] ((3:Nat):Int)=some y:=λ_ _ _ _=>Zal rfl
 have c0:∀u v z:V,atI [u,v,z] ((0:Nat):Int)=some u:=λ_ _ _=>Zal rfl
 have c1:∀u v z:V,atI [u,v,z] ((1:Nat):Int)=some v:=λ_ _ _=>Zal rfl
 have kb:e.k.testBit w=true:=by
  cases t with
  | stop=>exact wo.1
  | dd _ _=>exact wo.1
  | lk _ _=>exact wo.1
  | nil=>exact wo.elim
  | way _ _ _=>exact wo.elim
 have wn:((w:Int)).toNat=w:=toNat_natCast w
 refine⟨_,(Zac (Za2 (Zc4 (Zl5 (Zau Zfg (Zau Zk2 (Zas Zat (pv 0) Zae (λ_ _=>rfl)) (pv 2)) Zae))) (Zag (Zam Za6)) Zan)
  (Zac (Za2 (Zao Zbt (Zas Zat (pv 1) Zae (λ_ _=>rfl)) Za6 (Zar _)) (Zac (Za2 (Zl5 (Zau Zfg (Zau Zk2 (Zas Zat (pv 0) Zae (λ_ _=>rfl)) (pv 2)) Zae)) (Zag (Zam Za6)) Zan)
  (Zag (Zam Za6))) Zan)
  (Zac (Za2 (Zao Zbt (Zas Zat (pv 1) Zae (λ_ _=>rfl)) Za6 (Zar _)) (Zac (Za2 (Zao (Zn5 hun) (Zas Zbj (Zaq C_l_table hr1 Zak (Zaa (Zas Zat (pv 0) Zae (λ_ _=>rfl)) (Zaa (Zas Zat (pv 1) Zae (λ_ _=>rfl)) Zab))) (pv 2) (λ_ _=>rfl)) (Zbs Zab) (Zar _)) (Zag (Zam Za6)) Zan)
  (Zag (Zam Za6))) Zan)
  (Zac (Zaw (i:=3) scLWhy.nd (Zas Zbj (Zaq C_l_table hr1 Zak (Zaa (Zas Zat (pv 0) Zae (λ_ _=>rfl)) (Zaa (Zas Zat (pv 1) Zae (λ_ _=>rfl)) Zab))) (pv 2) (λ_ _=>rfl)))
  (Zac (Za2 (Zao Zi3 (pv 3) Zbz (Zar _)) (Zag (Zam Za6)) Zan)
  (Zac (Za2 (Zao op_notIn_seq (pv 3) (Zaq C_l_ways hr1 Zak (Zaa (pv 1) Zab)) (by rfl)) (Zag (Zam Za6)) Zan)
  (Zag (Zam Za6)))))))),?_⟩
 refine⟨_,rfl,dt,_,_,_,rfl,rfl,SqT.of hdt,b3 _ _ _ _,_,rfl,_,_,rfl,rfl,by show(0:Int)<=(w:Int);lia,_,_,rfl,rfl,_,rfl,?_⟩
 rw[wn,Zlo,kb]
 refine ite2 (λz=>absurd z (by decide)) (λ_=>?_)
 dsimp only[tNext]
 cases t with
 | stop=>
  obtain⟨a,e',h⟩:=tr
  cases e'
  have hc0:atI [V.str Zdu] ((0:Nat):Int)=some (.str Zdu):=Zal rfl
  refine⟨_,rfl,a,_,_,_,rfl,rfl,SqT.of h,hc0,rfl,_,rfl,?_⟩
  refine ite2 (λ_=>?_) (λz=>absurd (decide_eq_true rfl) z)
  refine⟨_,rfl,dt,_,_,_,rfl,rfl,SqT.of hdt,b2 _ _ _ _,_,rfl,_,_,rfl,rfl,by show(0:Int)<=(w:Int);lia,_,_,rfl,rfl,_,rfl,?_⟩
  rw[wn,Zlo,wo.2]
  refine ite2 (λ_=>?_) (λz=>absurd (by decide) z)
  exact q H (Same.refl _)
 | dd d r=>
  obtain⟨a,v',e',h,_⟩:=tr
  cases e'
  obtain⟨_,de,hde,rfl,x0,xr,hx0⟩:=wo
  obtain⟨tb,stl,tbs⟩:=Zig hds
  obtain⟨jd,hjd⟩:=getElem?_of_mem hde
  obtain⟨es,htb,he⟩:=tbs jd de hjd
  have hel:=he.len
  have hdl:=(ok.ch.de de hde).len
  have ndn:=(nodup_append.mp ok.ch.nd).1
  have hje:w<es.length:=by lia
  obtain⟨en,hen,_,eb,hev,heb⟩:=he.at (getElem?_eq_getElem hje)
  rw[hx0]at hen
  cases hen
  have hat:atI es ((w:Nat):Int)=some (.ref eb):=Zal (by rw[getElem?_eq_getElem hje,hev])
  refine⟨_,rfl,a,_,_,_,rfl,rfl,SqT.of h,c0 _ _ _,rfl,_,rfl,?_⟩
  refine ite2 (λz=>absurd (V.str.inj (of_decide_eq_true z)) (by decide +kernel)) (λ_=>?_)
  dsimp only[tNext]
  refine⟨_,rfl,a,_,_,_,rfl,rfl,SqT.of h,c0 _ _ _,rfl,_,rfl,?_⟩
  refine ite2 (λ_=>?_) (λz=>absurd (decide_eq_true rfl) z)
  refine⟨_,rfl,dt,_,_,_,rfl,rfl,SqT.of hdt,b0 _ _ _ _,_,rfl,a,_,_,_,rfl,rfl,SqT.of h,c1 _ _ _,l1,us,de.name,e.ds.map Dee.name,tb,rfl,h1,stl,.inr ⟨jd,by rw[getElem?_map,hjd];rfl,ndn,?_⟩⟩
  refine⟨_,rfl,tb jd,_,_,_,rfl,rfl,SqL.of htb,hat,zero_le _,λl0 hl0=>?_⟩
  have s3:Same H (upd H l0 (.lst [])):=Same.new hl0
  have e3:(upd H l0 (.lst [])) l0=some (.lst (([]:List Int).map V.int)):=Zad
  generalize (upd H l0 (.lst []))=H3 at s3 e3 ⊢
  refine⟨_,_,.lst (s3 _ _ heb) (RdWs.of (Zcu (x0::xr))),.lst e3 (RdWs.of (Zcu [])),Zc6 _,Zc6 _,_,rfl,?_⟩
  rw[eqv_e]
  refine iteF ?_
  dsimp only[tNext]
  exact q H3 s3
 | lk l ws'=>
  obtain⟨a,u,us',e',h,hu,tr'⟩:=tr
  cases e'
  obtain⟨_,lo,hlo,rfl,z,hz,hzt⟩:=wo
  obtain⟨tb,stl,tbs⟩:=Zk9 hls
  obtain⟨jd,hjd⟩:=getElem?_of_mem hlo
  have htb:=tbs jd lo hjd
  have ndn:=(nodup_append.mp ok.ch.nd).2.1
  have hat:atI (lo.tab.map oS) ((w:Nat):Int)=some (.str z):=Zal (by rw[getElem?_map,hzt];rfl)
  refine⟨_,rfl,a,_,_,_,rfl,rfl,SqT.of h,c0 _ _ _,rfl,_,rfl,?_⟩
  refine ite2 (λz=>absurd (V.str.inj (of_decide_eq_true z)) (by decide +kernel)) (λ_=>?_)
  dsimp only[tNext]
  refine⟨_,rfl,a,_,_,_,rfl,rfl,SqT.of h,c0 _ _ _,rfl,_,rfl,?_⟩
  refine ite2 (λz=>absurd (V.str.inj (of_decide_eq_true z)) (by decide +kernel)) (λ_=>?_)
  dsimp only[tNext]
  refine⟨_,rfl,dt,_,_,_,rfl,rfl,SqT.of hdt,b1 _ _ _ _,_,rfl,a,_,_,_,rfl,rfl,SqT.of h,c1 _ _ _,l2,ws,lo.name,e.ls.map Loo.name,tb,rfl,h2,stl,.inr ⟨jd,by rw[getElem?_map,hjd];rfl,ndn,?_⟩⟩
  refine⟨_,rfl,tb jd,_,_,_,rfl,rfl,SqL.of htb,hat,?_⟩
  refine⟨_,rfl,rfl,_,rfl,?_⟩
  refine iteF ?_
  dsimp only[tNext]
  refine⟨_,rfl,_,rfl,a,u,_,_,us',anP ws',rfl,h,hu,tr_wy okt.2.2.2 tr',okt.2.2.1.2,λr H1 s1 er=>?_⟩
  refine⟨r,_,rfl,.inl (SqL.of er),rfl,by rw[all_eq_true];intro v hv;obtain⟨x,_,rfl⟩:=mem_map.mp hv;rfl,?_⟩
  refine⟨_,rfl,?_⟩
  show if (!inV (V.str z) ((anP ws').map V.str))=true then _ else _
  rw[Zld,decide_eq_true hz]
  refine iteF ?_
  dsimp only[tNext]
  exact q H1 s1
 | nil=>exact okt.elim
 | way _ _ _=>exact okt.elim
theorem Zk3 {f f1 f2 f3 f4:Addr}{fd d1 d2 d3 d4:FuncData}(F:Fun K "_law_walk" "_law_walk" Zg8 f fd)(T:Bl mg)(D_l_walk:Df K mg "_law_walk" Zg8 Ziz f fd)(D_l_list:Df K mg "_law_list" Zef Zfe f1 d1)(G_l_list:FnOk P w K mg base CX0 1 f1 d1 Zfe spWof)(D_l_why:Df K mg "_law_why" Znh Znl f2 d2)(G_l_why:FnOk P w K mg base CX0 2 f2 d2 Znl spWhyL)
  (D_l_behind:Df K mg "_law_behind" Zdg Zcf f3 d3)(G_l_behind:FnOk P w K mg base CX0 2 f3 d3 Zcf spBehindL)(D_l_part:Df K mg "_law_part" Zf4 Zfd f4 d4)(G_l_part:FnOk P w K mg base CX0 2 f4 d4 Zfd spPartL):∀n:Nat,FnOk P w K mg base CX0 (3+n) f fd Ziz (spWalkL n)
 | 0=>Zid λvs H Q E h=>by
  obtain⟨dt,rw',tv,m,e,as,t,l,s,xs,H0,_,_,_,_,_,okt,h0,_⟩:=h
  have:=Zmt okt.wk
  lia
 | n+1=>by
  have G_l_walk:=Zk3 F T D_l_walk D_l_list G_l_list D_l_why G_l_why D_l_behind G_l_behind D_l_part G_l_part n
  refine F.ok (k:=3+n) scLWalk (λvs H Q E h=>?_) (λcdv A outer s0 H vs Q E hrK h=>?_)
  ·obtain⟨dt,rw',tv,m,e,as,t,l,s,xs,H0,rfl,_⟩:=h
   rfl
  obtain⟨dt,rw',tv,m,e,as,t,l,s,xs,H0,rfl,D0,ok,hs,tr,okt,hn,gd,sH,h0,hrw,hsz,q⟩:=h
  have hr1:Room 1 _:=hrK.mono (by lia)
  have hr2:Room 2 _:=hrK.mono (by lia)
  have hsl:sizeLine=16777216:=sizeLine_eq
  have m2:=ok.ch.m2
  refine⟨_,(Zac (Zbh PassesOwn.never rfl (Za4 (Za5 G_l_list hr1 (by rfl) D_l_list.m D_l_list.F.kp D_l_list.b .nil Zak (Zaa (pv 2) Zab))) (Za3 (i:=4) scLWalk.nd)
   (Zag (Za2 (Zao Zh8 (Za5 G_l_why hr2 (by rfl) D_l_why.m D_l_why.F.kp D_l_why.b .nil Zak (Zaa (pv 0) (Zaa (pv 1) (Zaa (pv 4) Zab)))) Za6 (Zar _)) (Zag (Zam (Zbb (Zaa (Zap Za8 (by rfl) T.len PySem.boot_len (Zaa (pv 3) Zab)) (Zaa (pv 4) (Zaa (Za5 G_l_why hr2 (by rfl) D_l_why.m D_l_why.F.kp D_l_why.b .nil Zak (Zaa (pv 0) (Zaa (pv 1) (Zaa (pv 4) Zab)))) Zab)))))) Zan)))
  (Zac (Zaz (Zds PySem.F.plainAttrs_list PySem.F.slot_list_append PySem.F.type_list_append Za7 (pv 3) (Zaa (pv 2) Zab)))
  (Zac (Za2 (Zao Zbt (Zas Zat (pv 1) Zae (λ_ _=>rfl)) Za6 (Zar _)) (Zag (Zam (Za5 G_l_walk hrK (by rfl) D_l_walk.m D_l_walk.F.kp D_l_walk.b .nil Zak (Zaa (pv 0) (Zaa (Zas Zat (pv 1) Zae (λ_ _=>rfl)) (Zaa (Za5 G_l_behind hr2 (by rfl) D_l_behind.m D_l_behind.F.kp D_l_behind.b .nil Zak (Zaa (pv 0) (Zaa (pv 1) (Zaa (pv 2) Zab)))) (Zaa (pv 3) Zab))))))) Zan)
  (Zac (Za2 (Zao Zbt (Zas Zat (pv 1) Zae (λ_ _=>rfl)) Za6 (Zar _)) (Zag (Zbh PassesOwn.never rfl (Za4 (Zas Zat (pv 1) Zae (λ_ _=>rfl))) (Zcm rfl (Zax (Za3 (i:=5) scLWalk.nd) (Zax (Za3 (i:=6) scLWalk.nd) Zbw)))
   (Zac (Zaw (i:=7) scLWalk.nd (Za5 G_l_walk hrK (by rfl) D_l_walk.m D_l_walk.F.kp D_l_walk.b .nil Zak (Zaa (pv 0) (Zaa (pv 6) (Zaa (Za5 G_l_part hr2 (by rfl) D_l_part.m D_l_part.F.kp D_l_part.b .nil Zak (Zaa (pv 0) (Zaa (pv 1) (Zaa (pv 5) (Zaa (pv 2) Zab))))) (Zaa (pv 3) Zab))))))
  (Zag (Za2 (Zao Zgn (pv 7) Zbz (Zar _)) (Zag (Zam (pv 7))) Zan))))) Zan)
  (Zag (Zam Zbz)))))),?_⟩
  have Dh:=D0.same sH
  have trh:=tr.same sH
  refine Zdw (λσ H'=>∃v4:Option V,σ = [some (.ref dt),some tv,some (.int (s:Int)),some (.ref rw'),v4,none,none,none]/\Same H H') ?_ ?_
  ·rintro σ H1 ⟨v4,rfl,s1⟩
   have sA:=sH.trans s1
   refine⟨_,rfl,.inl ⟨rfl,_,SqL.of (s1 _ _ hrw)⟩,_,rfl,rw',_,_,rfl,rfl,s1 _ _ hrw,by rw[length_map];lia,?_⟩
   have k2:∀c u,H1 c=some u->c≠rw'->(upd H1 rw' (.lst (nV xs++[.int (s:Int)]))) c=some u:=λc u e hc=>by rw[Zaj hc];exact e
   have e2:(upd H1 rw' (.lst (nV xs++[.int (s:Int)]))) rw'=some (.lst (nV (xs++[s]))):=by
    rw[Zad]
    show _=some (HO.lst (List.map (λy:Nat=>V.int (y:Int)) (_++_)))
    rw[map_append]
    rfl
   generalize (upd H1 rw' (.lst (nV xs++[.int (s:Int)])))=H2 at k2 e2 ⊢
   have sB:Same H0 H2:=λc u z=>k2 c u (sA _ _ z) (Zah z h0)
   have kH:∀c u,H c=some u->c≠rw'->H2 c=some u:=λc u z hc=>k2 c u (s1 _ _ z) hc
   have c0:∀u v z:V,atI [u,v,z] ((0:Nat):Int)=some u:=λ_ _ _=>Zal rfl
   have c2:∀u v z:V,atI [u,v,z] ((2:Nat):Int)=some z:=λ_ _ _=>Zal rfl
   cases t with
   | nil=>exact okt.elim
   | way _ _ _=>exact okt.elim
   | stop=>
    obtain⟨a,e',h⟩:=tr
    cases e'
    have hc0:atI [V.str Zdu] ((0:Nat):Int)=some (.str Zdu):=Zal rfl
    refine⟨_,rfl,a,_,_,_,rfl,rfl,SqT.of (sB _ _ h),hc0,rfl,_,rfl,?_⟩
    refine ite2 (λz=>absurd (V.str.inj (of_decide_eq_true z)) (by decide +kernel)) (λ_=>?_)
    refine⟨_,rfl,a,_,_,_,rfl,rfl,SqT.of (sB _ _ h),hc0,rfl,_,rfl,?_⟩
    refine ite2 (λz=>absurd (V.str.inj (of_decide_eq_true z)) (by decide +kernel)) (λ_=>?_)
    exact q H2 kH e2
   | dd d r=>
    obtain⟨a,v',e',h,tr'⟩:=tr
    cases e'
    obtain⟨⟨_,de,hde,rfl,_⟩,gr⟩:=gd
    have hh':htP r+1<=n+1:=hn
    have hz':xs.length+(szP r+1)<=100000:=hsz
    refine⟨_,rfl,a,_,_,_,rfl,rfl,SqT.of (sB _ _ h),c0 _ _ _,rfl,_,rfl,?_⟩
    refine ite2 (λ_=>?_) (λz=>absurd (decide_eq_true rfl) z)
    refine⟨_,rfl,_,rfl,a,_,_,_,rfl,rfl,SqT.of (sB _ _ h),c2 _ _ _,_,rfl,_,rfl,_,rfl,dt,a,m,e,as,_,_,de,s,rfl,D0.same sB,ok,hs,sB _ _ h,hde,λH3 s3=>?_⟩
    rw[<- Zg6 ok hde]
    have lt3:Zfw e de.name s<2^m:=by
     rw[Zg6 ok hde]
     exact Zeq (ls:=e.ls) ok.ch.m2 ok.ch.de (.did de hde) hs
    refine⟨_,rfl,dt,rw',v',m,e,as,r,de.name,_,xs++[s],H0,rfl,D0,ok,lt3,tr',okt.2,by lia,gr,sB.trans s3,h0,s3 _ _ e2,by rw[length_append];show xs.length+1+_<=_;lia,λH4 k4 e4=>?_⟩
    refine q H4 (λc u z hc=>k4 c u (s3 _ _ (kH c u z hc)) hc) ?_
    rw[e4,append_assoc]
    rfl
   | lk l' ws=>
    obtain⟨a,u,us,e',h,hu,tr'⟩:=tr
    cases e'
    obtain⟨⟨_,lo,hlo,rfl,_⟩,gw⟩:=gd
    have hh':htP ws+1<=n+1:=hn
    have hz':xs.length+(szP ws+1)<=100000:=hsz
    have okw:=okt.2.2.2
    have zt:=Zhj (n:=n) (m:=wtP ws) okw.wk (by lia) (Nat.le_refl _) tr'
    have l1:=zt.len
    refine⟨_,rfl,a,_,_,_,rfl,rfl,SqT.of (sB _ _ h),c0 _ _ _,rfl,_,rfl,?_⟩
    refine ite2 (λz=>absurd (V.str.inj (of_decide_eq_true z)) (by decide +kernel)) (λ_=>?_)
    refine⟨_,rfl,a,_,_,_,rfl,rfl,SqT.of (sB _ _ h),c0 _ _ _,rfl,_,rfl,?_⟩
    refine ite2 (λ_=>?_) (λz=>absurd (decide_eq_true rfl) z)
    refine⟨_,rfl,a,_,_,_,rfl,rfl,SqT.of (sB _ _ h),c2 _ _ _,u,rfl,⟨_,SqL.of (sB _ _ hu)⟩,?_⟩
    refine Zbc (K:=K) (a:=u) (xs:=us) (λi σ H3=>∃(v5 v6 v7:Option V),σ = [some (.ref dt),some (.ref a),some (.int (s:Int)),some (.ref rw'),v4,v5,v6,v7]/\Same H0 H3/\(∀c u,H2 c=some u->c≠rw'->H3 c=some u)/\H3 rw'=some (.lst (nV (xs++[s]++wyS e lo.name s ((wyL ws).take i)))))
     ⟨none,none,none,rfl,sB,λc u z _=>z,by rw[e2,take_zero];show _=some (HO.lst (nV (_++[])));rw[append_nil]⟩ (λi σ H3 _ hh0=>by obtain⟨_,_,_,_,z,_⟩:=hh0;exact SqL.of (z _ _ hu)) ?_ ?_
    ·rintro i y σ H3 hy ⟨v5,v6,v7,rfl,s03,k3,e3⟩
     obtain⟨x,hx,t',v',rfl,ht',trx,_,_,hnx,_⟩:=zt.at hy
     obtain⟨_,okx⟩:=Znf okw x (mem_of_getElem? hx)
     obtain⟨hi2,ex⟩:=List.getElem?_eq_some_iff.mp hx
     have htk:wyS e lo.name s ((wyL ws).take (i+1))=wyS e lo.name s ((wyL ws).take i)++rwS e x.2 lo.name (Zbd e lo.name x.1 s):=by rw[take_succ_eq_append_getElem hi2,ex,wyS_snoc]
     have hln:=wyS_le (e:=e) (l:=lo.name) (s:=s) okw (i+1)
     rw[htk,length_append,Zb1]at hln
     refine⟨t',_,rfl,SqT.of (s03 _ _ ht'),rfl,_,_,rfl,_,_,rfl,rfl,?_⟩
     refine⟨_,rfl,_,rfl,_,rfl,_,rfl,_,rfl,_,rfl,dt,a,m,e,as,_,_,lo,x.1,s,rfl,D0.same s03,ok,hs,s03 _ _ h,hlo,λH4 s4=>?_⟩
     rw[<- Zfc ok hlo]
     have lt3:Zbd e lo.name x.1 s<2^m:=by
      rw[Zfc ok hlo]
      exact lt_of_le_of_lt Nat.and_le_left hs
     refine⟨_,rfl,dt,rw',v',m,e,as,x.2,lo.name,_,xs++[s]++wyS e lo.name s ((wyL ws).take i),H0,rfl,D0,ok,lt3,trx,okx,hnx,Zmx okw gw x (mem_of_getElem? hx),s03.trans s4,h0,s4 _ _ e3,by rw[length_append,length_append];show xs.length+1+_+_<=_;lia,λH5 k5 e5=>?_⟩
     refine⟨_,rfl,rfl,_,rfl,?_⟩
     refine iteF ?_
     refine⟨_,_,_,rfl,λc u z=>k5 c u (s4 _ _ (s03 _ _ z)) (Zah z h0),λc u z hc=>k5 c u (s4 _ _ (k3 c u z hc)) hc,?_⟩
     rw[e5,htk,append_assoc (xs++[s])]
    rintro σ H3 ⟨v5,v6,v7,rfl,s03,k3,e3⟩
    refine q H3 (λc u z hc=>k3 c u (kH c u z hc) hc) ?_
    rw[e3,l1,take_length,<- Zjr okw,append_assoc]
    rfl
  intro N hN
  refine⟨_,rfl,s,rfl,Ze3 hs m2,λwl1 H1 s1 hl e1=>⟨wl1,rfl,⟨_,SqL.of e1⟩,?_⟩⟩
  refine Zbc (K:=K) (a:=wl1) (xs:=(wl s).map V.int) (λi σ H2=>∃v4:Option V,σ = [some (.ref dt),some tv,some (.int (s:Int)),some (.ref rw'),v4,none,none,none]/\Same H1 H2)
   ⟨none,rfl,Same.refl _⟩ (λi σ H2 _ hh0=>by obtain⟨_,_,z⟩:=hh0;exact SqL.of (z _ _ e1)) ?_ ?_
  ·rintro i v σ H2 hv ⟨v4,rfl,s2⟩
   rw[getElem?_map]at hv
   obtain⟨wv,hw,rfl⟩:=map_eq_some_iff.mp hv
   have hm:=mem_of_getElem? hw
   obtain⟨w0,w1⟩:=Zft hs hm
   obtain⟨j,rfl⟩:∃j:Nat,(j:Int)=wv:=⟨wv.toNat,toNat_of_nonneg w0⟩
   have hb:=(wl_mem.mp hm).2
   rw[toNat_natCast]at hb
   have sx:=s1.trans s2
   refine⟨_,rfl,_,rfl,_,rfl,dt,tv,m,e,as,t,j,rfl,Dh.same sx,ok,by lia,trh.same sx,okt,why_ok ok okt hs (gd_row okt gd) hb,λH3 s3=>?_⟩
   refine⟨rfl,_,rfl,?_⟩
   refine ite2 (λz=>absurd z (by decide)) (λ_=>?_)
   exact⟨some (.int (j:Int)),rfl,s2.trans s3⟩
  rintro σ H2 ⟨v4,rfl,s2⟩
  exact hN _ _ ⟨v4,rfl,s1.trans s2⟩
theorem Zk6 {f f3 f4:Addr}{fd d3 d4:FuncData}(F:Fun K "_law_ends" "_law_ends" Zit f fd)(D_l_ends:Df K mg "_law_ends" Zit Zk0 f fd)(D_l_behind:Df K mg "_law_behind" Zdg Zcf f3 d3)(G_l_behind:FnOk P w K mg base CX0 2 f3 d3 Zcf spBehindL)(D_l_part:Df K mg "_law_part" Zf4 Zfd f4 d4)(G_l_part:FnOk P w K mg base CX0 2 f4 d4 Zfd spPartL):∀n:Nat,FnOk P w K mg base CX0 (3+n) f fd Zk0 (spEndsL n)
 | 0=>Zid λvs H Q E h=>by
  obtain⟨dt,tv,m,e,as,t,l,s,_,_,_,_,_,okt,h0,_⟩:=h
  have:=Zmt okt.wk
  lia
 | n+1=>by
  have G_l_ends:=Zk6 F D_l_ends D_l_behind G_l_behind D_l_part G_l_part n
  refine F.ok (k:=3+n) scLEnds (λvs H Q E h=>?_) (λcdv A outer s0 H vs Q E hrE h=>?_)
  ·obtain⟨dt,tv,m,e,as,t,l,s,rfl,_⟩:=h
   rfl
  obtain⟨dt,tv,m,e,as,t,l,s,rfl,D0,ok,hs,tr,okt,hn,gd,q⟩:=h
  have hr2:Room 2 _:=hrE.mono (by lia)
  have c0:∀u v z:V,atI [u,v,z] ((0:Nat):Int)=some u:=λ_ _ _=>Zal rfl
  have c2:∀u v z:V,atI [u,v,z] ((2:Nat):Int)=some z:=λ_ _ _=>Zal rfl
  refine⟨_,(Zac (Za2 (Zao Zbt (Zas Zat (pv 1) Zae (λ_ _=>rfl)) Za6 (Zar _)) (Zag (Zam (pv 2))) Zan)
  (Zac (Za2 (Zao Zbt (Zas Zat (pv 1) Zae (λ_ _=>rfl)) Za6 (Zar _)) (Zag (Zam (Za5 G_l_ends hrE (by rfl) D_l_ends.m D_l_ends.F.kp D_l_ends.b .nil Zak (Zaa (pv 0) (Zaa (Zas Zat (pv 1) Zae (λ_ _=>rfl)) (Zaa (Za5 G_l_behind hr2 (by rfl) D_l_behind.m D_l_behind.F.kp D_l_behind.b .nil Zak (Zaa (pv 0) (Zaa (pv 1) (Zaa (pv 2) Zab)))) Zab)))))) Zan)
  (Zac (Zaw (i:=3) scLEnds.nd Zae)
  (Zac (Zbh PassesOwn.never rfl (Za4 (Zas Zat (pv 1) Zae (λ_ _=>rfl))) (Zcm rfl (Zax (Za3 (i:=4) scLEnds.nd) (Zax (Za3 (i:=5) scLEnds.nd) Zbw)))
   (Zag (Zaw (i:=3) scLEnds.nd (Zau Zh7 (pv 3) (Za5 G_l_ends hrE (by rfl) D_l_ends.m D_l_ends.F.kp D_l_ends.b .nil Zak (Zaa (pv 0) (Zaa (pv 5) (Zaa (Za5 G_l_part hr2 (by rfl) D_l_part.m D_l_part.F.kp D_l_part.b .nil Zak (Zaa (pv 0) (Zaa (pv 1) (Zaa (pv 4) (Zaa (pv 2) Zab))))) Zab))))))))
  (Zag (Zam (pv 3))))))),?_⟩
  cases t with
  | nil=>exact okt.elim
  | way _ _ _=>exact okt.elim
  | stop=>
   obtain⟨a,e',h⟩:=tr
   cases e'
   have hc0:atI [V.str Zdu] ((0:Nat):Int)=some (.str Zdu):=Zal rfl
   refine⟨_,rfl,a,_,_,_,rfl,rfl,SqT.of h,hc0,rfl,_,rfl,?_⟩
   refine ite2 (λ_=>?_) (λz=>absurd (decide_eq_true rfl) z)
   exact⟨_,rfl,q H (Same.refl _)⟩
  | dd d r=>
   obtain⟨a,v',e',h,tr'⟩:=tr
   cases e'
   obtain⟨⟨_,de,hde,rfl,_⟩,gr⟩:=gd
   have hh':htP r+1<=n+1:=hn
   refine⟨_,rfl,a,_,_,_,rfl,rfl,SqT.of h,c0 _ _ _,rfl,_,rfl,?_⟩
   refine ite2 (λz=>absurd (V.str.inj (of_decide_eq_true z)) (by decide +kernel)) (λ_=>?_)
   dsimp only[tNext]
   refine⟨_,rfl,a,_,_,_,rfl,rfl,SqT.of h,c0 _ _ _,rfl,_,rfl,?_⟩
   refine ite2 (λ_=>?_) (λz=>absurd (decide_eq_true rfl) z)
   refine⟨_,rfl,_,rfl,a,_,_,_,rfl,rfl,SqT.of h,c2 _ _ _,_,rfl,_,rfl,_,rfl,dt,a,m,e,as,_,_,de,s,rfl,D0,ok,hs,h,hde,λH3 s3=>?_⟩
   rw[<- Zg6 ok hde]
   have lt3:Zfw e de.name s<2^m:=by
    rw[Zg6 ok hde]
    exact Zeq (ls:=e.ls) ok.ch.m2 ok.ch.de (.did de hde) hs
   exact⟨dt,v',m,e,as,r,de.name,_,rfl,D0.same s3,ok,lt3,tr'.same s3,okt.2,by lia,gr,λH4 s4=>q H4 (s3.trans s4)⟩
  | lk l' ws=>
   obtain⟨a,u,us,e',h,hu,tr'⟩:=tr
   cases e'
   obtain⟨⟨_,lo,hlo,rfl,_⟩,gw⟩:=gd
   have hh':htP ws+1<=n+1:=hn
   have okw:=okt.2.2.2
   have zt:=Zhj (n:=n) (m:=wtP ws) okw.wk (by lia) (Nat.le_refl _) tr'
   have l1:=zt.len
   refine⟨_,rfl,a,_,_,_,rfl,rfl,SqT.of h,c0 _ _ _,rfl,_,rfl,?_⟩
   refine ite2 (λz=>absurd (V.str.inj (of_decide_eq_true z)) (by decide +kernel)) (λ_=>?_)
   dsimp only[tNext]
   refine⟨_,rfl,a,_,_,_,rfl,rfl,SqT.of h,c0 _ _ _,rfl,_,rfl,?_⟩
   refine ite2 (λz=>absurd (V.str.inj (of_decide_eq_true z)) (by decide +kernel)) (λ_=>?_)
   dsimp only[tNext]
   refine⟨_,rfl,a,_,_,_,rfl,rfl,SqT.of h,c2 _ _ _,u,rfl,⟨_,SqL.of hu⟩,?_⟩
   refine Zbc (K:=K) (a:=u) (xs:=us) (λi σ H3=>∃(v4 v5:Option V),σ = [some (.ref dt),some (.ref a),some (.int (s:Int)),some (.int (wyE e lo.name s ((wyL ws).take i):Nat)),v4,v5]/\Same H H3)
    ⟨none,none,rfl,Same.refl _⟩ (λi σ H3 _ hh0=>by obtain⟨_,_,_,z⟩:=hh0;exact SqL.of (z _ _ hu)) ?_ ?_
   ·rintro i y σ H3 hy ⟨v4,v5,rfl,s3⟩
    obtain⟨x,hx,t',v',rfl,ht',trx,_,_,hnx,_⟩:=zt.at hy
    obtain⟨_,okx⟩:=Znf okw x (mem_of_getElem? hx)
    obtain⟨hi2,ex⟩:=List.getElem?_eq_some_iff.mp hx
    have htk:wyE e lo.name s ((wyL ws).take (i+1))=wyE e lo.name s ((wyL ws).take i)|||enS e x.2 lo.name (Zbd e lo.name x.1 s):=by rw[take_succ_eq_append_getElem hi2,ex,wyE_snoc]
    refine⟨t',_,rfl,SqT.of (s3 _ _ ht'),rfl,_,_,rfl,_,_,rfl,rfl,?_⟩
    refine⟨_,rfl,_,rfl,_,rfl,_,rfl,_,rfl,_,rfl,_,rfl,dt,a,m,e,as,_,_,lo,x.1,s,rfl,D0.same s3,ok,hs,s3 _ _ h,hlo,λH4 s4=>?_⟩
    rw[<- Zfc ok hlo]
    have lt3:Zbd e lo.name x.1 s<2^m:=by
     rw[Zfc ok hlo]
     exact lt_of_le_of_lt Nat.and_le_left hs
    have s04:=s3.trans s4
    refine⟨dt,v',m,e,as,x.2,lo.name,_,rfl,D0.same s04,ok,lt3,trx.same s04,okx,hnx,Zmx okw gw x (mem_of_getElem? hx),λH5 s5=>?_⟩
    refine⟨_,_,rfl,rfl,some (.str x.1),some v',?_,s04.trans s5⟩
    rw[htk,Zda]
    rfl
   rintro σ H3 ⟨v4,v5,rfl,s3⟩
   rw[l1,take_length,wyE_all okw]
   exact⟨_,rfl,q H3 s3⟩
theorem ok_allrows {n:Nat}{f:Addr}{fd:FuncData}(hn6:n<=20)(F:Fun K "_law_all_rows" "_law_all_rows" Zeh f fd)(C_l_walk:Ca P w K mg base CX0 (3+n) "_law_walk" Zg8 Ziz (spWalkL n)):FnOk P w K mg base CX0 30 f fd Zgk (spAllRows n):=by
 refine F.oq scLAllRows λcdv A outer s0 H vs Q E hrF h=>?_
 obtain⟨dt,tv,m,e,as,t,l,s,rfl,D0,ok,hs,tr,okt,hn,hz,gd,q⟩:=h
 have hrK:Room (3+n) _:=hrF.mono (by lia)
 have hsl:sizeLine=16777216:=sizeLine_eq
 refine⟨_,(Zac (Zaw (i:=3) scLAllRows.nd (Zbs Zab))
  (Zac (Zaz (Zaq C_l_walk hrK Zak (Zaa (pv 0) (Zaa (pv 1) (Zaa (pv 2) (Zaa (pv 3) Zab))))))
  (Zac (Zaw (i:=4) scLAllRows.nd Zae)
  (Zac (Zbh PassesOwn.never rfl (Za4 (pv 3)) (Za3 (i:=5) scLAllRows.nd)
   (Zag (Zaw (i:=4) scLAllRows.nd (Zau Zh7 (pv 4) (pv 5)))))
  (Zag (Zam (pv 4))))))),?_⟩
 refine⟨by show 0<=sizeLine;lia,λr hr=>?_⟩
 refine⟨_,rfl,_,rfl,_,rfl,_,rfl,dt,r,tv,m,e,as,t,l,s,[],H,rfl,D0,ok,hs,tr,okt,hn,gd,Same.new hr,hr,Zad,by show 0+_<=_;lia,λH2 k2 e2=>?_⟩
 have s2:Same H H2:=λc u z=>k2 c u (Same.new hr _ _ z) (Zah z hr)
 rw[List.nil_append]at e2
 generalize rwS e t l s=C at e2 q
 have cl:(nV C).length=C.length:=length_map ..
 refine⟨_,rfl,r,rfl,⟨_,SqL.of e2⟩,?_⟩
 refine Zbc (K:=K) (a:=r) (xs:=nV C) (λi σ H3=>∃v5:Option V,σ = [some (.ref dt),some tv,some (.int (s:Int)),some (.ref r),some (.int (orA (C.take i):Nat)),v5]/\H3=H2)
  ⟨none,rfl,rfl⟩ (λi σ H3 _ hh0=>by obtain⟨_,_,z⟩:=hh0;rw[z];exact SqL.of e2) ?_ ?_
 ·rintro i v σ H3 hv ⟨v5,rfl,rfl⟩
  rw[getElem?_map]at hv
  obtain⟨x,hx,rfl⟩:=map_eq_some_iff.mp hv
  obtain⟨hi,ex⟩:=List.getElem?_eq_some_iff.mp hx
  refine⟨_,rfl,_,rfl,_,_,rfl,rfl,some (.int (x:Int)),?_,rfl⟩
  rw[take_succ_eq_append_getElem hi,ex,orA_snoc,Zda]
  rfl
 rintro σ H3 ⟨v5,rfl,rfl⟩
 rw[cl,take_length]
 exact⟨_,rfl,q H3 s2⟩
theorem Zgs {e:Ed}(g k:Nat):∀{t:Pn}{l:Str}{s:Nat},GdW e t l s->Sb (enS e t l s) g->(∀c∈rwS e t l s,Sb c k)->GdW { e with g:=g,k:=k } t l s
 | .stop,_,s,_,h1,h2=>⟨h2 s mem_cons_self,h1⟩
 | .dd _ _,_,s,h,h1,h2=>⟨⟨h2 s mem_cons_self,h.1.2⟩,Zgs g k h.2 h1 λc hc=>h2 c (mem_cons_of_mem _ hc)⟩
 | .lk _ _,_,s,h,h1,h2=>⟨⟨h2 s mem_cons_self,h.1.2⟩,Zgs g k h.2 h1 λc hc=>h2 c (mem_cons_of_mem _ hc)⟩
 | .nil,_,_,_,_,_=>trivial
 | .way a p r,l,s,h,h1,h2=>by
  have o1:Sb (enS e p l (Zbd e l a s)) (enS e p l (Zbd e l a s)|||enS e r l s):=sb_iff.mpr λi hi=>by rw[testBit_or,hi];rfl
  have o2:Sb (enS e r l s) (enS e p l (Zbd e l a s)|||enS e r l s):=sb_iff.mpr λi hi=>by rw[testBit_or,hi,Bool.or_true]
  exact⟨Zgs g k h.1 (o1.trans h1) λc hc=>h2 c (mem_append_left _ hc),Zgs g k h.2 (o2.trans h1) λc hc=>h2 c (mem_append_right _ hc)⟩
theorem or_sbl {a b:Nat}:Sb a (a|||b):=sb_iff.mpr λi hi=>by rw[testBit_or,hi];rfl
theorem or_sbr {a b:Nat}:Sb b (a|||b):=sb_iff.mpr λi hi=>by rw[testBit_or,hi,Bool.or_true]
theorem Zk1:∀(xs:List Nat) (n:Nat),Sb n (xs.foldl (· ||| ·) n)/\∀c∈xs,Sb c (xs.foldl (· ||| ·) n)
 | [],n=>⟨Nat.and_self n,λ_ h=>nomatch h⟩
 | x::r,n=>by
  obtain⟨h1,h2⟩:=Zk1 r (n|||x)
  refine⟨or_sbl.trans h1,λc hc=>?_⟩
  rcases(mem_cons.mp hc)with z | z
  ·rw[z]
   exact or_sbr.trans h1
  exact h2 c z
theorem orA_sb {xs:List Nat}{c:Nat}(h:c∈xs):Sb c (orA xs):=(Zk1 xs 0).2 c h
theorem Zn4 {m:Nat}:∀(xs:List Nat) (n:Nat),n<2^m->(∀c∈xs,c<2^m)->xs.foldl (· ||| ·) n<2^m
 | [],_,h,_=>h
 | x::r,n,h,hx=>Zn4 r _ (Nat.or_lt_two_pow h (hx x mem_cons_self)) λc hc=>hx c (mem_cons_of_mem _ hc)
theorem Zjc {m:Nat}{e:Ed}{as:List Str}(ok:EdOk m e as):∀(t:Pn) (l:Str) (s:Nat),s<2^m->enS e t l s<2^m
 | .stop,_,_,h=>h
 | .dd d r,_,s,h=>by
  refine Zjc ok r d _ ?_
  unfold Zfw
  cases hf:e.ds.find? λx=>decide (x.name=d)with
  | none=>exact two_pow_pos m
  | some de=>exact Zeq (ls:=e.ls) ok.ch.m2 ok.ch.de (.did de (List.mem_of_find?_eq_some hf)) h
 | .lk l ws,_,s,h=>Zjc ok ws l s h
 | .nil,_,_,_=>two_pow_pos m
 | .way a p r,l,s,h=>by
  refine Nat.or_lt_two_pow (Zjc ok p l _ ?_) (Zjc ok r l s h)
  unfold Zbd
  cases hf:e.ls.find? λx=>decide (x.name=l)with
  | none=>exact two_pow_pos m
  | some lo=>exact lt_of_le_of_lt Nat.and_le_left h
def fw (H H':Hp):Hp:=λc=>match H c with
 | none=>H' c
 | some _=>none
theorem Zi8 {H H':Hp}{c:Addr}(h:H c=none):fw H H' c=H' c:=by
 unfold fw
 rw[h]
theorem Zmy {H H':Hp}{c:Addr}{u:HO}(e:fw H H' c=some u):H c=none/\H' c=some u:=by
 unfold fw at e
 cases h:H c with
 | none=>
  rw[h]at e
  exact⟨rfl,e⟩
 | some _=>
  rw[h]at e
  cases e
theorem fw_le {H H':Hp}:Same (fw H H') H':=λ_ _ e=>(Zmy e).2
theorem Zec {H H' J J':Hp}(h1:∀c,H c=none->J c=none)(h2:∀c u,H c=none->H' c=some u->J' c=some u):Same (fw H H') (fw J J'):=λc u e=>by
 obtain⟨h,e'⟩:=Zmy e
 rw[Zi8 (h1 c h)]
 exact h2 c u h e'
theorem TrAt.put {H:Hp}{t:Addr}{a:Str}{v:V}{p:Pn}(h1:H t=some (.tup [.str a,v]))(h2:TrAt H p [v]):∀{pre:List (Str×Pn)}{us:List V},TrAt H (ofL pre .nil) us->TrAt H (ofL (pre++[(a,p)]) .nil) (us++[.ref t])
 | [],us,e=>by
  rw[show us=[] from e]
  exact⟨t,v,[],rfl,h1,h2,rfl⟩
 | x::r,us,⟨t',v',us',e,z1,z2,z3⟩=>by
  rw[e]
  exact⟨t',v',us'++[.ref t],rfl,z1,z2,TrAt.put h1 h2 z3⟩
theorem Zn9:∀{pre:List (Str×Pn)},(∀x∈pre,Lb x.1/\okP true x.2)->okP false (ofL pre .nil)
 | [],_=>trivial
 | x::r,h=>⟨(h x mem_cons_self).1,(h x mem_cons_self).2,Zn9 λy hy=>h y (mem_cons_of_mem _ hy)⟩
theorem Zk7:∀pre:List (Str×Pn),anP (ofL pre .nil)=pre.map (·.1)
 | []=>rfl
 | x::r=>congrArg (x.1::·) (Zk7 r)
theorem Zoa {n:Nat}:∀{pre:List (Str×Pn)},(∀x∈pre,htP x.2<=n)->htP (ofL pre .nil)<=n
 | [],_=>zero_le _
 | x::r,h=>Nat.max_le.mpr ⟨h x mem_cons_self,Zoa λy hy=>h y (mem_cons_of_mem _ hy)⟩
theorem Zn8 {m:Nat}:∀{pre:List (Str×Pn)},(∀x∈pre,wtP x.2<=m)->wtP (ofL pre .nil)<=pre.length*(m+1)
 | [],_=>zero_le _
 | x::r,h=>by
  have h1:=h x mem_cons_self
  have h2:=Zn8 (pre:=r) λy hy=>h y (mem_cons_of_mem _ hy)
  show wtP x.2+wtP (ofL r .nil)+1<=(r.length+1)*(m+1)
  rw[Nat.add_mul]
  lia
theorem Znv {k d i:Nat}(hi:i<=2)(h:(k+2)*3^(d+1)<=13122):(3*k+1+i+2)*3^d<=13122:=by
 have h1:(3*k+1+i+2)*3^d<=(3*(k+2))*3^d:=Nat.mul_le_mul_right _ (by lia)
 have h2:(k+2)*3^(d+1)=(3*(k+2))*3^d:=by rw[Nat.pow_succ,Nat.mul_comm 3 (k+2),Nat.mul_assoc,Nat.mul_comm 3]
 lia
theorem Zlw {k d:Nat}(h:(k+2)*3^d<=13122):k<13122:=by
 have h1:(k+2)*1<=(k+2)*3^d:=Nat.mul_le_mul_left _ (Nat.pow_pos (by decide))
 lia
inductive TbV (H:Hp)(v:V)(bad:Bool):Prop
 | lst (b:Addr) (e:List Int) (hv:v=.ref b) (h:H b=some (.lst (e.map V.int))) (hb:bad=decide (e=[])):TbV H v bad
 | opt (o:Option Str) (hv:v=oS o) (hs:∀s,o=some s->strOk s=true) (hb:bad=decide (o=none)):TbV H v bad
inductive spLCan (vs:List V)(H:Hp)(Q:VK)(E0_:XK):Prop
 | mk (t:Addr) (s m:Nat) (xs:List V) (bad:Nat->Bool) (c0:vs=[.ref t,.int (s:Int)]) (c1:H t=some (.lst xs)) (c2:xs.length=m) (c3:m<=200) (c4:s<2^m) (c5:(∀(i:Nat) v,xs[i]? = some v->TbV H v (bad i))) (c6:∀H':Hp,Same H H'->Q (.bl (decide ((wl s).filter (λw=>bad w.toNat)=[]))) H'):spLCan  vs H Q E0_
abbrev tNo:Str:=Str.ofString "none of these"
structure Gro (m:Nat)(e:Ed)(as:List Str):Prop where
 ok:EdOk m e as
 g:e.g=2^m-1
 k:e.k=2^m-1
 al:∀x∈as,Lb x
 so:∀x∈as,strOk x=true
 no:tNo∉as
 dl:∀d∈e.ds,Lb d.name
 ll:∀l∈e.ls,Lb l.name
 d3:e.ds.length<=3
 l2:e.ls.length<=2
theorem dd_strs (ns:List Str):∃ds:List Str,SK.dd (kAt (ns.map (Sum.inr:Str->Key))) (ns.map (Sum.inr:Str->Key)).length=ds.map Sum.inr/\ds.Nodup/\(∀n,n∈ds↔n∈ns)/\ds.length<=ns.length:=by
 have hl:(ns.map (Sum.inr:Str->Key)).length=ns.length:=length_map ..
 rw[hl]
 have go:∀i,i<=ns.length->∃ds:List Str,SK.dd (kAt (ns.map (Sum.inr:Str->Key))) i=ds.map Sum.inr/\ds.Nodup/\(∀n,n∈ds↔n∈ns.take i)/\ds.length<=i:=by
  intro i
  induction i with
  | zero=>exact λ_=>⟨[],rfl,nodup_nil,λn=>by simp,Nat.le_refl _⟩
  | succ i ih=>
   intro hi
   have hi2:i<ns.length:=hi
   obtain⟨ds,e,nd,me,le⟩:=ih (by lia)
   have ev:kAt (ns.map (Sum.inr:Str->Key)) i=Sum.inr ns[i]:=by simp[kAt,List.getD,hi2]
   have htk:=take_succ_eq_append_getElem hi2
   have hin:(Sum.inr ns[i]:Key)∈ds.map (Sum.inr:Str->Key)↔ns[i]∈ds:=by
    rw[mem_map]
    exact⟨λ⟨m,hm,e⟩=>by cases e;exact hm,λh=>⟨_,h,rfl⟩⟩
   by_cases hm:ns[i]∈ds
   ·refine⟨ds,?_,nd,λn=>?_,by lia⟩
    ·unfold SK.dd
     rw[e,ev,if_pos (hin.mpr hm)]
    rw[htk,mem_append,mem_singleton,me n]
    exact⟨.inl,λz=>z.elim id λz=>by rw[z];exact(me _).mp hm⟩
   refine⟨ds++[ns[i]],?_,Zh9 nd hm,λn=>?_,by rw[length_append];exact Nat.succ_le_succ le⟩
   ·unfold SK.dd
    rw[e,ev,if_neg λz=>hm (hin.mp z),map_append]
    rfl
   rw[htk,mem_append,mem_append,me n]
 obtain⟨ds,h1,h2,h3,h4⟩:=go ns.length (Nat.le_refl _)
 rw[take_length]at h3
 exact⟨ds,h1,h2,h3,h4⟩
def txW (lo:Loo)(w:Int):Str:=((lo.tab[w.toNat]?).getD none).getD Str.empty
theorem Zng {m:Nat}{e:Ed}{as:List Str}(gr:Gro m e as){lo:Loo}(hlo:lo∈e.ls){s:Nat}(hs:s<2^m)(bad:bdL lo s=[]){w:Int}(hw:w∈wl s):lo.tab[w.toNat]? = some (some (txW lo w))/\txW lo w∈as:=by
 have hl:=gr.ok.ch.lo lo hlo
 obtain⟨w0,w1⟩:=Zft hs hw
 have h5:=filter_eq_nil_iff.mp bad _ hw
 have ht:lo.tab[w.toNat]? = some (lo.tab[w.toNat]'(by lia)):=getElem?_eq_getElem (by lia)
 have key:lo.tab[w.toNat]? = some (some (txW lo w)):=by
  unfold txW
  rw[ht]at h5 ⊢
  cases hx:lo.tab[w.toNat]'(by lia)with
  | none=>rw[hx]at h5;exact absurd (decide_eq_true rfl) h5
  | some z=>rfl
 exact⟨key,gr.ok.ch.an lo hlo _ (mem_of_getElem? key)⟩
def AnsOf (lo:Loo)(s:Nat)(zs:List Str):Prop:=zs.Nodup/\∀z,z∈zs↔∃i,s.testBit i=true/\lo.tab[i]? = some (some z)
theorem ans_of {m:Nat}{e:Ed}{as:List Str}(gr:Gro m e as){lo:Loo}(hlo:lo∈e.ls){s:Nat}(hs:s<2^m)(bad:bdL lo s=[]){zs:List Str}(nd:zs.Nodup)(h:∀z,z∈zs↔z∈(wl s).map (txW lo)):AnsOf lo s zs:=by
 refine⟨nd,λz=>?_⟩
 rw[h,mem_map]
 constructor
 ·rintro⟨w,hw,rfl⟩
  exact⟨w.toNat,(wl_mem.mp hw).2,(Zng gr hlo hs bad hw).1⟩
 rintro⟨i,hi,hz⟩
 have hm:(i:Int)∈wl s:=wl_mem.mpr ⟨by lia,by rw[toNat_natCast];exact hi⟩
 refine⟨i,hm,?_⟩
 have:=(Zng gr hlo hs bad hm).1
 rw[toNat_natCast,hz]at this
 injection this with this
 injection this with this
 exact this.symm
theorem AnsOf.le {m:Nat}{e:Ed}{as:List Str}(gr:Gro m e as){lo:Loo}(hlo:lo∈e.ls){s:Nat}{zs:List Str}(h:AnsOf lo s zs):zs.length<=3/\∀z∈zs,z∈as:=by
 have hm:∀z∈zs,z∈as:=λz hz=>by
  obtain⟨i,_,hi⟩:=(h.2 z).mp hz
  exact gr.ok.ch.an lo hlo z (mem_of_getElem? hi)
 exact⟨le_trans (List.Nodup.length_le_of_subset h.1 hm) gr.ok.ch.a3,hm⟩
theorem Zfy {m g x:Nat}(hg:g=2^m-1)(hx:x<2^m):Sb x g:=sb_iff.mpr λi hi=>by
 rw[hg,Nat.testBit_two_pow_sub_one]
 refine decide_eq_true (Nat.lt_of_not_le λh=>?_)
 rw[testBit_lt_two_pow (lt_of_lt_of_le hx (pow_le_pow_right (by decide) h))]at hi
 cases hi
theorem lb_no:Lb tNo:=⟨by decide +kernel,by decide +kernel,by unfold Sm;decide +kernel⟩
theorem Zod {e:Ed}{l:Str}{s:Nat}:∀{pre:List (Str×Pn)},(∀x∈pre,GdW e x.2 l (Zbd e l x.1 s))->GdW e (ofL pre .nil) l s
 | [],_=>trivial
 | x::r,h=>⟨h x mem_cons_self,Zod λy hy=>h y (mem_cons_of_mem _ hy)⟩
def Zlp (H:Hp)(e:Ed)(s:Nat)(v:V):Prop:=(∃d∈e.ds,DeV H v d/\bdD d s=[])\/∃l∈e.ls,LoV H v l/\bdL l s=[]
inductive spGrown (K:W.Frag)(n:Nat)(vs:List V)(H:Hp)(Q:VK)(E0_:XK):Prop
 | mk (a:Addr) (ns:List Int) (k d:Nat) (dt:Addr) (m:Nat) (e:Ed) (as:List Str) (s:Nat) (c0:vs=[.ref a,.int (k:Int),.ref dt,.int (s:Int),.int (d:Int)]) (c1:SqL K H a (ns.map V.int)) (c2:ns.length<=63) (c3:(k+2)*3^d<=13122) (c4:d<n) (c5:Dat H dt e) (c6:Gro m e as) (c7:s<2^m) (c8:∀(v:V) (p:Pn) (H':Hp),Same H H'->TrAt (fw H H') p [v]->okP true p->(∀l,GdW e p l s)->htP p<=d+1->wtP p+2<=3*4^d->Q v H'):spGrown K n vs H Q E0_
inductive spGways (K:W.Frag)(n:Nat)(vs:List V)(H:Hp)(Q:VK)(E0_:XK):Prop
 | mk (a:Addr) (ns:List Int) (k d:Nat) (dt:Addr) (m:Nat) (e:Ed) (as:List Str) (s:Nat) (st tb:Addr) (lo:Loo) (c0:vs=[.ref a,.int (k:Int),.ref dt,.ref st,.int (s:Int),.int ((d+1:Nat):Int)]) (c1:SqL K H a (ns.map V.int)) (c2:ns.length<=63) (c3:(k+2)*3^(d+1)<=13122) (c4:d<n) (c5:Dat H dt e) (c6:Gro m e as) (c7:s<2^m) (c8:lo∈e.ls) (c9:H st=some (.tup [.str lo.name,.int lo.price,.ref tb])) (c10:H tb=some (.lst (lo.tab.map oS))) (c11:bdL lo s=[]) (c12:∀(r:Addr) (us:List V) (ws:Pn) (H':Hp),Same H H'->H r=none->H' r=some (.lst us)->TrAt (fw H H') ws us->okP false ws->ws≠.nil->(anP ws).Nodup->(anP ws).length<=4->(∀i,s.testBit i=true->∃z∈anP ws,lo.tab[i]? = some (some z))->GdW e ws lo.name s->htP ws<=d+1->wtP ws+3<=3*4^(d+1)->Q (.ref r) H'):spGways K n vs H Q E0_
abbrev Zi0:List Str:=["_law_script", "_law_k", "_law_prime", "_law_many_here"]
abbrev nLDeep:List Str:=["_law_script", "_law_k", "_law_prime", "_law_many_here", "_law_mixed"]
theorem scLDeep:FnScope nLDeep Zi0 (Zaf Ziu):=Zav
abbrev Znn:List Str:=["_law_table_here", "_law_some"]
abbrev nLCan:List Str:=["_law_table_here", "_law_some", "_law_world"]
theorem scLCan:FnScope nLCan Znn (Zaf Zni):=Zav
abbrev Zcx:List Str:=["_law_script", "_law_k", "_law_data", "_law_step", "_law_some", "_law_deep_here"]
abbrev nLGrownWays:List Str:=["_law_script", "_law_k", "_law_data", "_law_step", "_law_some", "_law_deep_here", "_law_answers", "_law_ways_here", "_law_answer", "_law_part_here"]
theorem scLGrownWays:FnScope nLGrownWays Zcx (Zaf Zb6):=Zav
abbrev Zd6:List Str:=["_law_script", "_law_k", "_law_data", "_law_some", "_law_deep_here"]
abbrev nLGrown:List Str:=["_law_script", "_law_k", "_law_data", "_law_some", "_law_deep_here", "_law_steps", "_law_step", "_law_tree", "_law_later"]
theorem scLGrown:FnScope nLGrown Zd6 (Zaf Zd1):=Zav
theorem ok_deep {f:Addr}{fd:FuncData}(F:Fun K "_law_deep" "_law_deep" Ziu f fd)(C_l_cell:Ca P w K mg base CX0 1 "_law_cell" Zha Zi1 (spCell K)):FnOk P w K mg base CX0 2 f fd Zi0 (spDraw K):=by
 refine F.oq scLDeep λcdv A outer s H vs Q E hr1 h=>?_
 obtain⟨a,ns,k,p,m,rfl,hS,hn,k0,k1,p0,m0,q⟩:=h
 refine⟨_,(Zac (Zaw (i:=4) scLDeep.nd (Zau Zeo (Zau Zbo (Zau Zbo (Zau Zcg (Zaq C_l_cell hr1 Zak (Zaa (pv 0) (Zaa (Zau Zeo (Zau Zbo (Zau Zcg Zae (pv 1)) Zae) Zae) Zab))) Zae) (Zau Zcg (Zau Zcg Zae (pv 1)) (pv 1))) Zae) (pv 2)))
  (Zag (Zam (Zau Zeo (Zau Zeo (Zau Zcg (pv 4) Zae) Zae) (pv 3))))),?_⟩
 refine⟨_,rfl,_,rfl,_,_,rfl,rfl,.inl ⟨by decide,by decide⟩,_,_,rfl,rfl,_,_,rfl,rfl,(by show(0:Int)<_;decide),a,ns,_,rfl,hS,hn,emod_nonneg _ (by decide),?_⟩
 refine⟨_,_,rfl,rfl,.inr ⟨by decide,by decide⟩,_,rfl,_,_,rfl,rfl,.inl ⟨by decide,by decide⟩,_,rfl,_,_,rfl,rfl,.inl ⟨by lia,by lia⟩,_,_,rfl,rfl,_,_,rfl,rfl,_,rfl,_,_,rfl,rfl,p0,?_⟩
 exact⟨_,rfl,_,_,rfl,rfl,.inr ⟨by decide,by decide⟩,_,_,rfl,rfl,(by show(0:Int)<_;decide),_,rfl,_,_,rfl,rfl,m0,q _ (emod_nonneg _ (by lia)) (emod_lt_of_pos _ m0)⟩
theorem ok_lcan {f:Addr}{fd:FuncData}(F:Fun K "_law_can" "_law_can" Zni f fd)(C_l_list:Ca P w K mg base CX0 1 "_law_list" Zef Zfe spWof):FnOk P w K mg base CX0 2 f fd Znn spLCan:=by
 refine F.oq scLCan λcdv A outer s0 H vs Q E hr1 h=>?_
 obtain⟨t,s,m,xs,bad,rfl,ht,hxl,m2,hs,tb,q⟩:=h
 have hun:=hr1.units
 refine⟨_,(Zac (Zbh PassesOwn.never rfl (Za4 (Zaq C_l_list hr1 Zak (Zaa (pv 1) Zab))) (Za3 (i:=2) scLCan.nd)
   (Zag (Za2 (PW.pt (Zgz (Zao (Zn5 hun) (Zas Zbj (pv 0) (pv 2) (λ_ _=>rfl)) (Zbs Zab) (Zar _)) (Zej (Zao Zi3 (Zas Zbj (pv 0) (pv 2) (λ_ _=>rfl)) Zbz (Zar _))))) (Zag (Zam Zfj)) Zan)))
  (Zag (Zam Zfj))),?_⟩
 refine⟨_,rfl,s,rfl,Ze3 hs m2,λl H1 s1 hl e1=>⟨l,rfl,⟨_,SqL.of e1⟩,?_⟩⟩
 have hl1:((wl s).map V.int).length=(wl s).length:=length_map ..
 refine Zbc (K:=K) (a:=l) (xs:=(wl s).map V.int) (λi σ H2=>∃(v2:Option V),σ = [some (.ref t),some (.int (s:Int)),v2]/\Same H1 H2/\((wl s).take i).filter (λw=>bad w.toNat)=[])
  ⟨none,rfl,Same.refl _,rfl⟩ (λi σ H2 _ hh0=>by obtain⟨_,_,z,_⟩:=hh0;exact SqL.of (z _ _ e1)) ?_ ?_
 ·rintro i v σ H2 hv ⟨v2,rfl,s2,no⟩
  have hi:i<(wl s).length:=by
   have:=(List.getElem?_eq_some_iff.mp hv).1
   lia
  have hw:(wl s)[i]? = some (wl s)[i]:=getElem?_eq_getElem hi
  have hv':v=.int (wl s)[i]:=by
   rw[getElem?_map,hw]at hv
   exact(Option.some.inj hv).symm
  subst hv'
  obtain⟨w0,w1⟩:=Zft hs (getElem_mem hi)
  have htk:(wl s).take (i+1)=(wl s).take i++[(wl s)[i]]:=take_succ_eq_append_getElem hi
  generalize (wl s)[i]=wv at hw w0 w1 htk
  obtain⟨j,rfl⟩:∃j:Nat,(j:Int)=wv:=⟨wv.toNat,toNat_of_nonneg w0⟩
  have hj:j<xs.length:=by lia
  have hx:xs[j]? = some xs[j]:=getElem?_eq_getElem hj
  have s12:=s1.trans s2
  have yes:bad j=true->∀H3,Same H2 H3->Q (.bl false) H3:=λhb H3 s3=>by
   obtain⟨r,er⟩:=flt_at (p:=λw=>bad w.toNat) hw no (by rw[toNat_natCast];exact hb)
   have:=q H3 (s12.trans s3)
   rw[er]at this
   exact this
  have goon:bad j=false->((wl s).take (i+1)).filter (λw=>bad w.toNat)=[]:=λhb=>by
   rw[htk,filter_append,no]
   simp[hb]
  rcases tb j _ hx with⟨b,e,hv',hb,hbad⟩ | ⟨o,hv',hso,hbad⟩
  ·have hat:atI xs (j:Int)=some (.ref b):=Zal (by rw[hx,hv'])
   refine⟨_,rfl,_,rfl,t,_,_,_,rfl,rfl,SqL.of (s12 _ _ ht),hat,zero_le _,λl0 hl0=>?_⟩
   have s3:Same H2 (upd H2 l0 (.lst [])):=Same.new hl0
   have e3:(upd H2 l0 (.lst [])) l0=some (.lst (([]:List Int).map V.int)):=Zad
   generalize (upd H2 l0 (.lst []))=H3 at s3 e3 ⊢
   refine⟨_,_,.lst (s3 _ _ (s12 _ _ hb)) (RdWs.of (Zcu e)),.lst e3 (RdWs.of (Zcu [])),Zc6 _,Zc6 _,_,rfl,?_⟩
   cases e with
   | nil=>
    rw[Zlg]
    refine iteT ?_
    exact yes hbad H3 s3
   | cons z0 zr=>
    rw[eqv_e]
    refine iteF ?_
    refine⟨_,rfl,_,rfl,t,_,_,_,rfl,rfl,SqL.of ((s12.trans s3) _ _ ht),hat,rfl,_,rfl,?_⟩
    refine iteF ?_
    exact⟨_,rfl,s2.trans s3,goon hbad⟩
  have hat:atI xs (j:Int)=some (oS o):=Zal (by rw[hx,hv'])
  refine⟨_,rfl,_,rfl,t,_,_,_,rfl,rfl,SqL.of (s12 _ _ ht),hat,zero_le _,λl0 hl0=>?_⟩
  have s3:Same H2 (upd H2 l0 (.lst [])):=Same.new hl0
  have e3:(upd H2 l0 (.lst [])) l0=some (.lst (([]:List Int).map V.int)):=Zad
  generalize (upd H2 l0 (.lst []))=H3 at s3 e3 ⊢
  cases o with
  | none=>
   refine⟨_,_,.flat .non,.lst e3 (RdWs.of (Zcu [])),sh_non,Zc6 _,_,rfl,?_⟩
   rw[eqv_ne]
   refine iteF ?_
   refine⟨_,rfl,_,rfl,t,_,_,_,rfl,rfl,SqL.of ((s12.trans s3) _ _ ht),hat,rfl,_,rfl,?_⟩
   refine iteT ?_
   exact yes hbad H3 s3
  | some y=>
   refine⟨_,_,.flat (.str y),.lst e3 (RdWs.of (Zcu [])),sh_str (hso y rfl),Zc6 _,_,rfl,?_⟩
   rw[eqv_se]
   refine iteF ?_
   refine⟨_,rfl,_,rfl,t,_,_,_,rfl,rfl,SqL.of ((s12.trans s3) _ _ ht),hat,rfl,_,rfl,?_⟩
   refine iteF ?_
   exact⟨_,rfl,s2.trans s3,goon hbad⟩
 rintro σ H2 ⟨v2,rfl,s2,no⟩
 rw[hl1,take_length]at no
 have:=q H2 (s1.trans s2)
 rw[no]at this
 exact this
theorem ok_gways {n:Nat}{f f3:Addr}{fd d3:FuncData}(F:Fun K "_law_grown_ways" "_law_grown_ways" Zb6 f fd)(T:Bl mg)(C_l_list:Ca P w K mg base CX0 1 "_law_list" Zef Zfe spWof)(C_l_deep:Ca P w K mg base CX0 2 "_law_deep" Ziu Zi0 (spDraw K))
  (D_l_part:Df K mg "_law_part" Zf4 Zfd f3 d3)(G_l_part:FnOk P w K mg base CX0 2 f3 d3 Zfd spPartL)(C_l_grown:Ca P w K mg base CX0 (4+2*n) "_law_grown" Zd1 Zd6 (spGrown K n)):FnOk P w K mg base CX0 (4+2*n+1) f fd Zcx (spGways K n):=by
 refine F.ok (k:=4+2*n) scLGrownWays (λvs H Q E h=>?_) (λcdv A outer s0 H vs Q E hrG h=>?_)
 ·obtain⟨a,ns,k,d,dt,m,e,as,s,st,tb,lo,rfl,_⟩:=h
  rfl
 obtain⟨a,ns,k,d,dt,m,e,as,s,st,tb,lo,rfl,hS,hn,hk,hd,D0,gr,hs,hlo,hst,htb,bad,q⟩:=h
 have hr1:Room 1 _:=hrG.mono (by lia)
 have hr2:Room 2 _:=hrG.mono (by lia)
 have hun:=hr1.units
 have hsl:sizeLine=16777216:=sizeLine_eq
 refine⟨_,(Zac (Zaw (i:=6) scLGrownWays.nd (Zap (call_sortedT rfl) (by rfl) T.sorted Zet (Zaa (Zay (Zgx rfl) (by rfl) T.set Zjm (Zaa (Zcw (N:=["_law_world", "_law_step"]) (sc:=Zaf Zb6) (own:=["_law_world"]) (fr:=["_law_step"]) (js:=[3]) Zb4 rfl (Za4 (Zaq C_l_list hr1 Zak (Zaa (pv 4) Zab))) (λ_ _ _ _=>Za3 (i:=0) (show List.Nodup (["_law_world", "_law_step"]:List Str) by decide +kernel)) (λ_ _ _ _=>Zbn) (λ_ _ _ _=>(Zas (Zlc K rfl) (Zas (Zb2 K rfl) (pv 1) Zae (λ_ _=>rfl)) (pv 0) (λ_ _=>rfl)))) Zab)) Zab)))
  (Zac (Za2 (Zao Zbt (Zaq C_l_deep hr2 Zak (Zaa (pv 0) (Zaa (pv 1) (Zaa Zae (Zaa Zae Zab))))) Zae (Zar _)) (Zag (Zaw (i:=6) scLGrownWays.nd (pe_lrev rfl (by rfl) T.list Zbx (by rfl) T.reversed (by decide +kernel) (Zaa (pv 6) Zab)))) Zan)
  (Zac (Zaw (i:=7) scLGrownWays.nd (Zbs Zab))
  (Zac (Zbh PassesOwn.never rfl (Za4 (pv 6)) (Za3 (i:=8) scLGrownWays.nd)
   (Zac (Zaw (i:=9) scLGrownWays.nd (Za5 G_l_part hr2 (by rfl) D_l_part.m D_l_part.F.kp D_l_part.b .nil Zak (Zaa (pv 2) (Zaa (Zbb (Zaa Za6 (Zaa (Zas Zat (pv 3) Zae (λ_ _=>rfl)) (Zaa (Zbs Zab) Zab)))) (Zaa (pv 8) (Zaa (pv 4) Zab))))))
  (Zag (Zaz (Zds PySem.F.plainAttrs_list PySem.F.slot_list_append PySem.F.type_list_append Za7 (pv 7) (Zaa (Zbb (Zaa (pv 8) (Zaa (Zaq C_l_grown hrG Zak (Zaa (pv 0) (Zaa (Zau Zbo (Zau Zbo (Zau Zcg Zae (pv 1)) Zae) (Zap Za8 (by rfl) T.len PySem.boot_len (Zaa (pv 7) Zab))) (Zaa (pv 2) (Zaa (pv 9) (Zaa (Zau Zhe (pv 5) Zae) Zab)))))) Zab))) Zab))))))
  (Zac (Za2 (PW.pt (Zgz (Zao (Zn6 hun) (pv 7) (Zbs Zab) (Zar _)) (Zej (Zao Zbt (Zaq C_l_deep hr2 Zak (Zaa (pv 0) (Zaa (pv 1) (Zaa Zae (Zaa Zae Zab))))) Zae (Zar _))))) (Zag (Zaz (Zds PySem.F.plainAttrs_list PySem.F.slot_list_append PySem.F.type_list_append Za7 (pv 7) (Zaa (Zbb (Zaa Za6 (Zaa (Zbb (Zaa Za6 Zab)) Zab))) Zab)))) Zan)
  (Zag (Zam (pv 7)))))))),?_⟩
 have m2:=gr.ok.ch.m2
 have a2:∀u v z:V,atI [u,v,z] ((2:Nat):Int)=some z:=λ_ _ _=>Zal rfl
 have a0:∀u v z:V,atI [u,v,z] ((0:Nat):Int)=some u:=λ_ _ _=>Zal rfl
 have hl200:(wl s).length<=200:=by
  unfold wl
  rw[length_map]
  refine le_trans (length_filter_le _ _) ?_
  rw[length_range]
  exact Zno (Ze3 hs m2)
 refine Zdw (λσ H1=>∃(l:Addr) (zs:List Str),σ = [some (.ref a),some (.int (k:Int)),some (.ref dt),some (.ref st),some (.int (s:Int)),some (.int ((d+1:Nat):Int)),some (.ref l),none,none,none]/\Same H H1/\H1 l=some (.lst (zs.map V.str))/\AnsOf lo s zs) ?_ ?_
 ·rintro σ H1 ⟨l,zs,rfl,s1,e1,an⟩
  have hk0:=Zlw hk
  refine Zdw (λσ H2=>∃(l:Addr) (zs:List Str),σ = [some (.ref a),some (.int (k:Int)),some (.ref dt),some (.ref st),some (.int (s:Int)),some (.int ((d+1:Nat):Int)),some (.ref l),none,none,none]/\Same H H2/\H2 l=some (.lst (zs.map V.str))/\AnsOf lo s zs) ?_ ?_
  ·clear s1 e1 an
   rintro σ H2 ⟨l,zs,rfl,s2,e2,an⟩
   obtain⟨z3,zas⟩:=an.le gr hlo
   refine⟨by show 0<=sizeLine;lia,λr hr=>?_⟩
   have s23:Same H2 (upd H2 r (.lst [])):=Same.new hr
   have e3:(upd H2 r (.lst [])) r=some (.lst []):=Zad
   have n1:∀c,(upd H2 r (.lst [])) c=none->H2 c=none/\c≠r:=λc z=>⟨s23.free z,λe=>by rw[e,e3]at z;cases z⟩
   generalize (upd H2 r (.lst []))=H3 at s23 e3 n1 ⊢
   have s03:=s2.trans s23
   have hr0:H r=none:=s2.free hr
   dsimp only
   refine Zhl (λσ H4=>∃(v8 v9:Option V) (us:List V) (pre:List (Str×Pn)),σ = [some (.ref a),some (.int (k:Int)),some (.ref dt),some (.ref st),some (.int (s:Int)),some (.int ((d+1:Nat):Int)),some (.ref l),some (.ref r),v8,v9] /\
     Same H2 H4/\H4 r=some (.lst us)/\(∀c u,H3 c=some u->c≠r->H4 c=some u)/\TrAt (fw H3 H4) (ofL pre .nil) us/\us.length=zs.length/\pre.map (·.1)=zs/\(∀x∈pre,Lb x.1/\okP true x.2)/\(∀x∈pre,htP x.2<=d+1)/\(∀x∈pre,wtP x.2+2<=3*4^d)/\(∀x∈pre,GdW e x.2 lo.name (Zbd e lo.name x.1 s))) ?_ ?_
   ·rintro σ H4 ⟨v8,v9,us,pre,rfl,s4,e4,k4,tr4,ul,pn,po,ph,pw,pg⟩
    have pl:pre.length=zs.length:=by
     have:=congrArg List.length pn
     rwa [length_map]at this
    have p4:1<=4^d:=Nat.pow_pos (by decide)
    have p5:4^(d+1)=4^d*4:=Nat.pow_succ ..
    have kd:∀i,s.testBit i=true->∃z∈zs,lo.tab[i]? = some (some z):=λi hi=>by
     have hm:(i:Int)∈wl s:=wl_mem.mpr ⟨by lia,by rw[toNat_natCast];exact hi⟩
     have hx:=(Zng gr hlo hs bad hm).1
     rw[toNat_natCast]at hx
     exact⟨_,(an.2 _).mpr ⟨i,hi,hx⟩,hx⟩
    refine Zdw (λσ H5=>∃(us:List V) (pre:List (Str×Pn)),σ = [some (.ref a),some (.int (k:Int)),some (.ref dt),some (.ref st),some (.int (s:Int)),some (.int ((d+1:Nat):Int)),some (.ref l),some (.ref r),v8,v9] /\
     Same H2 H5/\H5 r=some (.lst us)/\TrAt (fw H3 H5) (ofL pre .nil) us/\pre≠[]/\pre.length<=4/\(pre.map (·.1)).Nodup/\(∀z∈zs,z∈pre.map (·.1))/\(∀x∈pre,Lb x.1/\okP true x.2)/\(∀x∈pre,htP x.2<=d+1)/\(∀x∈pre,wtP x.2+2<=3*4^d)/\(∀x∈pre,GdW e x.2 lo.name (Zbd e lo.name x.1 s))) ?_ ?_
    ·clear s4 e4 k4 tr4 ul pn po ph pw pg pl
     rintro σ H5 ⟨us,pre,rfl,s5,e5,tr5,pne,p3,pnd,pz,po,ph,pw,pg⟩
     have wt:=Zn8 (pre:=pre) (m:=3*4^d-2) λx hx=>by have:=pw x hx;lia
     have wt2:pre.length*(3*4^d-2+1)<=4*(3*4^d-2+1):=Nat.mul_le_mul_right _ p3
     refine⟨_,rfl,q r us (ofL pre .nil) H5 (s2.trans s5) hr0 e5 (tr5.same (Zec (λc z=>s03.free z) λ_ _ _ e=>e)) (Zn9 po) ?_ (by rw[Zk7];exact pnd) (by rw[Zk7,length_map];exact p3) (λi hi=>?_) (Zod pg) (Zoa ph) (by lia)⟩
     ·cases pre with
      | nil=>exact absurd rfl pne
      | cons y r'=>intro z;cases z
     obtain⟨z,hz,hx⟩:=kd i hi
     exact⟨z,by rw[Zk7];exact pz z hz,hx⟩
    intro N hN
    refine⟨_,rfl,by show 0<=sizeLine;lia,λl0 hl0=>?_⟩
    obtain⟨H5,g0,s45,el0⟩:=gen1 (H:=H4) (o:=.lst []) hl0
    rw[g0]
    have er5:=s45 _ _ e4
    have n2:∀c,H4 c=none->H3 c=none:=λc z=>by
     cases h:H3 c with
     | none=>rfl
     | some u=>
      exfalso
      by_cases hc:c=r
      ·rw[hc,e4]at z
       cases z
      rw[k4 c u h hc]at z
      cases z
    have fin:∀t1 t2:Addr,H5 t1=none->(upd H5 t1 (.tup [.str Zdu])) t2=none->N [some (.ref a),some (.int (k:Int)),some (.ref dt),some (.ref st),some (.int (s:Int)),some (.int ((d+1:Nat):Int)),some (.ref l),some (.ref r),v8,v9] (upd (upd (upd H5 t1 (.tup [.str Zdu])) t2 (.tup [.str tNo,.ref t1])) r (.lst (us++[.ref t2]))):=λt1 t2 ht1 ht2=>by
     have s56:Same H5 (upd H5 t1 (.tup [.str Zdu])):=Same.new ht1
     have e6:(upd H5 t1 (.tup [.str Zdu])) t1=some (.tup [.str Zdu]):=Zad
     generalize (upd H5 t1 (.tup [.str Zdu]))=H6 at s56 e6 ht2 ⊢
     obtain⟨H7,g0,s67,e7⟩:=gen1 (H:=H6) (o:=.tup [.str tNo,.ref t1]) ht2
     rw[g0]
     have e67:=s67 _ _ e6
     have er7:=s67 _ _ (s56 _ _ er5)
     have kA:∀c u,H7 c=some u->c≠r->(upd H7 r (.lst (us++[.ref t2]))) c=some u:=λc u e hc=>by rw[Zaj hc];exact e
     have eA:(upd H7 r (.lst (us++[.ref t2]))) r=some (.lst (us++[.ref t2])):=Zad
     generalize (upd H7 r (.lst (us++[.ref t2])))=HA at kA eA ⊢
     have s47:=(s45.trans s56).trans s67
     have k4A:∀c u,H4 c=some u->c≠r->HA c=some u:=λc u e hc=>kA c u (s47 _ _ e) hc
     have x1:H3 t1=none:=n2 t1 (s45.free ht1)
     have x2:H3 t2=none:=n2 t2 (s45.free (s56.free ht2))
     have lt3:Zbd e lo.name tNo s<2^m:=by
      rw[Zfc gr.ok hlo]
      exact lt_of_le_of_lt Nat.and_le_left hs
     refine hN _ _ ⟨us++[.ref t2],pre++[(tNo,.stop)],rfl,λc u e=>k4A c u (s4 _ _ e) (Zah e hr),eA,TrAt.put (p:=.stop) (v:=.ref t1) ?_ (show TrAt (fw H3 HA) .stop [V.ref t1] from ⟨t1,rfl,by rw[Zi8 x1];exact kA _ _ e67 (Zbg e67 er7 (by intro z;cases z))⟩) (tr4.same (Zec (λ_ z=>z) λc u z e=>k4A c u e (n1 c z).2)),?_,?_,?_,λz hz=>?_,λy hy=>?_,λy hy=>?_,λy hy=>?_,λy hy=>?_⟩
     ·rw[Zi8 x2]
      exact kA _ _ e7 (Zbg e7 er7 (by intro z;cases z))
     ·intro z
      cases pre <;> cases z
     ·rw[length_append,pl]
      show zs.length+1<=4
      lia
     ·rw[map_append,pn]
      exact Zh9 an.1 λz=>gr.no (zas _ z)
     ·rw[map_append,pn]
      exact mem_append_left _ hz
     ·rcases(mem_append.mp hy)with z | z
      ·exact po y z
      rw[mem_singleton.mp z]
      exact⟨lb_no,trivial⟩
     ·rcases(mem_append.mp hy)with z | z
      ·exact ph y z
      rw[mem_singleton.mp z]
      exact Nat.le_add_left ..
     ·rcases(mem_append.mp hy)with z | z
      ·exact pw y z
      rw[mem_singleton.mp z]
      show 1+2<=_
      lia
     rcases(mem_append.mp hy)with z | z
     ·exact pg y z
     rw[mem_singleton.mp z]
     exact⟨Zfy gr.k lt3,Zfy gr.g lt3⟩
    refine⟨r,l0,us,rfl,rfl,er5,el0,_,rfl,?_⟩
    refine ite2 (λ_=>?_) (λhu=>?_)
    ·refine iteT ?_
     exact⟨_,rfl,.inl ⟨rfl,_,SqL.of er5⟩,by show 1<=sizeLine;lia,λt1 ht1=>⟨by show 2<=sizeLine;lia,λt2 ht2=>⟨r,_,_,rfl,rfl,(Same.new ht2) _ _ ((Same.new ht1) _ _ er5),by lia,fin t1 t2 ht1 ht2⟩⟩⟩
    refine⟨_,rfl,_,rfl,a,ns,_,_,_,rfl,((s2.trans s4).trans s45).seq hS,hn,by lia,by lia,by decide,by decide,λrr r0 r3=>?_⟩
    refine⟨rfl,_,rfl,?_⟩
    refine ite2 (λ_=>?_) (λ_=>?_)
    ·exact⟨_,rfl,.inl ⟨rfl,_,SqL.of er5⟩,by show 1<=sizeLine;lia,λt1 ht1=>⟨by show 2<=sizeLine;lia,λt2 ht2=>⟨r,_,_,rfl,rfl,(Same.new ht2) _ _ ((Same.new ht1) _ _ er5),by lia,fin t1 t2 ht1 ht2⟩⟩⟩
    refine hN _ _ ⟨us,pre,rfl,s4.trans s45,er5,tr4.same (Zec (λ_ z=>z) λc u z e=>s45 _ _ e),?_,by lia,by rw[pn];exact an.1,λz hz=>by rw[pn];exact hz,po,ph,pw,pg⟩
    intro z
    rw[z]at pl
    have:us=[]:=length_eq_zero_iff.mp (ul.trans pl.symm)
    rw[this]at hu
    exact hu rfl
   intro N hN
   refine⟨_,rfl,l,rfl,⟨_,SqL.of (s23 _ _ e2)⟩,?_⟩
   refine Zbc (K:=K) (a:=l) (xs:=zs.map V.str) (λi σ H4=>∃(v8 v9:Option V) (us:List V) (pre:List (Str×Pn)),σ = [some (.ref a),some (.int (k:Int)),some (.ref dt),some (.ref st),some (.int (s:Int)),some (.int ((d+1:Nat):Int)),some (.ref l),some (.ref r),v8,v9] /\
    Same H2 H4/\H4 r=some (.lst us)/\(∀c u,H3 c=some u->c≠r->H4 c=some u)/\TrAt (fw H3 H4) (ofL pre .nil) us/\us.length=i/\pre.map (·.1)=zs.take i/\(∀x∈pre,Lb x.1/\okP true x.2)/\(∀x∈pre,htP x.2<=d+1)/\(∀x∈pre,wtP x.2+2<=3*4^d)/\(∀x∈pre,GdW e x.2 lo.name (Zbd e lo.name x.1 s)))
    ⟨none,none,[],[],rfl,s23,e3,(λ_ _ e _=>e),rfl,rfl,rfl,(λ_ h=>nomatch h),(λ_ h=>nomatch h),(λ_ h=>nomatch h),(λ_ h=>nomatch h)⟩ (λi σ H4 _ hh0=>by obtain⟨_,_,_,_,_,z,_⟩:=hh0;exact SqL.of (z _ _ e2)) ?_ ?_
   ·rintro i y σ H4 hy ⟨v8,v9,us,pre,rfl,s4,e4,k4,tr4,ul,pn,po,ph,pw,pg⟩
    rw[getElem?_map]at hy
    obtain⟨x,hx,rfl⟩:=map_eq_some_iff.mp hy
    obtain⟨hi,ex⟩:=List.getElem?_eq_some_iff.mp hx
    have xas:=zas x (mem_of_getElem? hx)
    have s04:=s2.trans s4
    refine⟨_,rfl,_,rfl,st,_,_,_,rfl,rfl,SqT.of (s04 _ _ hst),a0 _ _ _,by show 0<=sizeLine;lia,λq0 hq0=>?_⟩
    have s45:Same H4 (upd H4 q0 (.lst [])):=Same.new hq0
    generalize (upd H4 q0 (.lst []))=H5 at s45 ⊢
    refine⟨by show 3<=sizeLine;lia,λt0 ht0=>?_⟩
    obtain⟨H6,g0,s56,e6⟩:=gen1 (H:=H5) (o:=.tup [.str (Str.ofString "look"),.str lo.name,.ref q0]) ht0
    rw[g0]
    have s46:=s45.trans s56
    refine⟨_,rfl,_,rfl,dt,t0,m,e,as,_,_,lo,x,s,rfl,D0.same (s04.trans s46),gr.ok,hs,e6,hlo,λH7 s67=>?_⟩
    rw[<- Zfc gr.ok hlo]
    have lt3:Zbd e lo.name x s<2^m:=by
     rw[Zfc gr.ok hlo]
     exact lt_of_le_of_lt Nat.and_le_left hs
    have s47:=s46.trans s67
    have s07:=s04.trans s47
    have e7:=s47 _ _ e4
    have ui:us.length=i:=ul
    refine⟨_,rfl,.inl ⟨rfl,_,SqL.of e7⟩,_,rfl,_,rfl,_,rfl,_,_,rfl,rfl,.inl ⟨by decide,by decide⟩,_,_,rfl,rfl,_,rfl,_,_,rfl,.inl ⟨_,SqL.of e7,rfl⟩,_,_,rfl,rfl,_,rfl,_,rfl,_,rfl,_,_,rfl,rfl,?_⟩
    refine⟨a,ns,3*k+1+i,d,dt,m,e,as,Zbd e lo.name x s,?_,s07.seq hS,hn,Znv (by lia) hk,hd,D0.same s07,gr,lt3,λv p H8 s78 tr ok gp hh hw=>?_⟩
    ·rw[ui,show(((d+1:Nat):Int)-1)=(d:Int) by lia,show(3:Int)*(k:Int)+1+(i:Int)=((3*k+1+i:Nat):Int) by lia]
     rfl
    have e8:=s78 _ _ e7
    refine⟨by show 2<=sizeLine;lia,λt1 ht1=>?_⟩
    obtain⟨H9,g0,s89,e9⟩:=gen1 (H:=H8) (o:=.tup [.str x,v]) ht1
    rw[g0]
    have er9:=s89 _ _ e8
    have xr:t1≠r:=Zbg e9 er9 (by intro z;cases z)
    refine⟨r,_,_,rfl,rfl,er9,by lia,?_⟩
    have kA:∀c u,H9 c=some u->c≠r->(upd H9 r (.lst (us++[.ref t1]))) c=some u:=λc u e hc=>by rw[Zaj hc];exact e
    have eA:(upd H9 r (.lst (us++[.ref t1]))) r=some (.lst (us++[.ref t1])):=Zad
    generalize (upd H9 r (.lst (us++[.ref t1])))=HA at kA eA ⊢
    have s49:=(s47.trans s78).trans s89
    have k4A:∀c u,H4 c=some u->c≠r->HA c=some u:=λc u e hc=>kA c u (s49 _ _ e) hc
    have n2:∀c,H4 c=none->H3 c=none:=λc z=>by
     cases h:H3 c with
     | none=>rfl
     | some u=>
      exfalso
      by_cases hc:c=r
      ·rw[hc,e4]at z
       cases z
      rw[k4 c u h hc]at z
      cases z
    have x1:H3 t1=none:=n2 t1 (s47.free (s78.free ht1))
    refine⟨_,_,us++[.ref t1],pre++[(x,p)],rfl,λc u e=>k4A c u (s4 _ _ e) (Zah e hr),eA,λc u e hc=>k4A c u (k4 c u e hc) hc,?_,by rw[length_append,ul];rfl,?_,λy hy=>?_,λy hy=>?_,λy hy=>?_,λy hy=>?_⟩
    ·refine TrAt.put ?_ (tr.same (Zec (λc z=>n2 c (s47.free z)) λc u z e=>kA c u (s89 _ _ e) λw=>?_)) (tr4.same (Zec (λ_ z=>z) λc u z e=>k4A c u e (n1 c z).2))
     ·rw[Zi8 x1]
      exact kA _ _ e9 xr
     rw[w,e7]at z
     cases z
    ·rw[map_append,pn,take_succ_eq_append_getElem hi,ex]
     rfl
    ·rcases(mem_append.mp hy)with z | z
     ·exact po y z
     rw[mem_singleton.mp z]
     exact⟨gr.al _ xas,ok⟩
    ·rcases(mem_append.mp hy)with z | z
     ·exact ph y z
     rw[mem_singleton.mp z]
     exact hh
    ·rcases(mem_append.mp hy)with z | z
     ·exact pw y z
     rw[mem_singleton.mp z]
     exact hw
    rcases(mem_append.mp hy)with z | z
    ·exact pg y z
    rw[mem_singleton.mp z]
    exact gp _
   rintro σ H4 ⟨v8,v9,us,pre,rfl,s4,e4,k4,tr4,ul,pn,po,ph,pw,pg⟩
   rw[length_map]at ul
   rw[length_map,take_length]at pn
   exact hN _ _ ⟨v8,v9,us,pre,rfl,s4,e4,k4,tr4,ul,pn,po,ph,pw,pg⟩
  intro N hN
  refine⟨_,rfl,_,rfl,a,ns,_,_,_,rfl,s1.seq hS,hn,by lia,by lia,by decide,by decide,λrr r0 r3=>?_⟩
  refine⟨rfl,_,rfl,?_⟩
  refine ite2 (λ_=>?_) (λ_=>?_)
  ·refine⟨_,rfl,l,_,rfl,SqL.of e1,λp hp=>?_⟩
   refine hN _ _ ⟨p,zs.reverse,rfl,s1.trans (Same.new hp),by rw[Zad,List.map_reverse],List.pairwise_reverse.mpr (an.1.imp λh=>h.symm),λz=>by rw[List.mem_reverse];exact an.2 z⟩
  exact hN _ _ ⟨l,zs,rfl,s1,e1,an⟩
 intro N hN
 refine⟨_,rfl,s,rfl,Ze3 hs m2,λwl1 H1 s1 hwl e1=>⟨wl1,rfl,⟨_,SqL.of e1⟩,λD hD=>?_⟩⟩
 have hl1:((wl s).map V.int).length=(wl s).length:=length_map ..
 refine lcJ (n:=(wl s).length) (λi ys H2=>ys=(((wl s).take i).map (txW lo)).map V.str/\Same H1 H2/\H2 D=some (.lst ys))
  ⟨by rw[take_zero];rfl,Same.new hD,Zad⟩ (λi ys H2 hi ⟨_,z,_⟩=>⟨_,((wl s).map V.int)[i]'(by lia),SqL.of (z _ _ e1),getElem?_eq_getElem (by lia)⟩) (λys H2 hh0=>by obtain⟨_,z,_⟩:=hh0;exact⟨_,SqL.of (z _ _ e1),by lia⟩) ?_ ?_
 ·rintro i ys H2 v H3 hi ⟨rfl,s2,e2⟩ ⟨rfl,hy⟩
  have hv:=hy _ (SqL.of (s2 _ _ e1))
  rw[getElem?_map]at hv
  obtain⟨wv,hw,rfl⟩:=map_eq_some_iff.mp hv
  obtain⟨hi',ew⟩:=List.getElem?_eq_some_iff.mp hw
  have htk:(wl s).take (i+1)=(wl s).take i++[wv]:=by rw[take_succ_eq_append_getElem hi',ew]
  have hm:=mem_of_getElem? hw
  obtain⟨w0,w1⟩:=Zft hs hm
  have hx:=(Zng gr hlo hs bad hm).1
  obtain⟨j,rfl⟩:∃j:Nat,(j:Int)=wv:=⟨wv.toNat,toNat_of_nonneg w0⟩
  rw[toNat_natCast]at hx
  have hat:atI (lo.tab.map oS) (j:Int)=some (.str (txW lo (j:Int))):=Zal (by rw[getElem?_map,hx];rfl)
  refine Zbu ?_
  refine⟨_,rfl,st,_,_,_,rfl,rfl,SqT.of (s2 _ _ (s1 _ _ hst)),a2 _ _ _,_,rfl,tb,_,_,_,rfl,rfl,SqL.of (s2 _ _ (s1 _ _ htb)),hat,?_⟩
  refine⟨_,e2,by rw[length_map,length_map,length_take];lia,?_,s2.put hD,Zad⟩
  rw[htk,map_append,map_append]
  rfl
 rintro ys H2 ⟨rfl,s2,e2⟩
 rw[take_length]at e2
 obtain⟨ds,ed,nd,me,ld⟩:=dd_strs ((wl s).map (txW lo))
 have ek:((wl s).map (txW lo)).map V.str=(((wl s).map (txW lo)).map (Sum.inr:Str->Key)).map kV:=by rw[map_map,map_map,map_map];rfl
 refine⟨D,((wl s).map (txW lo)).map Sum.inr,rfl,SqL.of (by rw[<- ek];exact e2),by rw[length_map,length_map];lia,λsa hsa=>?_⟩
 rw[ed]
 have an:=ans_of gr hlo hs bad nd me
 have d3:=(an.le gr hlo).1
 have s3:Same H2 (upd H2 sa (setG P w sa (ds.map Sum.inr))):=Same.new hsa
 refine⟨sa,ds,rfl,Zad,nd,by lia,λl2 zs hl2 pm so=>?_⟩
 have s4:Same H2 (upd (upd H2 sa (setG P w sa (ds.map Sum.inr))) l2 (.lst (zs.map V.str))):=Same.put (H':=upd H2 sa (setG P w sa (ds.map Sum.inr))) (o:=.lst (zs.map V.str)) s3 (s3.free hl2)
 exact hN _ _ ⟨l2,zs,rfl,(s1.trans s2).trans s4,Zad,pm.nodup_iff.mpr nd,λz=>by rw[pm.mem_iff];exact an.2 z⟩
theorem Zk5 {f f1 f3 f5 f6:Addr}{fd d1 d3 d5 d6:FuncData}(F:Fun K "_law_grown" "_law_grown" Zd1 f fd)(T:Bl mg)(D_l_grown:Df K mg "_law_grown" Zd1 Zd6 f fd)(GW:∀n:Nat,FnOk P w K mg base CX0 (4+2*n) f fd Zd6 (spGrown K n)->FnOk P w K mg base CX0 (4+2*n+1) f1 d1 Zcx (spGways K n))(D_l_gways:Df K mg "_law_grown_ways" Zb6 Zcx f1 d1)
  (D_l_deep:Df K mg "_law_deep" Ziu Zi0 f3 d3)(G_l_deep:FnOk P w K mg base CX0 2 f3 d3 Zi0 (spDraw K))     (D_l_can:Df K mg "_law_can" Zni Znn f5 d5)(G_l_can:FnOk P w K mg base CX0 2 f5 d5 Znn spLCan)(D_l_behind:Df K mg "_law_behind" Zdg Zcf f6 d6)(G_l_behind:FnOk P w K mg base CX0 2 f6 d6 Zcf spBehindL){f7:Addr}{d7:FuncData}(D_l_table:Df K mg "_law_table" Zd0 Zd5 f7 d7)(G_l_table:FnOk P w K mg base CX0 1 f7 d7 Zd5 spTable):∀n:Nat,FnOk P w K mg base CX0 (4+2*n) f fd Zd6 (spGrown K n)
 | 0=>Zid λvs H Q E h=>by
  obtain⟨a,ns,k,d,dt,m,e,as,s,_,_,_,_,h0,_⟩:=h
  exact absurd h0 (Nat.not_lt_zero _)
 | n+1=>by
  have G_l_grown:=Zk5 F T D_l_grown GW D_l_gways D_l_deep G_l_deep D_l_can G_l_can D_l_behind G_l_behind D_l_table G_l_table n
  have D_l_grown_ways:=D_l_gways
  have G_l_grown_ways:=GW n G_l_grown
  refine F.ok (k:=4+2*n+1) scLGrown (λvs H Q E h=>?_) (λcdv A outer s0 H vs Q E hrW h=>?_)
  ·obtain⟨a,ns,k,d,dt,m,e,as,s,rfl,_⟩:=h
   rfl
  obtain⟨a,ns,k,d,dt,m,e,as,s,rfl,hS,hn,hk,hd,D0,gr,hs,q⟩:=h
  have hr1:Room 1 _:=hrW.mono (by lia)
  have hr2:Room 2 _:=hrW.mono (by lia)
  have hrG:Room (4+2*n) _:=hrW.mono (by lia)
  have hun:=hr1.units
  have hsl:sizeLine=16777216:=sizeLine_eq
  refine⟨_,(Zac (Zlt (i:=5) (N:=["_law_step", "_law_some"]) (sc:=Zaf Zd1) (own:=["_law_step"]) (fr:=["_law_some"]) (js:=[3]) scLGrown.nd rfl rfl Zb4 rfl (Za4 (Zau Zmp (Zas Zat (pv 2) Zae (λ_ _=>rfl)) (Zas Zat (pv 2) Zae (λ_ _=>rfl)))) (λ_ _ _ _=>Za3 (i:=0) (show List.Nodup (["_law_step", "_law_some"]:List Str) by decide +kernel)) (λ_ _ _ _=>Zcv (Zby (Za5 G_l_can hr2 (by rfl) D_l_can.m D_l_can.F.kp D_l_can.b .nil Zak (Zaa (Zas (Zb2 K rfl) (pv 0) Zae (λ_ _=>rfl)) (Zaa (pv 1) Zab))))) (λ_ _ _ _=>(pv 0)))
  (Zac (Za2 (PW.pt (Zgz (Zao Zbt (pv 4) Zae (Zar _)) (Zgz (Zao (Zn6 hun) (pv 5) (Zbs Zab) (Zar _)) (Zej (Zao Zbt (Za5 G_l_deep hr2 (by rfl) D_l_deep.m D_l_deep.F.kp D_l_deep.b .nil Zak (Zaa (pv 0) (Zaa (pv 1) (Zaa Zae (Zaa Zae Zab))))) Zae (Zar _)))))) (Zag (Zam (Zbb (Zaa Za6 Zab)))) Zan)
  (Zac (Zaw (i:=6) scLGrown.nd (Zas Zbj (pv 5) (Za5 G_l_deep hr2 (by rfl) D_l_deep.m D_l_deep.F.kp D_l_deep.b .nil Zak (Zaa (pv 0) (Zaa (pv 1) (Zaa Zae (Zaa (Zap Za8 (by rfl) T.len PySem.boot_len (Zaa (pv 5) Zab)) Zab))))) (λ_ _=>rfl)))
  (Zac (Za2 (Zao Zgn (Za5 G_l_table hr1 (by rfl) D_l_table.m D_l_table.F.kp D_l_table.b .nil Zak (Zaa (Zas Zat (pv 2) Zae (λ_ _=>rfl)) (Zaa (Zas Zat (pv 6) Zae (λ_ _=>rfl)) Zab))) Zbz (Zar _)) (Zac (Zaw (i:=7) scLGrown.nd (Zbb (Zaa Za6 (Zaa (Zas Zat (pv 6) Zae (λ_ _=>rfl)) (Zaa (Zbb (Zaa Za6 Zab)) Zab)))))
  (Zac (Zaw (i:=8) scLGrown.nd (Za5 G_l_behind hr2 (by rfl) D_l_behind.m D_l_behind.F.kp D_l_behind.b .nil Zak (Zaa (pv 2) (Zaa (pv 7) (Zaa (pv 3) Zab)))))
  (Zag (Zam (Zbb (Zaa Za6 (Zaa (Zas Zat (pv 6) Zae (λ_ _=>rfl)) (Zaa (Za5 G_l_grown hrG (by rfl) D_l_grown.m D_l_grown.F.kp D_l_grown.b .nil Zak (Zaa (pv 0) (Zaa (Zau Zbo (Zau Zcg Zae (pv 1)) Zae) (Zaa (pv 2) (Zaa (pv 8) (Zaa (Zau Zhe (pv 4) Zae) Zab)))))) Zab)))))))) Zan)
  (Zag (Zam (Zbb (Zaa Za6 (Zaa (Zas Zat (pv 6) Zae (λ_ _=>rfl)) (Zaa (Za5 G_l_grown_ways hrW (by rfl) D_l_grown_ways.m D_l_grown_ways.F.kp D_l_grown_ways.b .nil Zak (Zaa (pv 0) (Zaa (pv 1) (Zaa (pv 2) (Zaa (pv 6) (Zaa (pv 3) (Zaa (pv 4) Zab))))))) Zab)))))))))),?_⟩
  obtain⟨l1,l2,us,ws,hdt,h1,h2,hds,hls⟩:=D0.ex
  have hk0:=Zlw hk
  have ok:=gr.ok
  have m2:=ok.ch.m2
  have b0:∀u v x y:V,atI [u,v,x,y] ((0:Nat):Int)=some u:=λ_ _ _ _=>Zal rfl
  have b1:∀u v x y:V,atI [u,v,x,y] ((1:Nat):Int)=some v:=λ_ _ _ _=>Zal rfl
  have a0:∀u v z:V,atI [u,v,z] ((0:Nat):Int)=some u:=λ_ _ _=>Zal rfl
  have a2:∀u v z:V,atI [u,v,z] ((2:Nat):Int)=some z:=λ_ _ _=>Zal rfl
  have p4:1<=4^d:=Nat.pow_pos (by decide)
  have ul:=hds.len
  have wl':=hls.len
  have d3:=gr.d3
  have l2':=gr.l2
  have stopQ:∀H':Hp,Same H H'->∀x:Addr,H' x=none->Q (.ref x) (upd H' x (.tup [.str Zdu])):=λH' s' x hx=>q (.ref x) .stop _ (s'.trans (Same.new hx)) ⟨x,rfl,by rw[Zi8 (s'.free hx)];exact Zad⟩ trivial (λ_=>⟨Zfy gr.k hs,Zfy gr.g hs⟩) (Nat.le_add_left ..) (by show 1+2<=_;lia)
  refine Zdw (λσ H1=>∃(l:Addr) (ss:List V),σ = [some (.ref a),some (.int (k:Int)),some (.ref dt),some (.int (s:Int)),some (.int (d:Int)),some (.ref l),none,none,none]/\Same H H1/\H1 l=some (.lst ss)/\(∀v∈ss,Zlp H e s v)/\ss.length<=5) ?_ ?_
  ·rintro σ H1 ⟨l,ss,rfl,s1,e1,hss,sl⟩
   refine⟨_,rfl,rfl,_,rfl,?_⟩
   refine ite2 (λ_=>?_) (λhd0=>?_)
   ·refine iteT ?_
    exact⟨by show 1<=sizeLine;lia,stopQ H1 s1⟩
   refine⟨_,rfl,by show 0<=sizeLine;lia,λl0 hl0=>?_⟩
   obtain⟨H2,g0,s12,el0⟩:=gen1 (H:=H1) (o:=.lst []) hl0
   rw[g0]
   have e2:=s12 _ _ e1
   have s02:=s1.trans s12
   refine⟨l,l0,ss,rfl,rfl,e2,el0,_,rfl,?_⟩
   refine ite2 (λ_=>?_) (λhse=>?_)
   ·refine iteT ?_
    exact⟨by show 1<=sizeLine;lia,stopQ H2 s02⟩
   refine⟨_,rfl,_,rfl,a,ns,_,_,_,rfl,s02.seq hS,hn,by lia,by lia,by decide,by decide,λrr r0 r6=>?_⟩
   refine⟨rfl,_,rfl,?_⟩
   refine ite2 (λ_=>?_) (λ_=>?_)
   ·exact⟨by show 1<=sizeLine;lia,stopQ H2 s02⟩
   dsimp only[tNext]
   obtain⟨d',rfl⟩:∃d',d=d'+1:=by
    cases d with
    | zero=>exact absurd (decide_eq_true rfl) hd0
    | succ d'=>exact⟨d',rfl⟩
   have sp:0<ss.length:=by
    cases ss with
    | nil=>exact absurd rfl hse
    | cons _ _=>exact Nat.succ_pos _
   refine⟨_,rfl,_,rfl,_,rfl,_,rfl,_,_,rfl,.inl ⟨_,SqL.of e2,rfl⟩,a,ns,_,_,_,rfl,s02.seq hS,hn,by lia,by lia,by decide,by lia,λjj j0 jl=>?_⟩
   obtain⟨j,rfl⟩:∃j:Nat,(j:Int)=jj:=⟨jj.toNat,toNat_of_nonneg j0⟩
   have hj:j<ss.length:=by lia
   have hv:ss[j]? = some ss[j]:=getElem?_eq_getElem hj
   have hsi:=hss _ (getElem_mem hj)
   generalize ss[j]=v at hv hsi
   refine⟨l,_,_,_,rfl,rfl,SqL.of e2,Zal hv,?_⟩
   obtain⟨tbd,stld,tbsd⟩:=Zig hds
   have ndd:=(nodup_append.mp ok.ch.nd)
   have stl2:StL H2 us (e.ds.map Dee.name) tbd:=⟨stld.len,λi v n h h'=>(stld.got i v n h h').imp λp z=>z.same s02⟩
   have p5:4^(d'+1)=4^d'*4:=Nat.pow_succ ..
   rcases hsi with⟨de,hde,r,can⟩ | ⟨lo,hlo,r,can⟩
   ·obtain⟨tb,es,⟨o,rfl,ho⟩,htb,hes⟩:=r
    obtain⟨jd,hjd⟩:=getElem?_of_mem hde
    refine⟨_,rfl,dt,_,_,_,rfl,rfl,SqT.of (s02 _ _ hdt),b0 _ _ _ _,_,rfl,o,_,_,_,rfl,rfl,SqT.of (s02 _ _ ho),a0 _ _ _,l1,us,de.name,e.ds.map Dee.name,tbd,rfl,s02 _ _ h1,stl2,.inr ⟨jd,by rw[getElem?_map,hjd];rfl,ndd.1,?_⟩⟩
    refine⟨rfl,_,rfl,?_⟩
    refine iteT ?_
    refine⟨_,rfl,o,_,_,_,rfl,rfl,SqT.of (s02 _ _ ho),a0 _ _ _,by show 1<=sizeLine;lia,λt1 ht1=>?_⟩
    have s23:Same H2 (upd H2 t1 (.tup [.str (Str.ofString "stop")])):=Same.new ht1
    generalize (upd H2 t1 (.tup [.str (Str.ofString "stop")]))=H3 at s23 ⊢
    refine⟨by show 3<=sizeLine;lia,λt2 ht2=>?_⟩
    obtain⟨H4,g0,s34,e4⟩:=gen1 (H:=H3) (o:=.tup [.str (Str.ofString "do"),.str de.name,.ref t1]) ht2
    rw[g0]
    have s04:=(s02.trans s23).trans s34
    refine⟨_,rfl,_,rfl,_,rfl,dt,t2,m,e,as,_,_,de,s,rfl,D0.same s04,ok,hs,e4,hde,λH5 s45=>?_⟩
    have s05:=s04.trans s45
    have lt3:Zg0 (.did de) s<2^m:=Zeq (ls:=e.ls) ok.ch.m2 ok.ch.de (.did de hde) hs
    refine⟨_,rfl,o,_,_,_,rfl,rfl,SqT.of (s05 _ _ ho),a0 _ _ _,_,rfl,_,rfl,_,_,rfl,rfl,.inl ⟨by decide,by decide⟩,_,_,rfl,rfl,_,rfl,_,rfl,_,rfl,_,_,rfl,rfl,?_⟩
    refine⟨a,ns,3*k+1+0,d',dt,m,e,as,Zg0 (.did de) s,?_,s05.seq hS,hn,Znv (by decide) hk,by lia,D0.same s05,gr,lt3,λv p H6 s56 tr okp gp hh hw=>?_⟩
    ·rw[show(((d'+1:Nat):Int)-1)=(d':Int) by lia,show(3:Int)*(k:Int)+1=((3*k+1+0:Nat):Int) by lia]
     rfl
    refine⟨by show 3<=sizeLine;lia,λx hx=>?_⟩
    have s06:=s05.trans s56
    refine q (.ref x) (.dd de.name p) _ (s06.trans (Same.new hx)) ⟨x,v,rfl,?_,tr.same (Zec (λc z=>s05.free z) λc u _ e=>Same.new hx _ _ e)⟩ ⟨gr.dl de hde,okp⟩ (λl=>⟨⟨Zfy gr.k hs,de,hde,rfl,can⟩,by rw[Zg6 ok hde];exact gp _⟩) (Nat.succ_le_succ hh) (by show wtP p+1+2<=_;lia)
    rw[Zi8 (s06.free hx)]
    exact Zad
   obtain⟨tb,⟨o,rfl,ho⟩,htb⟩:=r
   refine⟨_,rfl,dt,_,_,_,rfl,rfl,SqT.of (s02 _ _ hdt),b0 _ _ _ _,_,rfl,o,_,_,_,rfl,rfl,SqT.of (s02 _ _ ho),a0 _ _ _,l1,us,lo.name,e.ds.map Dee.name,tbd,rfl,s02 _ _ h1,stl2,.inl ⟨λz=>ndd.2.2 _ z _ (mem_map.mpr ⟨lo,hlo,rfl⟩) rfl,?_⟩⟩
   refine⟨rfl,_,rfl,?_⟩
   refine iteF ?_
   dsimp only[tNext]
   refine⟨_,rfl,o,_,_,_,rfl,rfl,SqT.of (s02 _ _ ho),a0 _ _ _,_,rfl,_,rfl,_,rfl,_,rfl,_,rfl,_,rfl,a,ns,k,d',dt,m,e,as,s,o,tb,lo,rfl,s02.seq hS,hn,hk,by lia,D0.same s02,gr,hs,hlo,s02 _ _ ho,s02 _ _ htb,can,λr us' ws' H3 s23 hr er tr okw wn wnd w4 kd gw hh hw=>?_⟩
   refine⟨by show 3<=sizeLine;lia,λx hx=>?_⟩
   have s03:=s02.trans s23
   exact q (.ref x) (.lk lo.name ws') _ (s03.trans (Same.new hx)) ⟨x,r,us',rfl,by rw[Zi8 (s03.free hx)];exact Zad,by rw[Zi8 (s02.free hr)];exact Same.new hx _ _ er,tr.same (Zec (λc z=>s02.free z) λc u _ e=>Same.new hx _ _ e)⟩ ⟨gr.ll lo hlo,wn,⟨wnd,by lia⟩,okw⟩ (λl=>⟨⟨Zfy gr.k hs,lo,hlo,rfl,can,kd⟩,gw⟩) (Nat.succ_le_succ hh) (by show wtP ws'+1+2<=_;lia)
  intro N hN
  refine⟨_,rfl,dt,_,_,_,rfl,rfl,SqT.of hdt,b0 _ _ _ _,_,rfl,dt,_,_,_,rfl,rfl,SqT.of hdt,b1 _ _ _ _,l1,l2,us,ws,rfl,rfl,h1,h2,by lia,λl hl=>?_⟩
  obtain⟨H1,g0,s1,e1⟩:=gen1 (H:=H) (o:=.lst (us++ws)) hl
  rw[g0]
  refine⟨l,rfl,⟨_,SqL.of e1⟩,λD hD=>?_⟩
  have ll:=length_append (as:=us) (bs:=ws)
  refine lcJ (n:=(us++ws).length) (λi ys H2=>Same H1 H2/\H2 D=some (.lst ys)/\(∀v∈ys,Zlp H e s v)/\ys.length<=i)
   ⟨Same.new hD,Zad,λ_ h=>(nomatch h),Nat.le_refl _⟩ (λi ys H2 hi ⟨z,_⟩=>⟨_,(us++ws)[i],SqL.of (z _ _ e1),getElem?_eq_getElem hi⟩) (λys H2 hh0=>by obtain⟨z,_⟩:=hh0;exact⟨_,SqL.of (z _ _ e1),Nat.le_refl _⟩) ?_ ?_
  ·rintro i ys H2 v H3 hi ⟨s2,e2,hys,yl⟩ ⟨rfl,hy⟩
   have hv:=hy _ (SqL.of (s2 _ _ e1))
   have s02:=s1.trans s2
   have step:∀H4:Hp,Same H3 H4->Zlp H e s v->∃zs,H4 D=some (.lst zs)/\zs.length<sizeLine/\(Same H1 (upd H4 D (.lst (zs++[v])))/\(upd H4 D (.lst (zs++[v]))) D=some (.lst (zs++[v]))/\(∀u∈zs++[v],Zlp H e s u)/\(zs++[v]).length<=i+1):=λH4 s4 si=>
    ⟨ys,s4 _ _ e2,by lia,(s2.trans s4).put hD,Zad,λu hu=>by
     rcases(mem_append.mp hu)with z | z
     ·exact hys u z
     rw[mem_singleton.mp z]
     exact si,by rw[length_append];exact Nat.succ_le_succ yl⟩
   by_cases hiu:i<us.length
   ·rw[getElem?_append_left hiu]at hv
    obtain⟨de,_,hde,r⟩:=hds.at hv
    have r':=r
    obtain⟨tb,es,⟨o,rfl,ho⟩,htb,hes⟩:=r
    have dok:=ok.ch.de de hde
    refine⟨_,rfl,o,_,_,_,rfl,rfl,SqT.of (s02 _ _ ho),a2 _ _ _,_,rfl,tb,s,m,es,(λi=>decide (de.tab[i]? = some [])),rfl,s02 _ _ htb,hes.len.trans dok.len,m2,hs,λi v hv=>?_,λH4 s4=>⟨_,rfl,?_⟩⟩
    ·obtain⟨en,hen,_,b,rfl,hb⟩:=hes.at hv
     refine .lst b en rfl (s02 _ _ hb) ?_
     rw[hen,Bool.eq_iff_iff,decide_eq_true_eq,decide_eq_true_eq,Option.some.injEq]
    by_cases can:bdD de s=[]
    ·refine ite2 (λ_=>?_) (λz=>absurd (decide_eq_true can) z)
     exact⟨_,rfl,step H4 s4 (.inl ⟨de,hde,r',can⟩)⟩
    refine ite2 (λz=>absurd (of_decide_eq_true z) can) (λ_=>?_)
    exact⟨s2.trans s4,s4 _ _ e2,hys,by lia⟩
   rw[getElem?_append_right (by lia)]at hv
   obtain⟨lo,_,hlo,r⟩:=hls.at hv
   have r':=r
   obtain⟨tb,⟨o,rfl,ho⟩,htb⟩:=r
   have ll2:=ok.ch.lo lo hlo
   refine⟨_,rfl,o,_,_,_,rfl,rfl,SqT.of (s02 _ _ ho),a2 _ _ _,_,rfl,tb,s,m,lo.tab.map oS,(λi=>decide (lo.tab[i]? = some none)),rfl,s02 _ _ htb,by rw[length_map];exact ll2,m2,hs,λi v hv=>?_,λH4 s4=>⟨_,rfl,?_⟩⟩
   ·rw[getElem?_map]at hv
    obtain⟨x,hx,rfl⟩:=map_eq_some_iff.mp hv
    refine .opt x rfl (λz hz=>gr.so z (ok.ch.an lo hlo z (by rw[<- hz];exact mem_of_getElem? hx))) ?_
    rw[hx,Bool.eq_iff_iff,decide_eq_true_eq,decide_eq_true_eq,Option.some.injEq]
   by_cases can:bdL lo s=[]
   ·refine ite2 (λ_=>?_) (λz=>absurd (decide_eq_true can) z)
    exact⟨_,rfl,step H4 s4 (.inr ⟨lo,hlo,r',can⟩)⟩
   refine ite2 (λz=>absurd (of_decide_eq_true z) can) (λ_=>?_)
   exact⟨s2.trans s4,s4 _ _ e2,hys,by lia⟩
  rintro ys H2 ⟨s2,e2,hys,yl⟩
  exact hN _ _ ⟨D,ys,rfl,s1.trans s2,e2,hys,by lia⟩
theorem op_notB {X:Cx}:OpR X (compareOp .IsNot) (λx y H Q=>∃b c:Bool,x=.bl b/\y=.bl c/\Q (.bl (!decide (b=c))) H):=by
 intro pins s σ H x y v u Q I rx ry h
 obtain⟨b,c,rfl,rfl,q⟩:=h
 cases rx
 cases ry
 have key:∀b c:Bool,compareOp .IsNot (.bool b) (.bool c)=pure (.bool (!decide (b=c))):=by
  intro b c
  cases b <;> cases c <;> rfl
 rw[key]
 exact wpAny_pure ⟨.bl _,H,I,rfl,q⟩
theorem no_as (ns:List Int)(c:Nat):wdS ns 3 c≠tNo:=λz=>by
 have h:(wdS ns 3 c).length=13:=by rw[z];decide +kernel
 have h':(wdS ns 3 c).length=(wz ns 3).toNat:=by unfold wdS;rw[Zhf,Zjs]
 have h1:=Znq ns 3 10007 (m:=6) (by decide)
 have h2:=Znr ns 3 10007 (m:=6) (by decide)
 unfold wz at h'
 split at h' <;> lia
theorem gro_of {H:Hp}{ns:List Int}{l1 l2:Addr}{m:Nat}{us ws:List V}{ds:List Dee}{ls:List Loo}(lx:Lx H l1 l2 us ws ds ls m)(ok:ChOk m ds ls (pqrL.map (wdS ns 3)))(m7:m<=7):Gro m ⟨ds,ls,2^m-1,2^m-1⟩ (pqrL.map (wdS ns 3)):=by
 have p:=two_pow_pos m
 have lb:∀x∈pqrL.map (wdS ns 3),Lb x:=λx hx=>by
  obtain⟨c,hc,rfl⟩:=mem_map.mp hx
  exact Zg2 ns 3 (Zn3 c hc)
 refine⟨⟨ok,by show 2^m-1<2^m;lia,by show 2^m-1<2^m;lia,m7,λd hd=>Lb.rp (lx.db d hd),λl hl=>Lb.rp (lx.lb l hl)⟩,rfl,rfl,lb,λx hx=>(lb x hx).sm.ok,λz=>?_,lx.db,lx.lb,lx.c1,lx.c2⟩
 obtain⟨c,_,e⟩:=mem_map.mp z
 exact no_as ns c e
inductive spErInitN (CE CC:Addr)(vs:List V)(H:Hp)(Q:VK)(E0_:XK):Prop
 | mk (y dy c:Addr) (g m:Nat) (ds:List Dee) (ls:List Loo) (H0:Hp) (c0:vs=[.ref y,.ref c,.int (g:Int),.non]) (c1:H y=some (.ins CE dy [])) (c2:H0 y=none) (c3:Same H0 H) (c4:ChAt CC H0 c m ds ls) (c5:m<=200) (c6:∀H':Hp,(∀a u,H a=some u->a≠y->H' a=some u)->H' y=some (.ins CE dy (e3 c g (2^m-1)))->Q .non H'):spErInitN CE CC vs H Q E0_
inductive spErr39 (K:W.Frag)(CE CC:Addr)(vs:List V)(H:Hp)(Q:VK)(E0_:XK):Prop
 | mk (a cx:Addr) (ns:List Int) (m:Nat) (ds:List Dee) (ls:List Loo) (g k:Nat) (c0:vs=[.ref a,.ref cx,.int (m:Int),.int (g:Int),.int (k:Int)]) (c1:SqL K H a (ns.map V.int)) (c2:ns.length<=63) (c3:ChAt CC H cx m ds ls) (c4:1<=m) (c5:m<=200) (c6:k<2^m) (c7:∀(t ex:Addr) (k':Nat) (H':Hp),Same H H'->H' t=some (.tup [.ref ex,.int (g:Int),.int (k':Int)])->ErAt CE CC H' ex m ⟨ds,ls,g,k'⟩->Sb k k'->k'<2^m->Q (.ref t) H'):spErr39 K CE CC vs H Q E0_
inductive spIsErr (CE CC:Addr)(vs:List V)(H:Hp)(Q:VK)(E0_:XK):Prop
 | mk (t ex:Addr) (m:Nat) (e:Ed) (c0:vs=[.ref t,.int (m:Int)]) (c1:H t=some (.tup [.ref ex,.int (e.g:Int),.int (e.k:Int)])) (c2:ErAt CE CC H ex m e) (c3:Q (.bl true) H):spIsErr CE CC vs H Q E0_
inductive spSets39 (vs:List V)(H:Hp)(Q:VK)(E0_:XK):Prop
 | mk (r r2:Addr) (xs:List Nat) (c0:vs=[.ref r,.ref r2]) (c1:H r=some (.lst (nV xs))) (c2:H r2=some (.lst (nV xs))) (c3:xs.length<=1000) (c4:Q (.bl true) H):spSets39  vs H Q E0_
theorem Znb (m:Nat):bt ((List.range m).map λi:Nat=>(i:Int))=2^m-1:=by
 refine eq_of_testBit_eq λi=>?_
 rw[Zcp,Nat.testBit_two_pow_sub_one,Bool.eq_iff_iff,any_eq_true,decide_eq_true_eq]
 constructor
 ·rintro⟨w,hw,e⟩
  obtain⟨j,hj,rfl⟩:=mem_map.mp hw
  have:=mem_range.mp hj
  simp at e
  lia
 intro h
 exact⟨(i:Int),mem_map.mpr ⟨i,mem_range.mpr h,rfl⟩,by simp⟩
theorem Zl2 (ds:List Dee)(ls:List Loo)(g k g' k':Nat):∀(t:Pn) (l:Str) (s:Nat),rwS ⟨ds,ls,g,k⟩ t l s=rwS ⟨ds,ls,g',k'⟩ t l s
 | .stop,_,_=>rfl
 | .dd d r,_,s=>congrArg (s::·) (Zl2 ds ls g k g' k' r d _)
 | .lk l ws,_,s=>congrArg (s::·) (Zl2 ds ls g k g' k' ws l s)
 | .nil,_,_=>rfl
 | .way a p r,l,s=>by
  show rwS _ p l (Zbd _ l a s)++rwS _ r l s=rwS _ p l (Zbd _ l a s)++rwS _ r l s
  rw[Zl2 ds ls g k g' k' p,Zl2 ds ls g k g' k' r]
  rfl
abbrev Zh4:List Str:=["_law_script", "_law_chart", "_law_many_here", "_law_goal", "_law_keep"]
abbrev nLErrand:List Str:=["_law_script", "_law_chart", "_law_many_here", "_law_goal", "_law_keep"]
theorem scLErrand:FnScope nLErrand Zh4 (Zaf Zfq):=Zav
abbrev Zey:List Str:=["_law_told_here", "_law_many_here"]
abbrev nLIsErrand:List Str:=["_law_told_here", "_law_many_here", "_law_errand_here"]
theorem scLIsErrand:FnScope nLIsErrand Zey (Zaf Zdf):=Zav
abbrev Zmi:List Str:=["_law_told_here", "_law_rows"]
abbrev nLSets:List Str:=["_law_told_here", "_law_rows", "_law_k"]
theorem scLSets:FnScope nLSets Zmi (Zaf Zkl):=Zav
theorem ok_size {f C:Addr}{fd:FuncData}(F:Fun K "size" "Chart.size" Zon f fd)(L:Cl K C):FnOk P w K mg base CX0 1 f fd Znk (spSizeC C):=by
 refine F.oq scSize λcdv A outer s H vs Q E hr h=>?_
 obtain⟨x,m,ds,ls,rfl,R,q⟩:=h
 obtain⟨dx,p,o,a,q',d,kp,ko,ka,kq,kd,o1,o2,h1,h2,h3,h4,h5,h6,k1,k2,k3,k4,k5⟩:=R.ex
 refine⟨_,(Zag (Zam (Zbm (pv 0) rfl))),?_⟩
 exact⟨_,rfl,x,C,dx,_,_,rfl,h1,L.cl,L.n1,f6_many,q⟩
theorem ok_erinitN {f CE CC TD f2:Addr}{fd d2:FuncData}(F:FunD K "__init__" "Errand.__init__" Zbp f fd TD)(L:Cl K CC)(LE:ClE K CE)(T:Bl mg)(C_set_of:Ca P w K mg base CX0 1 "set_of" Zf0 Zhd (spSetOf K))(b_size:Binds K d2 ["self"] [])(m_size:Meth K CC "size" f2)(G_size:FnOk P w K mg base CX0 1 f2 d2 Znk (spSizeC CC)):FnOk P w K mg base CX0 2 f fd Zce (spErInitN CE CC):=by
 refine F.ok Zfb (λvs H Q E h=>?_) (λcdv A outer s H vs Q E hr1 h=>?_)
 ·obtain⟨y,dy,c,g,m,ds,ls,H0,rfl,_⟩:=h
  rfl
 obtain⟨y,dy,c,g,m,ds,ls,H0,rfl,hy,h0,sH,ch,m2,q⟩:=h
 refine⟨_,(Zac (Zb3 (pv 0) (pv 1) rfl)
  (Zac (Zb3 (pv 0) (pv 2) rfl)
  (Zag (Zb3 (pv 0) (Zfr (Zao Zi3 (pv 3) Zbz (Zar _)) (Zaq C_set_of hr1 Zak (Zaa (pe_lrng rfl (by rfl) T.list Zbx (by rfl) T.range (Zaa (Zbl (pv 1) L.cl m_size G_size hr1 b_size .nil Zak) Zab)) Zab)) (pv 3)) rfl)))),?_⟩
 refine⟨_,rfl,_,rfl,y,CE,dy,_,rfl,hy,LE.cl,LE.n1,by show 0<1000;decide,?_⟩
 refine⟨_,rfl,_,rfl,y,CE,dy,_,rfl,Zad,LE.cl,LE.n2,by show 1<1000;decide,?_⟩
 refine⟨_,rfl,rfl,_,rfl,?_⟩
 refine iteT ?_
 have ky:∀a u,H a=some u->a≠y->(upd (upd H y (.ins CE dy (putF "told_chart" (.ref c) []))) y (.ins CE dy (putF "told_goal" (.int (g:Int)) (putF "told_chart" (.ref c) [])))) a=some u:=λa u z n=>by rw[Zaj n,Zaj n];exact z
 have ey:(upd (upd H y (.ins CE dy (putF "told_chart" (.ref c) []))) y (.ins CE dy (putF "told_goal" (.int (g:Int)) (putF "told_chart" (.ref c) [])))) y=some (.ins CE dy (e2 c g)):=Zad
 generalize (upd (upd H y (.ins CE dy (putF "told_chart" (.ref c) []))) y (.ins CE dy (putF "told_goal" (.int (g:Int)) (putF "told_chart" (.ref c) []))))=H2 at ky ey ⊢
 have s2:Same H0 H2:=λa u z=>ky a u (sH _ _ z) (Zah z h0)
 have ch2:=ch.same s2
 obtain⟨cdx,p',o',a',q',d',kp',ko,ka,kq,kd,o1,o2,hc1,_⟩:=ch2.ex
 refine⟨_,rfl,c,cdx,_,rfl,hc1,Ze8 (by decide +kernel),c,m,ds,ls,rfl,ch2,m,rfl,by lia,λp hp=>?_⟩
 have py:p≠y:=λz=>by rw[z,ey]at hp;cases hp
 refine⟨p,_,rfl,SqL.of Zad,λn hn=>?_,?_⟩
 ·obtain⟨j,hj,rfl⟩:=mem_map.mp hn
  have:=mem_range.mp hj
  lia
 rw[Znb]
 refine⟨_,rfl,y,CE,dy,_,rfl,(Zaj py.symm).trans ey,LE.cl,LE.n3,by show 2<1000;decide,?_⟩
 exact q _ (λa u e n=>by rw[Zaj n,Zaj λz=>by rw[z]at e n;rw[ky p u e n]at hp;cases hp];exact ky a u e n) Zad
theorem ok_errand39 {f CE CC fE:Addr}{fd dE:FuncData}(F:Fun K "_law_errand" "_law_errand" Zfq f fd)(ME:L2.Mk K CE fE)(mE:mg "Errand" = some (.ref CE))(bE:Binds K dE ["self", "chart", "goal", "keep"] [])(GE:FnOk P w K mg base CX0 2 fE dE Zce (spErInit CE))(bN:Binds K dE ["self", "chart", "goal", "keep"] [.none])(GN:FnOk P w K mg base CX0 2 fE dE Zce (spErInitN CE CC))
  (C_l_draw:Ca P w K mg base CX0 2 "_law_draw" Zck Zcd (spDraw K))(C_l_set:Ca P w K mg base CX0 3 "_law_set" Zls Znm (spSetD K)):FnOk P w K mg base CX0 4 f fd Zh4 (spErr39 K CE CC):=by
 refine F.oq scLErrand λcdv A outer s H vs Q E hr3 h=>?_
 obtain⟨a,cx,ns,m,ds,ls,g,k,rfl,hS,hn,ch,m1,m2,hk,q⟩:=h
 have hr2:Room 2 _:=hr3.mono (by decide)
 have hsl:sizeLine=16777216:=sizeLine_eq
 have hfar:(1:Int)*2^((m:Int)).toNat-1=((2^m-1:Nat):Int):=by
  have p:=two_pow_pos m
  rw[toNat_natCast,one_mul,Int.ofNat_sub (by lia)]
  push_cast
  rfl
 have far:2^m-1<2^m:=by
  have p:=two_pow_pos m
  lia
 refine⟨_,(Zac (Za2 (Zao Zbt (Zaq C_l_draw hr2 Zak (Zaa (pv 0) (Zaa Zae (Zaa Zae (Zaa Zae Zab))))) Zae (Zar _)) (Zag (Zam (Zbb (Zaa (Zgd ME GN hr3 (by rfl) mE bN (show Vals [.non] [.none] from .cons rfl .nil) Zak (Zaa (pv 1) (Zaa (pv 3) Zab))) (Zaa (pv 3) (Zaa (Zau Zhe (Zau Zff Zae (pv 2)) Zae) Zab)))))) Zan)
  (Zac (Zaw (i:=4) scLErrand.nd (Zau Zh7 (pv 4) (Zaq C_l_set hr3 Zak (Zaa (pv 0) (Zaa Zae (Zaa (pv 2) Zab))))))
  (Zag (Zam (Zbb (Zaa (Zgd ME GE hr3 (by rfl) mE bE .nil Zak (Zaa (pv 1) (Zaa (pv 3) (Zaa (pv 4) Zab)))) (Zaa (pv 3) (Zaa (pv 4) Zab)))))))),?_⟩
 refine⟨_,rfl,a,ns,_,_,_,rfl,hS,hn,by decide,by decide,by decide,by decide,λdz d0 d3=>?_⟩
 refine⟨rfl,_,rfl,?_⟩
 refine ite2 (λ_=>?_) (λ_=>?_)
 ·refine⟨_,rfl,_,rfl,?_⟩
  intro ex dy hex hdy dyn
  obtain⟨HF,g0,sF,eF⟩:=gen2 (C:=CE) hex hdy dyn
  rw[g0]
  refine⟨ex,dy,cx,g,m,ds,ls,H,rfl,eF,hex,sF,ch,m2,λHG kG exG=>⟨rfl,?_⟩⟩
  have sG:Same H HG:=λc u z=>kG c u (sF _ _ z) (λz'=>by rw[z',hex]at z;cases z)
  refine⟨_,rfl,_,rfl,_,_,rfl,rfl,⟨by lia,by lia,by decide⟩,_,_,rfl,rfl,?_⟩
  rw[hfar]
  refine⟨by show 3<=sizeLine;lia,λt ht=>?_⟩
  exact q t ex (2^m-1) _ (sG.trans (Same.new ht)) Zad ⟨dy,cx,Same.new ht _ _ exG,ch.same (sG.trans (Same.new ht))⟩ (Zfy rfl hk) far
 dsimp only[tNext]
 refine⟨_,rfl,_,rfl,_,rfl,a,ns,_,m,rfl,hS,hn,by decide,by decide,m1,m2,λx1 H1 s1 hx1=>?_⟩
 refine⟨_,_,rfl,rfl,?_⟩
 rw[Zda]
 refine⟨_,rfl,_,rfl,_,rfl,?_⟩
 intro ex dy hex hdy dyn
 obtain⟨HF,g0,sF,eF⟩:=gen2 (C:=CE) hex hdy dyn
 rw[g0]
 refine⟨ex,dy,cx,_,_,rfl,eF,λHG kG exG=>⟨rfl,?_⟩⟩
 have sG:Same H1 HG:=λc u z=>kG c u (sF _ _ z) (λz'=>by rw[z',hex]at z;cases z)
 refine⟨_,rfl,_,rfl,by show 3<=sizeLine;lia,λt ht=>?_⟩
 exact q t ex _ _ ((s1.trans sG).trans (Same.new ht)) Zad ⟨dy,cx,Same.new ht _ _ exG,ch.same ((s1.trans sG).trans (Same.new ht))⟩ or_sbl (Nat.or_lt_two_pow hk hx1)
theorem ok_iserr {f CE CC f2 f3 f4 f5:Addr}{fd d2 d3 d4 d5:FuncData}(F:Fun K "_law_is_errand" "_law_is_errand" Zdf f fd)(L:Cl K CC)(LE:ClE K CE)(C_l_whole:Ca P w K mg base CX0 1 "_law_whole" Zf2 Zh2 spWhole)
  (b_chart:Binds K d2 ["self"] [])(m_chart:Meth K CE "chart" f2)(G_chart:FnOk P w K mg base CX0 1 f2 d2 Zb0 (spErChart CE CC))(b_keep:Binds K d3 ["self"] [])(m_keep:Meth K CE "keep" f3)(G_keep:FnOk P w K mg base CX0 1 f3 d3 Zcy (spErKeep CE CC))(b_goal:Binds K d4 ["self"] [])(m_goal:Meth K CE "goal" f4)(G_goal:FnOk P w K mg base CX0 1 f4 d4 Zcz (spErGoal CE CC))
  (b_size:Binds K d5 ["self"] [])(m_size:Meth K CC "size" f5)(G_size:FnOk P w K mg base CX0 1 f5 d5 Znk (spSizeC CC)):FnOk P w K mg base CX0 2 f fd Zey (spIsErr CE CC):=by
 refine F.oq scLIsErrand λcdv A outer s H vs Q E hr1 h=>?_
 obtain⟨t,ex,m,e,rfl,ht,er,q⟩:=h
 have a0:∀u v z:V,atI [u,v,z] ((0:Nat):Int)=some u:=λ_ _ _=>Zal rfl
 have a1:∀u v z:V,atI [u,v,z] ((1:Nat):Int)=some v:=λ_ _ _=>Zal rfl
 have a2:∀u v z:V,atI [u,v,z] ((2:Nat):Int)=some z:=λ_ _ _=>Zal rfl
 have er0:=er
 obtain⟨dx,c0,hx,hc0⟩:=er0
 refine⟨_,(Zac (Zaw (i:=2) scLIsErrand.nd (Zas Zat (pv 0) Zae (λ_ _=>rfl)))
  (Zac (Za2 (PW.pt (Zgz (Zc4 (Zby (Zaq C_l_whole hr1 Zak (Zaa (Zbl (pv 2) LE.cl m_goal G_goal hr1 b_goal .nil Zak) Zab)))) (Zej (Zao Zh8 (Zbl (pv 2) LE.cl m_goal G_goal hr1 b_goal .nil Zak) (Zas Zat (pv 0) Zae (λ_ _=>rfl)) (Zar _))))) (Zag (Zam Zfj)) Zan)
  (Zac (Za2 (PW.pt (Zgz (Zc4 (Zby (Zaq C_l_whole hr1 Zak (Zaa (Zbl (pv 2) LE.cl m_keep G_keep hr1 b_keep .nil Zak) Zab)))) (Zej (Zao Zh8 (Zbl (pv 2) LE.cl m_keep G_keep hr1 b_keep .nil Zak) (Zas Zat (pv 0) Zae (λ_ _=>rfl)) (Zar _))))) (Zag (Zam Zfj)) Zan)
  (Zag (Zam (Zmb Zbt (Zbl (Zbl (pv 2) LE.cl m_chart G_chart hr1 b_chart .nil Zak) L.cl m_size G_size hr1 b_size .nil Zak) (pv 1) (Zar _))))))),?_⟩
 refine⟨_,rfl,t,_,_,_,rfl,rfl,SqT.of ht,a0 _ _ _,?_⟩
 refine⟨_,rfl,ex,dx,_,rfl,hx,Zie (by decide +kernel),ex,m,e,rfl,er,_,rfl,_,rfl,?_⟩
 refine iteF ?_
 refine⟨_,rfl,ex,dx,_,rfl,hx,Zie (by decide +kernel),ex,m,e,rfl,er,_,rfl,t,_,_,_,rfl,rfl,SqT.of ht,a1 _ _ _,rfl,_,rfl,?_⟩
 rw[decide_eq_true rfl]
 refine iteF ?_
 dsimp only[tNext]
 refine⟨_,rfl,ex,dx,_,rfl,hx,Zie (by decide +kernel),ex,m,e,rfl,er,_,rfl,_,rfl,?_⟩
 refine iteF ?_
 refine⟨_,rfl,ex,dx,_,rfl,hx,Zie (by decide +kernel),ex,m,e,rfl,er,_,rfl,t,_,_,_,rfl,rfl,SqT.of ht,a2 _ _ _,rfl,_,rfl,?_⟩
 rw[decide_eq_true rfl]
 refine iteF ?_
 dsimp only[tNext]
 refine⟨_,rfl,ex,dx,_,rfl,hx,Zie (by decide +kernel),ex,m,e,rfl,er,λc hc=>?_⟩
 obtain⟨cdx,p',o',a',q',d',kp',ko,ka,kq,kd,o1,o2,hc1,_⟩:=hc.ex
 refine⟨c,cdx,_,rfl,hc1,Ze8 (by decide +kernel),c,m,e.ds,e.ls,rfl,hc,_,rfl,rfl,?_⟩
 rw[decide_eq_true rfl]
 exact q
theorem ok_lsets {f:Addr}{fd:FuncData}(F:Fun K "_law_sets" "_law_sets" Zkl f fd)(T:Bl mg)(C_l_whole:Ca P w K mg base CX0 1 "_law_whole" Zf2 Zh2 spWhole):FnOk P w K mg base CX0 2 f fd Zmi spSets39:=by
 refine F.oq scLSets λcdv A outer s0 H vs Q E hr1 h=>?_
 obtain⟨r,r2,xs,rfl,hr,hr2',hn,q⟩:=h
 refine⟨_,(Zac (Za2 (PW.pt (Zgz (Zc4 (Zby (Zap Zjl (by rfl) T.isi Zdb (Zaa (pv 0) (Zaa (Zge (v:=.ty "list") (by rfl) T.list Zbx rfl) Zab))))) (Zej (Zao Zh8 (Zap Za8 (by rfl) T.len PySem.boot_len (Zaa (pv 0) Zab)) (Zap Za8 (by rfl) T.len PySem.boot_len (Zaa (pv 1) Zab)) (Zar _))))) (Zag (Zam Zfj)) Zan)
  (Zac (Zbh PassesOwn.never rfl (Zbr (by rfl) T.range (Zaa (Zap Za8 (by rfl) T.len PySem.boot_len (Zaa (pv 1) Zab)) Zab)) (Za3 (i:=2) scLSets.nd)
   (Zag (Za2 (PW.pt (Zgz (Zc4 (Zby (Zaq C_l_whole hr1 Zak (Zaa (Zas Zbj (pv 0) (pv 2) (λ_ _=>rfl)) Zab)))) (Zej (Zao Zh8 (Zas Zbj (pv 0) (pv 2) (λ_ _=>rfl)) (Zas Zbj (pv 1) (pv 2) (λ_ _=>rfl)) (Zar _))))) (Zag (Zam Zfj)) Zan)))
  (Zag (Zam Zfj)))),?_⟩
 have hl:(nV xs).length=xs.length:=length_map ..
 refine⟨_,rfl,r,_,rfl,hr,_,rfl,?_⟩
 refine iteF ?_
 refine⟨_,rfl,_,_,rfl,.inl ⟨_,SqL.of hr,rfl⟩,_,rfl,_,_,rfl,.inl ⟨_,SqL.of hr2',rfl⟩,rfl,_,rfl,?_⟩
 rw[decide_eq_true rfl]
 refine iteF ?_
 dsimp only[tNext]
 refine⟨_,rfl,_,_,rfl,.inl ⟨_,SqL.of hr2',rfl⟩,_,rfl,by lia,by lia,?_⟩
 refine Zgu (λi σ H2=>∃v2:Option V,σ = [some (.ref r),some (.ref r2),v2]/\H2=H) ⟨none,rfl,rfl⟩ ?_ ?_
 ·rintro i σ H2 hi ⟨v2,rfl,rfl⟩
  rw[toNat_natCast,hl]at hi
  have hx:xs[i]? = some xs[i]:=getElem?_eq_getElem hi
  generalize xs[i]=x at hx
  have at':atI (nV xs) (0+(i:Int))=some (.int (x:Int)):=by rw[Int.zero_add];exact Zal (by rw[getElem?_map,hx];rfl)
  refine⟨_,rfl,_,rfl,r,_,_,_,rfl,rfl,SqL.of hr,at',_,rfl,_,rfl,?_⟩
  refine iteF ?_
  refine⟨_,rfl,_,rfl,r,_,_,_,rfl,rfl,SqL.of hr,at',_,rfl,_,rfl,r2,_,_,_,rfl,rfl,SqL.of hr2',at',rfl,_,rfl,?_⟩
  rw[decide_eq_true rfl]
  refine iteF ?_
  exact⟨_,rfl,rfl⟩
 rintro σ H2 ⟨v2,rfl,rfl⟩
 exact q
theorem ok_law {f CE CC fI f4 f5:Addr}{C:C3}{fd dI d4 d5:FuncData}(F:Fun K "law" "law" sLaw f fd)(T:Bl mg)(MC:L2.Mk K CC fI)(mC:mg "Chart" = some (.ref CC))(bI:Binds K dI ["self", "many", "deeds", "looks"] [])(GI:FnOk P w K mg base CX0 3 fI dI Zoo (spInitC CC))
  (C_l_copied:Ca P w K mg base CX0 2 "_law_copied" Zeg Zh5 spCopied)
  (C_l_many:Ca P w K mg base CX0 3 "_law_many" Zkm Zmj (spManyD K))(C_l_deeds:Ca P w K mg base CX0 4 "_law_deeds" Zf6 Zj4 (spDeedsD K))(C_l_looks:Ca P w K mg base CX0 4 "_law_looks" Zf5 Zj2 (spLooksD K))
  (C_l_set:Ca P w K mg base CX0 3 "_law_set" Zls Znm (spSetD K))(D_l_draw:Df K mg "_law_draw" Zck Zcd f4 d4)(G_l_draw:FnOk P w K mg base CX0 2 f4 d4 Zcd (spDraw K))(D_l_grown:Df K mg "_law_grown" Zd1 Zd6 f5 d5)(G_l_grown:FnOk P w K mg base CX0 (4+2*5) f5 d5 Zd6 (spGrown K 5))
  (C_l_ends:Ca P w K mg base CX0 (3+5) "_law_ends" Zit Zk0 (spEndsL 5))(C_l_walk:Ca P w K mg base CX0 (3+5) "_law_walk" Zg8 Ziz (spWalkL 5))(C_l_all_rows:Ca P w K mg base CX0 30 "_law_all_rows" Zeh Zgk (spAllRows 5))
  (C_l_plan:Ca P w K mg base CX0 (4+5) "_law_plan" Zg9 Zkz (spPlanL C 5))(C_does:Ca P w K mg base CX0 8 "does" Znj Zop (spDoes C CE CC))(C_walked:Ca P w K mg base CX0 7 "walked" Zfz Zgg (spWalked C CE CC))(C_l_sets:Ca P w K mg base CX0 2 "_law_sets" Zkl Zmi spSets39)
  (C_l_errand:Ca P w K mg base CX0 4 "_law_errand" Zfq Zh4 (spErr39 K CE CC))(C_l_is_errand:Ca P w K mg base CX0 2 "_law_is_errand" Zdf Zey (spIsErr CE CC)):FnOk P w K mg base CX0 31 f fd ["_law_script"] (spLaw K):=by
 refine F.oq scLaw λcdv A outer s0 H vs Q E hrZ h=>?_
 obtain⟨a,ns,rfl,hS,hn,q⟩:=h
 have hr30:Room 30 _:=hrZ.mono (by decide)
 have hrG:Room (4+2*5) _:=hrZ.mono (by decide)
 have hrK:Room (3+5) _:=hrZ.mono (by decide)
 have hrE:Room (3+5) _:=hrZ.mono (by decide)
 have hrP:Room (4+5) _:=hrZ.mono (by decide)
 have hr8:Room 8 _:=hrZ.mono (by decide)
 have hr7:Room 7 _:=hrZ.mono (by decide)
 have hr4:Room 4 _:=hrZ.mono (by decide)
 have hr3:Room 3 _:=hrZ.mono (by decide)
 have hr2:Room 2 _:=hrZ.mono (by decide)
 have hun:=hr2.units
 have hsl:sizeLine=16777216:=sizeLine_eq
 refine⟨_,(Zac (Zaw (i:=1) scLaw.nd (Zaq C_l_many hr3 Zak (Zaa (pv 0) Zab)))
  (Zac (Zaw (i:=2) scLaw.nd (Zaq C_l_deeds hr4 Zak (Zaa (pv 0) (Zaa (pv 1) Zab))))
  (Zac (Zaw (i:=3) scLaw.nd (Zaq C_l_looks hr4 Zak (Zaa (pv 0) (Zaa (pv 1) Zab))))
  (Zac (Zaw (i:=4) scLaw.nd (Zaq C_l_set hr3 Zak (Zaa (pv 0) (Zaa Zae (Zaa (pv 1) Zab)))))
  (Zac (Zaw (i:=5) scLaw.nd (Zau Zhe (Zau Zff Zae (pv 1)) Zae))
  (Zac (Zaw (i:=6) scLaw.nd (Zbb (Zaa (pv 2) (Zaa (pv 3) (Zaa (pv 5) (Zaa (pv 5) Zab))))))
  (Zac (Zaw (i:=7) scLaw.nd (Za5 G_l_grown hrG (by rfl) D_l_grown.m D_l_grown.F.kp D_l_grown.b .nil Zak (Zaa (pv 0) (Zaa Zae (Zaa (pv 6) (Zaa (pv 4) (Zaa (Za5 G_l_draw hr2 (by rfl) D_l_draw.m D_l_draw.F.kp D_l_draw.b .nil Zak (Zaa (pv 0) (Zaa Zae (Zaa Zae (Zaa Zae Zab))))) Zab)))))))
  (Zac (Zaw (i:=8) scLaw.nd (Zbs Zab))
  (Zac (Za2 (Zao Zgn (Zaq C_l_walk hrK Zak (Zaa (pv 6) (Zaa (pv 7) (Zaa (pv 4) (Zaa (pv 8) Zab))))) Zbz (Zar _)) (Zag (Zam Zfj)) Zan)
  (Zac (Zaw (i:=9) scLaw.nd (Zau Zh7 (Zaq C_l_ends hrE Zak (Zaa (pv 6) (Zaa (pv 7) (Zaa (pv 4) Zab)))) (Zaq C_l_set hr3 Zak (Zaa (pv 0) (Zaa Zae (Zaa (pv 1) Zab))))))
  (Zac (Zaw (i:=10) scLaw.nd (Zgd MC GI hr4 (by rfl) mC bI .nil Zak (Zaa (pv 1) (Zaa (Zaq C_l_copied hr2 Zak (Zaa (pv 2) Zab)) (Zaa (Zaq C_l_copied hr2 Zak (Zaa (pv 3) Zab)) Zab)))))
  (Zac (Zaw (i:=11) scLaw.nd (Zaq C_l_errand hr4 Zak (Zaa (pv 0) (Zaa (pv 10) (Zaa (pv 1) (Zaa (pv 9) (Zaa (Zaq C_l_all_rows hr30 Zak (Zaa (pv 6) (Zaa (pv 7) (Zaa (pv 4) Zab)))) Zab)))))))
  (Zac (Za2 (Zc4 (Zby (Zaq C_l_is_errand hr2 Zak (Zaa (pv 11) (Zaa (pv 1) Zab))))) (Zag (Zam Zfj)) Zan)
  (Zac (Zaw (i:=12) scLaw.nd (Zaq C_l_plan hrP Zak (Zaa (pv 7) Zab)))
  (Zac (Zaw (i:=13) scLaw.nd (Zaq C_walked hr7 Zak (Zaa (Zas Zat (pv 11) Zae (λ_ _=>rfl)) (Zaa (pv 4) (Zaa (pv 12) Zab)))))
  (Zac (Za2 (PW.pt (Zgz (Zc4 (Zby (Zaq C_l_sets hr2 Zak (Zaa (pv 13) (Zaa (pv 8) Zab))))) (Zej (Zao op_notB (Zaq C_does hr8 Zak (Zaa (Zas Zat (pv 11) Zae (λ_ _=>rfl)) (Zaa (pv 4) (Zaa (pv 12) Zab)))) Zfj (Zar _))))) (Zag (Zam Zfj)) Zan)
  (Zac (Zaz (Zds PySem.F.plainAttrs_list PySem.F.slot_list_append PySem.F.type_list_append Za7 (pv 13) (Zaa Zae Zab)))
  (Zag (Zam (Zaq C_l_sets hr2 Zak (Zaa (Zaq C_walked hr7 Zak (Zaa (Zas Zat (pv 11) Zae (λ_ _=>rfl)) (Zaa (pv 4) (Zaa (pv 12) Zab)))) (Zaa (pv 8) Zab)))))))))))))))))))))),?_⟩
 have b0:∀u v x y:V,atI [u,v,x,y] ((0:Nat):Int)=some u:=λ_ _ _ _=>Zal rfl
 refine⟨_,rfl,a,ns,rfl,hS,hn,λm m1 m7=>?_⟩
 have m2:m<=200:=by lia
 refine⟨_,rfl,_,rfl,a,ns,m,rfl,hS,hn,m1,m2,λl1 us ds i1 H1 s1 fr1 e1 i3 dd=>?_⟩
 refine⟨_,rfl,_,rfl,a,ns,m,rfl,s1.seq hS,hn,m1,m2,λl2 ws ls i2 H2 s2 fr2 e2 i4 ll=>?_⟩
 have s02:=s1.trans s2
 refine⟨_,rfl,_,rfl,a,ns,_,m,rfl,s02.seq hS,hn,by decide,by decide,m1,m2,λs H3 s3 hs=>?_⟩
 have s03:=s02.trans s3
 refine⟨_,rfl,_,_,rfl,rfl,⟨by lia,by lia,by decide⟩,_,_,rfl,rfl,?_⟩
 have hfar:(1:Int)*2^((m:Int)).toNat-1=((2^m-1:Nat):Int):=by
  have p:=two_pow_pos m
  rw[toNat_natCast,one_mul,Int.ofNat_sub (by lia)]
  push_cast
  rfl
 rw[hfar]
 refine⟨_,rfl,_,rfl,_,rfl,_,rfl,by show 4<=sizeLine;lia,λdt hdt=>?_⟩
 obtain⟨H4,g0,s4,e4⟩:=gen1 (H:=H3) (o:=.tup [.ref l1,.ref l2,.int ((2^m-1:Nat):Int),.int ((2^m-1:Nat):Int)]) hdt
 rw[g0]
 have s04:=s03.trans s4
 have s24:=s3.trans s4
 have dd4:=dd.same (s2.trans s24)
 have ll4:=ll.same s24
 have e14:=s24 _ _ (s2 _ _ e1)
 have e24:=s24 _ _ e2
 have ok:=ch_ok dd4 ll4 i3 i4 m1 m2
 have lx4:=lx_of e14 e24 dd4 ll4 i3 i4 m1 m2
 have gr:=gro_of (ns:=ns) lx4 ok m7
 have D4:Dat H4 dt ⟨ds,ls,2^m-1,2^m-1⟩:=⟨l1,l2,us,ws,e4,e14,e24,dd4.hd,ll4.hl⟩
 refine⟨_,rfl,_,rfl,_,rfl,_,rfl,a,ns,_,_,_,rfl,s04.seq hS,hn,by decide,by decide,by decide,by decide,λdz d0 d5=>?_⟩
 obtain⟨d,rfl⟩:∃d:Nat,(d:Int)=dz:=⟨dz.toNat,toNat_of_nonneg d0⟩
 have d4:d<=4:=by lia
 have p3:(0+2)*3^d<=13122:=le_trans (Nat.mul_le_mul_left _ (pow_le_pow_right (by decide) d4)) (by decide)
 have p4:3*4^d<=768:=le_trans (Nat.mul_le_mul_left _ (pow_le_pow_right (by decide) d4)) (by decide)
 refine⟨a,ns,0,d,dt,m,⟨ds,ls,2^m-1,2^m-1⟩,_,s,rfl,s04.seq hS,hn,p3,by lia,D4,gr,hs,λtv t H5 s5 tr0 okt gd ht wt=>?_⟩
 have tr5:=tr0.same fw_le
 have sz:=Zju t
 have eok:=gr.ok
 have s05:=s04.trans s5
 have D5:=D4.same s5
 refine⟨by show 0<=sizeLine;lia,λr hr=>?_⟩
 refine⟨_,rfl,_,rfl,_,rfl,_,rfl,dt,r,tv,m,_,_,t,Str.empty,s,[],H5,rfl,D5,eok,hs,tr5,okt,by lia,gd _,Same.new hr,hr,Zad,by show 0+_<=_;lia,λH9 k9 e9=>?_⟩
 refine⟨rfl,_,rfl,?_⟩
 refine ite2 (λz=>absurd z (by decide)) (λ_=>?_)
 dsimp only[tNext]
 have s59:Same H5 H9:=λc u z=>k9 c u (Same.new hr _ _ z) (Zah z hr)
 rw[List.nil_append]at e9
 have s09:=s05.trans s59
 have D9:=D5.same s59
 have tr9:=tr5.same s59
 refine⟨_,rfl,_,rfl,_,rfl,dt,tv,m,_,_,t,Str.empty,s,rfl,D9,eok,hs,tr9,okt,by lia,gd _,λH6 s6=>?_⟩
 have s06:=s09.trans s6
 refine⟨_,rfl,_,rfl,a,ns,_,m,rfl,s06.seq hS,hn,by decide,by decide,m1,m2,λg2 H7 s7 hg2=>?_⟩
 refine⟨_,_,rfl,rfl,?_⟩
 rw[Zda]
 have s97:=s6.trans s7
 have s07:=s09.trans s97
 have D7:=D9.same s97
 have tr7:=tr9.same s97
 have e97:=s97 _ _ e9
 have s47:=(s5.trans s59).trans s97
 have lx9:=lx4.same s47
 have c1:=lx9.c1
 have c2:=lx9.c2
 have ul:=lx9.hd.len
 have wl':=lx9.hl.len
 refine⟨_,rfl,_,rfl,l1,us,rfl,lx9.h1,by lia,.inl ⟨ds,lx9.hd,λd hd=>by rw[(ok.de d hd).len];exact m2,λlc uc HA sA frA eA aA=>?_⟩⟩
 refine⟨_,rfl,l2,ws,rfl,sA _ _ lx9.h2,by lia,.inr ⟨ls,(lx9.same sA).hl,λd hd=>by rw[ok.lo d hd];exact m2,λlc2 wc HB sB frB eB aB=>?_⟩⟩
 intro cx dx hcx hdx dxn
 obtain⟨HC,g0,sC,eC⟩:=gen2 (C:=CC) hcx hdx dxn
 rw[g0]
 refine⟨cx,dx,lc,lc2,m,uc,wc,ds,ls,_,rfl,eC,sC _ _ (sB _ _ eA),sC _ _ eB,aA.mono λv t _ q'=>q'.same (sB.trans sC),aB.mono λv t _ q'=>q'.same sC,ok,λHD kD chD=>⟨rfl,?_⟩⟩
 have sBD:Same HB HD:=λc u z=>kD c u (sC _ _ z) (λz'=>by rw[z',hcx]at z;cases z)
 have s7D:=(sA.trans sB).trans sBD
 have s0D:=s07.trans s7D
 have hgl:enS ⟨ds,ls,2^m-1,2^m-1⟩ t Str.empty s|||g2<2^m:=Nat.or_lt_two_pow (Zjc eok t _ s hs) hg2
 have hkl:orA (rwS ⟨ds,ls,2^m-1,2^m-1⟩ t Str.empty s)<2^m:=Zn4 _ 0 (two_pow_pos m) (Zhb eok t _ s hs)
 refine⟨_,rfl,_,rfl,_,rfl,_,rfl,_,rfl,_,rfl,_,rfl,dt,tv,m,_,_,t,Str.empty,s,rfl,D7.same s7D,eok,hs,tr7.same s7D,okt,by lia,by lia,gd _,λHE sE=>?_⟩
 have s0E:=s0D.trans sE
 refine⟨a,cx,ns,m,ds,ls,_,_,rfl,s0E.seq hS,hn,chD.same sE,m1,m2,hkl,λtm ex k' HG sG htm erG sbk hk'=>?_⟩
 have s7G:=(s7D.trans sE).trans sG
 have e9G:=s7G _ _ e97
 have gin:=Zgs (e:=⟨ds,ls,2^m-1,2^m-1⟩) (enS ⟨ds,ls,2^m-1,2^m-1⟩ t Str.empty s|||g2) k' (gd Str.empty) or_sbl (λc hc=>(orA_sb hc).trans sbk)
 have eok2:EdOk m ⟨ds,ls,enS ⟨ds,ls,2^m-1,2^m-1⟩ t Str.empty s|||g2,k'⟩ (pqrL.map (wdS ns 3)):=⟨ok,hgl,hk',m7,eok.rd,eok.rl⟩
 have hlen:=Zb1 ⟨ds,ls,2^m-1,2^m-1⟩ t Str.empty s
 have ers:=Zl2 ds ls (enS ⟨ds,ls,2^m-1,2^m-1⟩ t Str.empty s|||g2) k' (2^m-1) (2^m-1) t Str.empty s
 have gin':GdW ⟨ds,ls,enS ⟨ds,ls,2^m-1,2^m-1⟩ t Str.empty s|||g2,k'⟩ t Str.empty s:=gin
 clear gin
 generalize enS ⟨ds,ls,2^m-1,2^m-1⟩ t Str.empty s|||g2=go at erG htm eok2 gin' ers ⊢
 have htm':HG tm=some (.tup [.ref ex,.int ((⟨ds,ls,go,k'⟩:Ed).g:Int),.int ((⟨ds,ls,go,k'⟩:Ed).k:Int)]):=htm
 generalize (⟨ds,ls,go,k'⟩:Ed)=e2' at erG eok2 gin' ers htm'
 generalize rwS ⟨ds,ls,2^m-1,2^m-1⟩ t Str.empty s=R0 at hlen e9G ers
 have a0:∀u v z:V,atI [u,v,z] ((0:Nat):Int)=some u:=λ_ _ _=>Zal rfl
 have wt4:szP t<=1000:=by lia
 refine⟨_,rfl,_,rfl,tm,ex,m,e2',rfl,htm',erG,_,rfl,?_⟩
 refine iteF ?_
 dsimp only[tNext]
 refine⟨_,rfl,tv,t,rfl,tr7.same s7G,okt,by lia,λpv HH sH plH=>?_⟩
 refine⟨_,rfl,tm,_,_,_,rfl,rfl,SqT.of (sH _ _ htm),a0 _ _ _,_,rfl,_,rfl,ex,m,e2',_,pv,t,s,rfl,erG.same sH,eok2,hs,plH,okt,by lia,gin',λr1 HM sM fr1 er1=>?_⟩
 rw[ers]at er1
 have sGM:=sH.trans sM
 refine⟨_,rfl,_,rfl,r1,r,R0,rfl,er1,sGM _ _ e9G,by lia,_,rfl,?_⟩
 refine iteF ?_
 refine⟨_,rfl,tm,_,_,_,rfl,rfl,SqT.of (sGM _ _ htm),a0 _ _ _,_,rfl,_,rfl,ex,m,e2',_,pv,t,s,rfl,erG.same sGM,eok2,hs,plH.same sM,okt,by lia,gin',λHN sN=>?_⟩
 refine⟨true,true,rfl,rfl,_,rfl,?_⟩
 refine ite2 (λz=>absurd z (by decide)) (λ_=>?_)
 dsimp only[tNext]
 have er1N:=sN _ _ er1
 refine⟨_,rfl,.inl ⟨rfl,_,SqL.of er1N⟩,r1,_,.int 0,rfl,rfl,er1N,by rw[length_map];lia,?_⟩
 have sHN:=sM.trans sN
 have kP:∀c u,HH c=some u->(upd HN r1 (.lst (nV R0++[.int 0]))) c=some u:=λc u z=>by rw[Zaj (Zah z fr1)];exact sHN _ _ z
 generalize (upd HN r1 (.lst (nV R0++[.int 0])))=HP at kP ⊢
 have sGP:Same HG HP:=sH.trans kP
 refine⟨_,rfl,tm,_,_,_,rfl,rfl,SqT.of (sGP _ _ htm),a0 _ _ _,_,rfl,_,rfl,ex,m,e2',_,pv,t,s,rfl,erG.same sGP,eok2,hs,plH.same kP,okt,by lia,gin',λr2 HQ sQ fr2 er2=>?_⟩
 rw[ers]at er2
 exact⟨_,rfl,r2,r,R0,rfl,er2,(sGP.trans sQ) _ _ e9G,by lia,q _⟩
end
theorem ln1 {P:List Value->Prop}(h:∀a0:Value,P [a0]):∀us:List Value,us.length=1->P us:=λus hl=>by
 obtain _ | ⟨a0,r0⟩:=us
 ·exact absurd hl (by simp)
 obtain _ | ⟨b,r⟩:=r0
 ·exact h a0
 exact absurd hl (by simp)
theorem ln2 {P:List Value->Prop}(h:∀a0 a1:Value,P [a0,a1]):∀us:List Value,us.length=2->P us:=λus hl=>by
 obtain _ | ⟨a0,r0⟩:=us
 ·exact absurd hl (by simp)
 obtain _ | ⟨a1,r1⟩:=r0
 ·exact absurd hl (by simp)
 obtain _ | ⟨b,r⟩:=r1
 ·exact h a0 a1
 exact absurd hl (by simp)
theorem ln3 {P:List Value->Prop}(h:∀a0 a1 a2:Value,P [a0,a1,a2]):∀us:List Value,us.length=3->P us:=λus hl=>by
 obtain _ | ⟨a0,r0⟩:=us
 ·exact absurd hl (by simp)
 obtain _ | ⟨a1,r1⟩:=r0
 ·exact absurd hl (by simp)
 obtain _ | ⟨a2,r2⟩:=r1
 ·exact absurd hl (by simp)
 obtain _ | ⟨b,r⟩:=r2
 ·exact h a0 a1 a2
 exact absurd hl (by simp)
theorem ln4 {P:List Value->Prop}(h:∀a0 a1 a2 a3:Value,P [a0,a1,a2,a3]):∀us:List Value,us.length=4->P us:=λus hl=>by
 obtain _ | ⟨a0,r0⟩:=us
 ·exact absurd hl (by simp)
 obtain _ | ⟨a1,r1⟩:=r0
 ·exact absurd hl (by simp)
 obtain _ | ⟨a2,r2⟩:=r1
 ·exact absurd hl (by simp)
 obtain _ | ⟨a3,r3⟩:=r2
 ·exact absurd hl (by simp)
 obtain _ | ⟨b,r⟩:=r3
 ·exact h a0 a1 a2 a3
 exact absurd hl (by simp)
theorem ln5 {P:List Value->Prop}(h:∀a0 a1 a2 a3 a4:Value,P [a0,a1,a2,a3,a4]):∀us:List Value,us.length=5->P us:=λus hl=>by
 obtain _ | ⟨a0,r0⟩:=us
 ·exact absurd hl (by simp)
 obtain _ | ⟨a1,r1⟩:=r0
 ·exact absurd hl (by simp)
 obtain _ | ⟨a2,r2⟩:=r1
 ·exact absurd hl (by simp)
 obtain _ | ⟨a3,r3⟩:=r2
 ·exact absurd hl (by simp)
 obtain _ | ⟨a4,r4⟩:=r3
 ·exact absurd hl (by simp)
 obtain _ | ⟨b,r⟩:=r4
 ·exact h a0 a1 a2 a3 a4
 exact absurd hl (by simp)
theorem ln6 {P:List Value->Prop}(h:∀a0 a1 a2 a3 a4 a5:Value,P [a0,a1,a2,a3,a4,a5]):∀us:List Value,us.length=6->P us:=λus hl=>by
 obtain _ | ⟨a0,r0⟩:=us
 ·exact absurd hl (by simp)
 obtain _ | ⟨a1,r1⟩:=r0
 ·exact absurd hl (by simp)
 obtain _ | ⟨a2,r2⟩:=r1
 ·exact absurd hl (by simp)
 obtain _ | ⟨a3,r3⟩:=r2
 ·exact absurd hl (by simp)
 obtain _ | ⟨a4,r4⟩:=r3
 ·exact absurd hl (by simp)
 obtain _ | ⟨a5,r5⟩:=r4
 ·exact absurd hl (by simp)
 obtain _ | ⟨b,r⟩:=r5
 ·exact h a0 a1 a2 a3 a4 a5
 exact absurd hl (by simp)
open PySem.W (Frag OpenLaw codeIn findIn fnOf hasDictIn isFn keepIn kin_not makesIn mg_none_of mg_of mroIn nsIn plainGet plainOver specialIn subIn takesIn)
abbrev nA (K:Frag)(x:Str)(f:Addr):Prop:=nsIn K mainGlobals x=some (some (.ref f))
abbrev lK (K:Frag)(f:Addr)(x q:Str)(s:Stmt)(oc:Value)(od:Option Addr)(kV dc pm:Value)(an:Option Addr)(cd ct:Value)(sl:Array (Option Value)):Prop:=K.lookup f=some ⟨oc,od,.func (fnOf x q (Zbk s) (Zbe s) (Zaf s) .none kV dc pm an cd ct),sl⟩
theorem all_mk {l:OpenLaw}{w:World}{K:Frag}{h:Heap}{mg:Str->Option Value}{fa C CE CP CS CD CL f1 f2 f3 f4 f5 f6 f7 f8 f9 f10 f11 f12 f13 f14 f15 f16 f17 f18 f19 f20 f21 f22 f23 f24 f25 f26 f27 f28 f29 f30 f31 f32 f33 f34 f35 f36 f37 f38 f39 f40 f41 f42 f43 f44 f45 f46 f47 f48 f49 f50 f51 f52 f53 f54 f55 f56 f57 f58 f59 f60 f61 f62 f63 f64 f65 f66 f67 f68 f69 f70 f71 f72 f73 f74 f75 f76 f77 f78 f79:Addr}(X:K.In h)(G:h.Ns mainGlobals mg)(hfa:mg "law" = some (.ref fa))
  {od61 an61 od70 an70:Option Addr}{sl61 sl70:Array (Option Value)}{oc61 kV61 dc61 pm61 cd61 ct61 oc70 kV70 dc70 pm70 cd70 ct70 uW uS uN uR:Value}{TD:Addr}{ocTD:Value}{odTD:Option Addr}{nnTD:Nat}{slTD:Array (Option Value)}
  (q1:Qf K "set_of" Zf0 f1)
  (q2:Qf K "worlds_of" Zci f2)
  (q3:Qf K "least_of" Zfp f3)
  (q4:Qf K "within" Zhn f4)
  (q5:Qf K "without" Zfo f5)
  (q6:Qf K "can_do" Zko f6)
  (q7:Qf K "after" Zkp f7)
  (q8:Qf K "parts" Zir f8)
  (q9:Qf K "check_can" Zc9 f9)
  (q10:Qf K "led_to" Zkh f10)
  (q11:Qf K "check_many" Zdi f11)
  (q12:Qf K "check_steps" Zb8 f12)
  (q13:Qf K "check_name" Zdh f13)
  (q14:Qf K "check_price" Zcr f14)
  (q15:Qf K "check_table" Zb7 f15)
  (q16:Qf K "check_entry" Zb9 f16)
  (q17:Qf K "read_deeds" Zcj f17)
  (q18:Qf K "read_looks" Zde f18)
  (q19:Qf K "parted" Zhp f19)
  (q20:Qf K "doable_sets" Zbv f20)
  (q21:Qf K "rows_in" Zho f21)
  (q22:Qf K "check_ways" Zcl f22)
  (q23:Qf K "walked" Zfz f23)
  (q24:Qf K "does" Znj f24)
  (q25:Qf K "check_names" Zcs f25)
  (q26:Qf K "led_on" Zki f26)
  (q27:Qf K "check_row" Zc8 f27)
  (q28:Qf K "faults" Zhs f28)
  (q29:Qf K "answered" Zei f29)
  (q30:Qf K "_law_cell" Zha f30)
  (q31:Qf K "_law_draw" Zck f31)
  (q32:Qf K "_law_sign" Zkk f32)
  (q33:Qf K "_law_words" Zdz f33)
  (q34:Qf K "_law_price" Zf3 f34)
  (q35:Qf K "_law_entry" Zhr f35)
  (q36:Qf K "_law_deeds" Zf6 f36)
  (q37:Qf K "_law_told" Zkj f37)
  (q38:Qf K "_law_looks" Zf5 f38)
  (q39:Qf K "_law_set" Zls f39)
  (q40:Qf K "_law_list" Zef f40)
  (q41:Qf K "_law_table" Zd0 f41)
  (q42:Qf K "_law_copied" Zeg f42)
  (q43:Qf K "_law_held" Zkn f43)
  (q44:Qf K "_law_many" Zkm f44)
  (q45:Qf K "_law_whole" Zf2 f45)
  (q46:Qf K "_law_deep" Ziu f46)
  (q47:Qf K "_law_plan" Zg9 f47)
  (q48:Qf K "_law_ways" Zis f48)
  (q49:Qf K "_law_why" Znh f49)
  (q50:Qf K "_law_behind" Zdg f50)
  (q51:Qf K "_law_part" Zf4 f51)
  (q52:Qf K "_law_walk" Zg8 f52)
  (q53:Qf K "_law_can" Zni f53)
  (q54:Qf K "_law_grown" Zd1 f54)
  (q55:Qf K "_law_grown_ways" Zb6 f55)
  (q56:Qf K "_law_ends" Zit f56)
  (q57:Qf K "_law_all_rows" Zeh f57)
  (q58:Qf K "_law_errand" Zfq f58)
  (q59:Qf K "_law_is_errand" Zdf f59)
  (q60:Qf K "_law_sets" Zkl f60)
  (a61:nA K "law" f61)(l61:lK K f61 "law" "law" sLaw oc61 od61 kV61 dc61 pm61 an61 cd61 ct61 sl61)(c61:codeIn K cd61 "law" = true)(k61:keepIn K (.ref f61)=true)
  (aC:nsIn K mainGlobals "Chart" = some (some (.ref C)))(pgC:plainGet K C Str.empty=true)(hdC:hasDictIn K C=true)(poC:plainOver K C=true)(saC:findIn K (.ref C) "__setattr__" = some (some (.builtin "object.__setattr__")))(mkC:makesIn K C=true)(kcC:keepIn K (.ref C)=true)
  (nC_1:findIn K (.ref C) "many" = some none)
  (nC_2:findIn K (.ref C) "prices" = some none)
  (nC_3:findIn K (.ref C) "told_outs" = some none)
  (nC_4:findIn K (.ref C) "told_answers" = some none)
  (nC_5:findIn K (.ref C) "told_parts" = some none)
  (nC_6:findIn K (.ref C) "told_doable" = some none)
  (aCE:nsIn K mainGlobals "Errand" = some (some (.ref CE)))(pgCE:plainGet K CE Str.empty=true)(hdCE:hasDictIn K CE=true)(poCE:plainOver K CE=true)(saCE:findIn K (.ref CE) "__setattr__" = some (some (.builtin "object.__setattr__")))(mkCE:makesIn K CE=true)(kcCE:keepIn K (.ref CE)=true)
  (nCE_1:findIn K (.ref CE) "told_chart" = some none)
  (nCE_2:findIn K (.ref CE) "told_goal" = some none)
  (nCE_3:findIn K (.ref CE) "told_keep" = some none)
  (aCP:nsIn K mainGlobals "Plan" = some (some (.ref CP)))(pgCP:plainGet K CP Str.empty=true)(hdCP:hasDictIn K CP=true)(poCP:plainOver K CP=true)(saCP:findIn K (.ref CP) "__setattr__" = some (some (.builtin "object.__setattr__")))(mkCP:makesIn K CP=true)(kcCP:keepIn K (.ref CP)=true)
  (aCS:nsIn K mainGlobals "Stop" = some (some (.ref CS)))(pgCS:plainGet K CS Str.empty=true)(hdCS:hasDictIn K CS=true)(poCS:plainOver K CS=true)(saCS:findIn K (.ref CS) "__setattr__" = some (some (.builtin "object.__setattr__")))(mkCS:makesIn K CS=true)(kcCS:keepIn K (.ref CS)=true)
  (aCD:nsIn K mainGlobals "Do" = some (some (.ref CD)))(pgCD:plainGet K CD Str.empty=true)(hdCD:hasDictIn K CD=true)(poCD:plainOver K CD=true)(saCD:findIn K (.ref CD) "__setattr__" = some (some (.builtin "object.__setattr__")))(mkCD:makesIn K CD=true)(kcCD:keepIn K (.ref CD)=true)
  (nCD_1:findIn K (.ref CD) "deed" = some none)
  (nCD_2:findIn K (.ref CD) "rest" = some none)
  (aCL:nsIn K mainGlobals "Look" = some (some (.ref CL)))(pgCL:plainGet K CL Str.empty=true)(hdCL:hasDictIn K CL=true)(poCL:plainOver K CL=true)(saCL:findIn K (.ref CL) "__setattr__" = some (some (.builtin "object.__setattr__")))(mkCL:makesIn K CL=true)(kcCL:keepIn K (.ref CL)=true)
  (nCL_1:findIn K (.ref CL) "look" = some none)
  (nCL_2:findIn K (.ref CL) "told_ways" = some none)
  (q62:Qm K C "__init__" "Chart.__init__" Zl1 f62)
  (q63:Qm K C "size" "Chart.size" Zon f63)
  (q64:Qm K C "out_sets" "Chart.out_sets" Zhq f64)
  (q65:Qm K C "answer_sets" "Chart.answer_sets" Zd4 f65)
  (q66:Qm K C "doable" "Chart.doable" Zjv f66)
  (q67:Qm K C "check_deed" "Chart.check_deed" Zex f67)
  (q68:Qm K C "check_look" "Chart.check_look" Zew f68)
  (q69:Qm K C "check_step" "Chart.check_step" Zev f69)
  (a70:findIn K (.ref CE) "__init__" = some (some (.ref f70)))(i70:isFn K (.ref f70)=true)(l70:K.lookup f70=some ⟨oc70,od70,.func (fnOf "__init__" "Errand.__init__" (Zbk Zbp) (Zbe Zbp) (Zaf Zbp) (.ref TD) kV70 dc70 pm70 an70 cd70 ct70),sl70⟩)(c70:codeIn K cd70 "Errand.__init__" = true)(k70:keepIn K (.ref f70)=true)
  (q71:Qm K CE "chart" "Errand.chart" Zc7 f71)
  (q72:Qm K CE "goal" "Errand.goal" Zd3 f72)
  (q73:Qm K CE "keep" "Errand.keep" Zd2 f73)
  (q74:Qm K CS "goes_on" "Stop.goes_on" Zdx f74)
  (q75:Qm K CD "__init__" "Do.__init__" Zjw f75)
  (q76:Qm K CD "goes_on" "Do.goes_on" Zf7 f76)
  (q77:Qm K CL "__init__" "Look.__init__" Zee f77)
  (q78:Qm K CL "ways" "Look.ways" Zf1 f78)
  (q79:Qm K CL "goes_on" "Look.goes_on" Zdy f79)
  (gW:nsIn K mainGlobals "MOST_WORLDS" = some (some uW))(vW:absV uW=some (.int 200))
  (gS:nsIn K mainGlobals "MOST_STEPS" = some (some uS))(vS:absV uS=some (.int 40))
  (gN:nsIn K mainGlobals "MOST_SIGNS" = some (some uN))(vN:absV uN=some (.int 30))
  (gR:nsIn K mainGlobals "MOST_PRICE" = some (some uR))(vR:absV uR=some (.int 1000000000))
  (oS1:findIn K (.ref CS) "__init__" = some (some (.builtin "object.__init__")))
  (oS2:subIn K (.ref CS) (.type "object")=some true)
  (ngS:plainGet K CS "__class__" = true)
  (naS:findIn K (.ref CS) "__class__" = some (some (.builtin "object.__class__")))
  (nmS:mroIn K CS (.type "object")=some true)
  (ngD:plainGet K CD "__class__" = true)
  (naD:findIn K (.ref CD) "__class__" = some (some (.builtin "object.__class__")))
  (nmD:mroIn K CD (.type "object")=some true)
  (ngL:plainGet K CL "__class__" = true)
  (naL:findIn K (.ref CL) "__class__" = some (some (.builtin "object.__class__")))
  (nmL:mroIn K CL (.type "object")=some true)
  (nsp:specialIn K (.builtin "object.__class__") "__get__" = some (some (.builtin "getset_descriptor.__get__")))
  (ntk:takesIn K (.builtin "object.__class__")=some true)
  (knSD:kin_not K CS CD=true)
  (knSL:kin_not K CS CL=true)
  (knDS:kin_not K CD CS=true)
  (knDL:kin_not K CD CL=true)
  (knLS:kin_not K CL CS=true)
  (knLD:kin_not K CL CD=true)
  (lTD:K.lookup TD=some ⟨ocTD,odTD,.seq #[.none] nnTD,slTD⟩)
  (z1:nsIn K mainGlobals "len" = some none)(z2:nsIn K mainGlobals "range" = some none)(z3:nsIn K mainGlobals "tuple" = some none)(z4:nsIn K mainGlobals "zip" = some none)(z5:nsIn K mainGlobals "isinstance" = some none)(z6:nsIn K mainGlobals "str" = some none)(z7:nsIn K mainGlobals "list" = some none)(z8:nsIn K mainGlobals "set" = some none)(z9:nsIn K mainGlobals "all" = some none)(z10:nsIn K mainGlobals "sorted" = some none)(z11:nsIn K mainGlobals "int" = some none)(z12:nsIn K mainGlobals "bool" = some none)(z13:nsIn K mainGlobals "sum" = some none)(z14:nsIn K mainGlobals "max" = some none)(z15:nsIn K mainGlobals "enumerate" = some none)(z16:nsIn K mainGlobals "dict" = some none)(z17:nsIn K mainGlobals "ValueError" = some none)(z18:nsIn K mainGlobals "min" = some none)(z19:nsIn K mainGlobals "reversed" = some none) :
  ∃fd:FuncData,(∀(s:Shared) (v:Value),BindsTo s fd ⟨[v],[]⟩ [("_law_script",v)])/\∀base:Heap,K.In base->base.Ns mainGlobals mg->FnOk l.prog w K mg base CX0 31 fa fd ["_law_script"] (spLaw K):=by
 have e:=hfa.symm.trans (mg_of X G a61)
 cases e
 have T:Bl mg:=⟨mg_none_of X G z1,mg_none_of X G z2,mg_none_of X G z3,mg_none_of X G z4,mg_none_of X G z5,mg_none_of X G z6,mg_none_of X G z7,mg_none_of X G z8,mg_none_of X G z9,mg_none_of X G z10,mg_none_of X G z11,mg_none_of X G z12,mg_none_of X G z13,mg_none_of X G z14,mg_none_of X G z15,mg_none_of X G z16,mg_none_of X G z17,mg_none_of X G z18,mg_none_of X G z19⟩
 obtain⟨tW,eW⟩:=(Zht vW:RelV (.int 200) uW)
 rw[eW]at gW
 obtain⟨tS,eS⟩:=(Zht vS:RelV (.int 40) uS)
 rw[eS]at gS
 obtain⟨tN,eN⟩:=(Zht vN:RelV (.int 30) uN)
 rw[eN]at gN
 obtain⟨tR,eR⟩:=(Zht vR:RelV (.int 1000000000) uR)
 rw[eR]at gR
 have F61:=Zi9 l61 c61 k61
 obtain⟨_,F62,b62,m62⟩:=q62.df ["self", "many", "deeds", "looks"] λ_ _ _ _ _ _=>ln4 λ_ _ _ _=>rfl
 obtain⟨_,F63,b63,m63⟩:=q63.df ["self"] λ_ _ _ _ _ _=>ln1 λ_=>rfl
 obtain⟨_,F64,b64,m64⟩:=q64.df ["self", "name"] λ_ _ _ _ _ _=>ln2 λ_ _=>rfl
 obtain⟨_,F65,b65,m65⟩:=q65.df ["self", "name"] λ_ _ _ _ _ _=>ln2 λ_ _=>rfl
 obtain⟨_,F66,b66,m66⟩:=q66.df ["self", "name"] λ_ _ _ _ _ _=>ln2 λ_ _=>rfl
 obtain⟨_,F67,b67,m67⟩:=q67.df ["self", "name"] λ_ _ _ _ _ _=>ln2 λ_ _=>rfl
 obtain⟨_,F68,b68,m68⟩:=q68.df ["self", "name"] λ_ _ _ _ _ _=>ln2 λ_ _=>rfl
 obtain⟨_,F69,b69,m69⟩:=q69.df ["self", "name"] λ_ _ _ _ _ _=>ln2 λ_ _=>rfl
 have F70:=funD_mk l70 c70
 have b70:=F70.binds (ps:=["self", "chart", "goal", "keep"]) lTD λ_ _ _ _ _ _=>ln4 λ_ _ _ _=>⟨_,rfl,rfl⟩
 obtain⟨_,F71,b71,m71⟩:=q71.df ["self"] λ_ _ _ _ _ _=>ln1 λ_=>rfl
 obtain⟨_,F72,b72,m72⟩:=q72.df ["self"] λ_ _ _ _ _ _=>ln1 λ_=>rfl
 obtain⟨_,F73,b73,m73⟩:=q73.df ["self"] λ_ _ _ _ _ _=>ln1 λ_=>rfl
 obtain⟨_,F74,b74,m74⟩:=q74.df ["self"] λ_ _ _ _ _ _=>ln1 λ_=>rfl
 obtain⟨_,F75,b75,m75⟩:=q75.df ["self", "deed", "rest"] λ_ _ _ _ _ _=>ln3 λ_ _ _=>rfl
 obtain⟨_,F76,b76,m76⟩:=q76.df ["self"] λ_ _ _ _ _ _=>ln1 λ_=>rfl
 obtain⟨_,F77,b77,m77⟩:=q77.df ["self", "look", "ways"] λ_ _ _ _ _ _=>ln3 λ_ _ _=>rfl
 obtain⟨_,F78,b78,m78⟩:=q78.df ["self"] λ_ _ _ _ _ _=>ln1 λ_=>rfl
 obtain⟨_,F79,b79,m79⟩:=q79.df ["self"] λ_ _ _ _ _ _=>ln1 λ_=>rfl
 have CC:Cls K C:=⟨pgC,hdC,poC,saC⟩
 have CCE:Cls K CE:=⟨pgCE,hdCE,poCE,saCE⟩
 have CCP:Cls K CP:=⟨pgCP,hdCP,poCP,saCP⟩
 have CCS:Cls K CS:=⟨pgCS,hdCS,poCS,saCS⟩
 have CCD:Cls K CD:=⟨pgCD,hdCD,poCD,saCD⟩
 have CCL:Cls K CL:=⟨pgCL,hdCL,poCL,saCL⟩
 obtain⟨_,D1⟩:=q1.df X G ["worlds"] λ_ _ _ _ _ _=>ln1 λ_=>rfl
 obtain⟨_,D2⟩:=q2.df X G ["some"] λ_ _ _ _ _ _=>ln1 λ_=>rfl
 obtain⟨_,D3⟩:=q3.df X G ["some"] λ_ _ _ _ _ _=>ln1 λ_=>rfl
 obtain⟨_,D4⟩:=q4.df X G ["one", "other"] λ_ _ _ _ _ _=>ln2 λ_ _=>rfl
 obtain⟨_,D5⟩:=q5.df X G ["one", "other"] λ_ _ _ _ _ _=>ln2 λ_ _=>rfl
 obtain⟨_,D6⟩:=q6.df X G ["chart", "name", "some"] λ_ _ _ _ _ _=>ln3 λ_ _ _=>rfl
 obtain⟨_,D7⟩:=q7.df X G ["chart", "name", "some"] λ_ _ _ _ _ _=>ln3 λ_ _ _=>rfl
 obtain⟨_,D8⟩:=q8.df X G ["chart", "name", "some"] λ_ _ _ _ _ _=>ln3 λ_ _ _=>rfl
 obtain⟨_,D9⟩:=q9.df X G ["chart", "name", "some"] λ_ _ _ _ _ _=>ln3 λ_ _ _=>rfl
 obtain⟨_,D10⟩:=q10.df X G ["outs", "some"] λ_ _ _ _ _ _=>ln2 λ_ _=>rfl
 obtain⟨_,D11⟩:=q11.df X G ["many"] λ_ _ _ _ _ _=>ln1 λ_=>rfl
 obtain⟨_,D12⟩:=q12.df X G ["deeds", "looks"] λ_ _ _ _ _ _=>ln2 λ_ _=>rfl
 obtain⟨_,D13⟩:=q13.df X G ["name"] λ_ _ _ _ _ _=>ln1 λ_=>rfl
 obtain⟨_,D14⟩:=q14.df X G ["price"] λ_ _ _ _ _ _=>ln1 λ_=>rfl
 obtain⟨_,D15⟩:=q15.df X G ["many", "name", "table"] λ_ _ _ _ _ _=>ln3 λ_ _ _=>rfl
 obtain⟨_,D16⟩:=q16.df X G ["many", "name", "entry"] λ_ _ _ _ _ _=>ln3 λ_ _ _=>rfl
 obtain⟨_,D17⟩:=q17.df X G ["many", "deeds"] λ_ _ _ _ _ _=>ln2 λ_ _=>rfl
 obtain⟨_,D18⟩:=q18.df X G ["many", "looks"] λ_ _ _ _ _ _=>ln2 λ_ _=>rfl
 obtain⟨_,D19⟩:=q19.df X G ["answers"] λ_ _ _ _ _ _=>ln1 λ_=>rfl
 obtain⟨_,D20⟩:=q20.df X G ["outs", "answers"] λ_ _ _ _ _ _=>ln2 λ_ _=>rfl
 obtain⟨_,D21⟩:=q21.df X G ["plan"] λ_ _ _ _ _ _=>ln1 λ_=>rfl
 obtain⟨_,D22⟩:=q22.df X G ["ways"] λ_ _ _ _ _ _=>ln1 λ_=>rfl
 obtain⟨_,D23⟩:=q23.df X G ["errand", "some", "plan"] λ_ _ _ _ _ _=>ln3 λ_ _ _=>rfl
 obtain⟨_,D24⟩:=q24.df X G ["errand", "some", "plan"] λ_ _ _ _ _ _=>ln3 λ_ _ _=>rfl
 obtain⟨_,D25⟩:=q25.df X G ["chart", "rows"] λ_ _ _ _ _ _=>ln2 λ_ _=>rfl
 obtain⟨_,D26⟩:=q26.df X G ["chart", "one", "answer", "some"] λ_ _ _ _ _ _=>ln4 λ_ _ _ _=>rfl
 obtain⟨_,D27⟩:=q27.df X G ["errand", "number", "one", "some"] λ_ _ _ _ _ _=>ln4 λ_ _ _ _=>rfl
 obtain⟨_,D28⟩:=q28.df X G ["errand", "one", "some"] λ_ _ _ _ _ _=>ln3 λ_ _ _=>rfl
 obtain⟨_,D29⟩:=q29.df X G ["chart", "one"] λ_ _ _ _ _ _=>ln2 λ_ _=>rfl
 obtain⟨_,D30⟩:=q30.df X G ["_law_script", "_law_k"] λ_ _ _ _ _ _=>ln2 λ_ _=>rfl
 obtain⟨_,D31⟩:=q31.df X G ["_law_script", "_law_k", "_law_prime", "_law_many_here"] λ_ _ _ _ _ _=>ln4 λ_ _ _ _=>rfl
 obtain⟨_,D32⟩:=q32.df X G ["_law_number"] λ_ _ _ _ _ _=>ln1 λ_=>rfl
 obtain⟨_,D33⟩:=q33.df X G ["_law_script", "_law_k", "_law_letters"] λ_ _ _ _ _ _=>ln3 λ_ _ _=>rfl
 obtain⟨_,D34⟩:=q34.df X G ["_law_script", "_law_k"] λ_ _ _ _ _ _=>ln2 λ_ _=>rfl
 obtain⟨_,D35⟩:=q35.df X G ["_law_script", "_law_k", "_law_many_here"] λ_ _ _ _ _ _=>ln3 λ_ _ _=>rfl
 obtain⟨_,D36⟩:=q36.df X G ["_law_script", "_law_many_here"] λ_ _ _ _ _ _=>ln2 λ_ _=>rfl
 obtain⟨_,D37⟩:=q37.df X G ["_law_script", "_law_k", "_law_answers"] λ_ _ _ _ _ _=>ln3 λ_ _ _=>rfl
 obtain⟨_,D38⟩:=q38.df X G ["_law_script", "_law_many_here"] λ_ _ _ _ _ _=>ln2 λ_ _=>rfl
 obtain⟨_,D39⟩:=q39.df X G ["_law_script", "_law_k", "_law_many_here"] λ_ _ _ _ _ _=>ln3 λ_ _ _=>rfl
 obtain⟨_,D40⟩:=q40.df X G ["_law_some"] λ_ _ _ _ _ _=>ln1 λ_=>rfl
 obtain⟨_,D41⟩:=q41.df X G ["_law_steps", "_law_name"] λ_ _ _ _ _ _=>ln2 λ_ _=>rfl
 obtain⟨_,D42⟩:=q42.df X G ["_law_steps"] λ_ _ _ _ _ _=>ln1 λ_=>rfl
 obtain⟨_,D43⟩:=q43.df X G ["_law_one"] λ_ _ _ _ _ _=>ln1 λ_=>rfl
 obtain⟨_,D44⟩:=q44.df X G ["_law_script"] λ_ _ _ _ _ _=>ln1 λ_=>rfl
 obtain⟨_,D45⟩:=q45.df X G ["_law_thing"] λ_ _ _ _ _ _=>ln1 λ_=>rfl
 obtain⟨_,D46⟩:=q46.df X G ["_law_script", "_law_k", "_law_prime", "_law_many_here"] λ_ _ _ _ _ _=>ln4 λ_ _ _ _=>rfl
 obtain⟨_,D47⟩:=q47.df X G ["_law_tree"] λ_ _ _ _ _ _=>ln1 λ_=>rfl
 obtain⟨_,D48⟩:=q48.df X G ["_law_tree"] λ_ _ _ _ _ _=>ln1 λ_=>rfl
 obtain⟨_,D49⟩:=q49.df X G ["_law_data", "_law_tree", "_law_world"] λ_ _ _ _ _ _=>ln3 λ_ _ _=>rfl
 obtain⟨_,D50⟩:=q50.df X G ["_law_data", "_law_tree", "_law_some"] λ_ _ _ _ _ _=>ln3 λ_ _ _=>rfl
 obtain⟨_,D51⟩:=q51.df X G ["_law_data", "_law_tree", "_law_answer", "_law_some"] λ_ _ _ _ _ _=>ln4 λ_ _ _ _=>rfl
 obtain⟨_,D52⟩:=q52.df X G ["_law_data", "_law_tree", "_law_some", "_law_rows"] λ_ _ _ _ _ _=>ln4 λ_ _ _ _=>rfl
 obtain⟨_,D53⟩:=q53.df X G ["_law_table_here", "_law_some"] λ_ _ _ _ _ _=>ln2 λ_ _=>rfl
 obtain⟨_,D54⟩:=q54.df X G ["_law_script", "_law_k", "_law_data", "_law_some", "_law_deep_here"] λ_ _ _ _ _ _=>ln5 λ_ _ _ _ _=>rfl
 obtain⟨_,D55⟩:=q55.df X G ["_law_script", "_law_k", "_law_data", "_law_step", "_law_some", "_law_deep_here"] λ_ _ _ _ _ _=>ln6 λ_ _ _ _ _ _=>rfl
 obtain⟨_,D56⟩:=q56.df X G ["_law_data", "_law_tree", "_law_some"] λ_ _ _ _ _ _=>ln3 λ_ _ _=>rfl
 obtain⟨_,D57⟩:=q57.df X G ["_law_data", "_law_tree", "_law_some"] λ_ _ _ _ _ _=>ln3 λ_ _ _=>rfl
 obtain⟨_,D58⟩:=q58.df X G ["_law_script", "_law_chart", "_law_many_here", "_law_goal", "_law_keep"] λ_ _ _ _ _ _=>ln5 λ_ _ _ _ _=>rfl
 obtain⟨_,D59⟩:=q59.df X G ["_law_told_here", "_law_many_here"] λ_ _ _ _ _ _=>ln2 λ_ _=>rfl
 obtain⟨_,D60⟩:=q60.df X G ["_law_told_here", "_law_rows"] λ_ _ _ _ _ _=>ln2 λ_ _=>rfl
 refine⟨fnOf "law" "law" (Zbk sLaw) (Zbe sLaw) (Zaf sLaw) .none kV61 dc61 pm61 an61 cd61 ct61,λs v=>.of_eq rfl,λbase _ _=>?_⟩
 have M:Mc mg:=⟨⟨_,mg_of X G gW⟩,⟨_,mg_of X G gS⟩,⟨_,mg_of X G gN⟩,⟨_,mg_of X G gR⟩⟩
 have L:Cl K C:=⟨CC,nC_1,nC_2,nC_3,nC_4,nC_5,nC_6⟩
 have Gso:=ok_setof (P:=l.prog) (w:=w) (mg:=mg) (base:=base) D1.F
 have Gwo:=ok_worldsof (P:=l.prog) (w:=w) (base:=base) D2.F T
 have Gcm:=ok_checkmany (P:=l.prog) (w:=w) (base:=base) D11.F M
 have Gcn:=ok_checkname (P:=l.prog) (w:=w) (base:=base) D13.F T M
 have Gcp:=ok_checkprice (P:=l.prog) (w:=w) (base:=base) D14.F M
 have Gct:=ok_checktable (P:=l.prog) (w:=w) (base:=base) D15.F T
 have Gce:=ok_checkentry (P:=l.prog) (w:=w) (base:=base) D16.F T
 have Gcs:=ok_checksteps  D12.F T M ⟨D13,Gcn⟩ ⟨D14,Gcp⟩
 have Grl:=ok_readlooks  D18.F T ⟨D15,Gct⟩
 have Grd:=ok_readdeeds  D17.F T ⟨D15,Gct⟩ ⟨D16,Gce⟩ ⟨D1,Gso⟩
 have Gpa:=ok_parted  D19.F T ⟨D1,Gso⟩
 have Gdo:=ok_doable  D20.F T ⟨D1,Gso⟩
 have Gin:=ok_init  F62 L T D11 Gcm D12 Gcs D17 Grd D18 Grl D19 Gpa D20 Gdo
 have Gce':=ok_cell (P:=l.prog) (w:=w) (base:=base) D30.F T
 have GdD:=ok_drawD  D31.F ⟨D30,Gce'⟩
 have Gdr:=ok_draw GdD
 have Gsg:=ok_sign (P:=l.prog) (w:=w) (mg:=mg) (base:=base) D32.F
 have Gws:=ok_words  D33.F T ⟨D31,GdD⟩ ⟨D32,Gsg⟩
 have Gpr:=ok_price  D34.F ⟨D31,Gdr⟩ ⟨D30,Gce'⟩
 have Gen:=ok_entryD  D35.F T ⟨D31,Gdr⟩
 have Gtl:=ok_tellD  D37.F ⟨D31,Gdr⟩
 have Gmy:=ok_manyD  D44.F ⟨D31,Gdr⟩
 have Gst:=ok_setD  D39.F T ⟨D31,Gdr⟩
 have Gds:=ok_deedsD  D36.F T ⟨D33,Gws⟩ ⟨D31,Gdr⟩ ⟨D35,Gen⟩ ⟨D34,Gpr⟩
 have Glk:=ok_looksD  D38.F T ⟨D33,Gws⟩ ⟨D31,Gdr⟩ ⟨D37,Gtl⟩ ⟨D34,Gpr⟩
 have Ghe:=ok_held (P:=l.prog) (w:=w) (base:=base) D43.F T
 have Gcy:=ok_copied  D42.F ⟨D43,Ghe⟩
 have Gcd:=ok_checkdeed (P:=l.prog) (w:=w) (mg:=mg) (base:=base) F67 L
 have Gos:=ok_outsets  F64 L b67 m67 Gcd
 have Gck:=ok_checkstep (P:=l.prog) (w:=w) (mg:=mg) (base:=base) F69 L
 have Gdm:=ok_doableM  F66 L b69 m69 Gck
 have Glt:=ok_ledto  D10.F ⟨D2,Gwo⟩
 have Gwt:=ok_without (P:=l.prog) (w:=w) (mg:=mg) (base:=base) D5.F
 have Gls:=ok_leastof  D3.F T ⟨D2,Gwo⟩
 have Gwi:=ok_within (P:=l.prog) (w:=w) (mg:=mg) (base:=base) D4.F
 have Gcn':=ok_cando  D6.F L ⟨D4,Gwi⟩ b66 m66 Gdm
 have Gcc:=ok_checkcan  D9.F ⟨D6,Gcn'⟩
 have LE:ClE K CE:=⟨CCE,nCE_1,nCE_2,nCE_3⟩
 have LD:ClD K CD:=⟨CCD,nCD_1,nCD_2⟩
 have LL:ClL K CL:=⟨CCL,nCL_1,nCL_2⟩
 have IP:IsP K ⟨CS,CD,CL⟩:=⟨⟨hdCS,ngS,naS,nsp,ntk,nmS⟩,⟨hdCD,ngD,naD,nsp,ntk,nmD⟩,⟨hdCL,ngL,naL,nsp,ntk,nmL⟩,knSD,knSL,knDS,knDL,knLS,knLD⟩
 have mS:=mg_of X G aCS
 have mD:=mg_of X G aCD
 have mL:=mg_of X G aCL
 have Gaf:=ok_after  D7.F L b64 m64 Gos ⟨D9,Gcc⟩ ⟨D10,Glt⟩
 have Gcl:=ok_checklook (P:=l.prog) (w:=w) (mg:=mg) (base:=base) F68 L
 have Gas':=ok_answersets  F65 L b68 m68 Gcl
 have Gpt:=ok_parts  D8.F L b65 m65 Gas' ⟨D9,Gcc⟩
 have Gei:=ok_erinit (P:=l.prog) (w:=w) (mg:=mg) (base:=base) F70 LE
 have Gec:=ok_erchart (P:=l.prog) (w:=w) (mg:=mg) (base:=base) (C:=C) F71 LE
 have Geg:=ok_ergoal (P:=l.prog) (w:=w) (mg:=mg) (base:=base) (C:=C) F72 LE
 have Gek:=ok_erkeep (P:=l.prog) (w:=w) (mg:=mg) (base:=base) (C:=C) F73 LE
 have Gsgo:=ok_stopgo (P:=l.prog) (w:=w) (mg:=mg) (base:=base) F74
 have Gdi:=ok_doinit (P:=l.prog) (w:=w) (mg:=mg) (base:=base) F75 LD
 have Gdgo:=ok_dogo (P:=l.prog) (w:=w) (mg:=mg) (base:=base) F76 LD
 have Gcw:=ok_checkways (P:=l.prog) (w:=w) (base:=base) D22.F T
 have Glw:=ok_lkways (P:=l.prog) (w:=w) (base:=base) F78 LL T
 have Glgo:=ok_lkgo  F79 LL b78 m78 Glw
 have Gki:=ok_lkinit  F77 LL T ⟨D22,Gcw⟩
 have VGS:MV l.prog w K mg base CS "goes_on" 1 spStopGo:=⟨CCS,_,_,m74,Gsgo,b74⟩
 have VGD:MV l.prog w K mg base CD "goes_on" 1 (spDoGo CD):=⟨CCD,_,_,m76,Gdgo,b76⟩
 have VGL:MV l.prog w K mg base CL "goes_on" 2 (spLkWays CL):=⟨CCL,_,_,m79,Glgo,b79⟩
 have Gri:=ok_rowsin (P:=l.prog) (w:=w) (base:=base) (C:=⟨CS,CD,CL⟩) D21.F T VGS VGD VGL
 have Gcns:=ok_checknames  (C:=⟨CS,CD,CL⟩) D25.F T L IP LD LL mD mL b67 m67 Gcd b68 m68 Gcl
 have Glo:=ok_ledon  (C:=⟨CS,CD,CL⟩) D26.F T L IP LD LL mD ⟨D7,Gaf⟩ ⟨D8,Gpt⟩
 have Gaw:=ok_answered  (C:=⟨CS,CD,CL⟩) D29.F T L LL b78 m78 Glw b65 m65 Gas'
 have Gfa:=ok_faults  (C:=⟨CS,CD,CL⟩) D28.F T L LE IP LD LL mS mD mL b71 m71 Gec b73 m73 Gek b72 m72 Geg ⟨D5,Gwt⟩ b66 m66 Gdm ⟨D29,Gaw⟩
 have Gcr:=ok_checkrow  (C:=⟨CS,CD,CL⟩) D27.F T ⟨D28,Gfa⟩ ⟨D3,Gls⟩
 have Gwk:=ok_walked  (C:=⟨CS,CD,CL⟩) D23.F T LE b71 m71 Gec ⟨D21,Gri⟩ ⟨D25,Gcns⟩ ⟨D26,Glo⟩ ⟨D27,Gcr⟩
 have Gdoe:=ok_does  (C:=⟨CS,CD,CL⟩) D24.F D23 Gwk
 have Gwh:=ok_whole (P:=l.prog) (w:=w) (base:=base) D45.F T
 have Gli:=ok_listD (P:=l.prog) (w:=w) (base:=base) D40.F T
 have Gta:=ok_table (P:=l.prog) (w:=w) (mg:=mg) (base:=base) D41.F
 have Gpn:=Zk4 (P:=l.prog) (w:=w) (mg:=mg) (base:=base) (C:=⟨CS,CD,CL⟩) D47.F D47 ⟨mkCS,oS1,oS2,kcCS⟩ mS ⟨mkCD,m75.at_,m75.fn,kcCD⟩ mD b75 Gdi ⟨mkCL,m77.at_,m77.fn,kcCL⟩ mL b77 Gki
 have Gbh:=ok_behindL  D50.F ⟨D40,Gli⟩ ⟨D41,Gta⟩
 have Gpl:=ok_partL  D51.F T ⟨D40,Gli⟩ ⟨D41,Gta⟩
 have Gwy:=ok_waysL (P:=l.prog) (w:=w) (mg:=mg) (base:=base) D48.F
 have Gwhy:=ok_whyL  D49.F ⟨D41,Gta⟩ ⟨D48,Gwy⟩
 have Gwl:=Zk3 (P:=l.prog) (w:=w) (base:=base) D52.F T D52 D40 Gli D49 Gwhy D50 Gbh D51 Gpl
 have Gee:=Zk6 (P:=l.prog) (w:=w) (base:=base) D56.F D56 D50 Gbh D51 Gpl
 have Gal:=ok_allrows  (n:=5) (by decide) D57.F ⟨D52,(Gwl 5)⟩
 have Gdp:=ok_deep  D46.F ⟨D30,Gce'⟩
 have Gca:=ok_lcan  D53.F ⟨D40,Gli⟩
 have Ggr:=Zk5 (P:=l.prog) (w:=w) (base:=base) D54.F T D54 (λn G=>ok_gways (P:=l.prog) (w:=w) (base:=base) D55.F T ⟨D40,Gli⟩ ⟨D46,Gdp⟩ D51 Gpl ⟨D54,G⟩) D55 D46 Gdp D53 Gca D50 Gbh D41 Gta
 have Gss:=ok_lsets  D60.F T ⟨D45,Gwh⟩
 have Gsz:=ok_size (P:=l.prog) (w:=w) (mg:=mg) (base:=base) F63 L
 have Ger0:=ok_erinitN  F70 L LE T ⟨D1,Gso⟩ b63 m63 Gsz
 have bN:=F70.bindsD3 (ps:=["self", "chart", "goal", "keep"]) (d:=.none) rfl lTD λ_ _ _ _ _ _ _ _ _=>⟨_,rfl,rfl⟩
 have Ger:=ok_errand39  D58.F ⟨mkCE,a70,i70,kcCE⟩ (mg_of X G aCE) b70 Gei bN Ger0 ⟨D31,Gdr⟩ ⟨D39,Gst⟩
 have Gie:=ok_iserr  D59.F L LE ⟨D45,Gwh⟩ b71 m71 Gec b73 m73 Gek b72 m72 Geg b63 m63 Gsz
 exact ok_law (C:=⟨CS,CD,CL⟩) F61 T ⟨mkC,m62.at_,m62.fn,kcC⟩ (mg_of X G aC) b62 Gin ⟨D42,Gcy⟩ ⟨D44,Gmy⟩ ⟨D36,Gds⟩ ⟨D38,Glk⟩ ⟨D39,Gst⟩ D31 Gdr D54 (Ggr 5) ⟨D56,(Gee 5)⟩ ⟨D52,(Gwl 5)⟩ ⟨D57,Gal⟩ ⟨D47,(Gpn 5)⟩ ⟨D24,Gdoe⟩ ⟨D23,Gwk⟩ ⟨D60,Gss⟩ ⟨D58,Ger⟩ ⟨D59,Gie⟩
theorem walk {l:PySem.W.OpenLaw}{q:Program}{loose:List Str}{XP:(Str->Option Value)->Heap->Prop}{YP:World->Heap->Prop}{d:DefRec}{K:Params->W.Frag}(hn:l.most=some 63)(hdf:d.params.defaults=[])
  (hY:∀(w:World) (h:Heap),YP w h->(K w.params).In h)
  (F:∀(w:World) (mg:Str->Option Value) (fa:Addr) (h:Heap),(K w.params).In h->h.Ns mainGlobals mg->mg d.name=some (.ref fa) ->
   ∃fd:FuncData,(∀(s:Shared) (u:Value),BindsTo s fd ⟨[u],[]⟩ [("_law_script",u)])/\∀base:Heap,(K w.params).In base->base.Ns mainGlobals mg->FnOk l.prog w (K w.params) mg base CX0 31 fa fd ["_law_script"] (spLaw (K w.params))) :
  PySem.W.WalkO q loose XP YP l.row.toRowW d [] (λf vs=>PySem.call f vs):=
 L2.walk_of (n:=63) (k:=31) (x := "_law_script") (CX:=λ_=>CX0) (sp:=λw=>spLaw (K w.params)) hn (by decide) hdf ⟨rfl,by decide,by decide⟩ hY F (λ_ _ a ns hl _ hS=>⟨a,ns,rfl,hS,hl,λ_=>rfl⟩) λ_ _ _ _ _ z=>z
end K39
namespace PySem.W.Fast
/-- names that are taken: the twins that would have them are made for the walk alone,and it goes without them as well -/
def tw11169006794437807739:=0
def tw18381520737863416448:=0
def tw18050398893756555356:=0
def tw2354703893303988069:=0
def tw14658158019449523642:=0
def tw7917967548854086167:=0
def tw17864677878450082627:=0
def tw16474143445428954853:=0
def tw3102781876959620104:=0
def tw9668101902884842644:=0
def tw3249622883991746866:=0
def tw10762845160293469917:=0
def tw16401163831979391585:=0
def tw3233111565190214552:=0
def tw1081293160511288729:=0
def tw9192831945271460393:=0
def tw7276364392656144491:=0
def tw1377178437607694676:=0
def tw17559539665376088360:=0
def tw10467509863829272140:=0
def tw2251037539631058207:=0
def tw2812996974679162357:=0
def tw9441969567316280390:=0
def tw1261153247017838646:=0
def tw1247419979381441238:=0
def tw4850475791947059891:=0
def tw17291690464830705443:=0
def tw1951530034603626236:=0
def tw7987067624540991693:=0
def tw16606580500359200374:=0
def tw16998877461412253342:=0
def tw13249598107178159029:=0
def tw10656377116751678857:=0
def tw8865461855713383664:=0
def tw5381647522712579919:=0
def tw10568955257249272473:=0
def tw17332698441824965525:=0
def tw9505439604125777552:=0
def tw8114147670400041123:=0
def tw1309864109805640646:=0
def tw15486850730423103313:=0
def tw16684169365300398486:=0
def tw3781595596840539467:=0
def tw14702551025922754173:=0
def tw1988061261263410532:=0
def tw13851813779359186796:=0
def tw6601194596605930883:=0
def tw11026539568920451518:=0
def tw10318251641101712693:=0
def tw14382084382796986552:=0
def tw10248468178702039799:=0
def tw8871217997033482886:=0
def tw14966718575216702766:=0
def tw7386958998084371446:=0
def tw15375431814913928581:=0
def tw14087742013617450784:=0
def tw15788066462864308627:=0
def tw5612470460527852840:=0
def tw15369628584815807359:=0
def tw1319742918577813564:=0
def tw1295666786331278712:=0
def tw18162209521560475028:=0
def tw13511891948686942334:=0
def tw2957608300795736689:=0
def tw13637094834582836003:=0
def tw17249419806384180448:=0
end PySem.W.Fast
open PySem PySem.W PyProof.Rows
set_option maxRecDepth 100000 in
set_option maxHeartbeats 0 in
theorem PySem.Challenge.cw_grope_k39_walked_holds : PySem.Challenge.rw_grope_k39_walked.Holds := by
 w_on;o_law;k_head;(case hw=>w_witness2)
 k_fill
 refine K39.walk (l:=PySem.Challenge.rw_grope_k39_walked) rfl rfl (λw h Y=>PySem.W.km_in_of Y) ?F
 case F=>
  intro w mg fa h KX G hmg
  refine' K39.all_mk KX G hmg ?q1 ?q2 ?q3 ?q4 ?q5 ?q6 ?q7 ?q8 ?q9 ?q10 ?q11 ?q12 ?q13 ?q14 ?q15 ?q16 ?q17 ?q18 ?q19 ?q20 ?q21 ?q22 ?q23 ?q24 ?q25 ?q26 ?q27 ?q28 ?q29 ?q30 ?q31 ?q32 ?q33 ?q34 ?q35 ?q36 ?q37 ?q38 ?q39 ?q40 ?q41 ?q42 ?q43 ?q44 ?q45 ?q46 ?q47 ?q48 ?q49 ?q50 ?q51 ?q52 ?q53 ?q54 ?q55 ?q56 ?q57 ?q58 ?q59 ?q60 ?a61 ?l61 ?c61 ?k61 ?aC ?pgC ?hdC ?poC ?saC ?mkC ?kcC ?nC_1 ?nC_2 ?nC_3 ?nC_4 ?nC_5 ?nC_6 ?aCE ?pgCE ?hdCE ?poCE ?saCE ?mkCE ?kcCE ?nCE_1 ?nCE_2 ?nCE_3 ?aCP ?pgCP ?hdCP ?poCP ?saCP ?mkCP ?kcCP ?aCS ?pgCS ?hdCS ?poCS ?saCS ?mkCS ?kcCS ?aCD ?pgCD ?hdCD ?poCD ?saCD ?mkCD ?kcCD ?nCD_1 ?nCD_2 ?aCL ?pgCL ?hdCL ?poCL ?saCL ?mkCL ?kcCL ?nCL_1 ?nCL_2 ?q62 ?q63 ?q64 ?q65 ?q66 ?q67 ?q68 ?q69 ?a70 ?i70 ?l70 ?c70 ?k70 ?q71 ?q72 ?q73 ?q74 ?q75 ?q76 ?q77 ?q78 ?q79 ?gW ?vW ?gS ?vS ?gN ?vN ?gR ?vR ?oS1 ?oS2 ?ngS ?naS ?nmS ?ngD ?naD ?nmD ?ngL ?naL ?nmL ?nsp ?ntk ?knSD ?knSL ?knDS ?knDL ?knLS ?knLD ?lTD ?z1 ?z2 ?z3 ?z4 ?z5 ?z6 ?z7 ?z8 ?z9 ?z10 ?z11 ?z12 ?z13 ?z14 ?z15 ?z16 ?z17 ?z18 ?z19
  all_goals (try unfold K39.nA)
  all_goals (try unfold K39.lK)
  case q1|q2|q3|q4|q5|q6|q7|q8|q9|q10|q11|q12|q13|q14|q15|q16|q17|q18|q19|q20|q21|q22|q23|q24|q25|q26|q27|q28|q29|q30|q31|q32|q33|q34|q35|q36|q37|q38|q39|q40|q41|q42|q43|q44|q45|q46|q47|q48|q49|q50|q51|q52|q53|q54|q55|q56|q57|q58|q59|q60=>refine' .mk ?a ?l ?c ?k;case a | l | c | k=>k_is
  case a61|l61|c61|k61|aC|pgC|hdC|poC|saC|mkC|kcC|nC_1|nC_2|nC_3|nC_4|nC_5|nC_6|aCE|pgCE|hdCE|poCE|saCE|mkCE|kcCE|nCE_1|nCE_2|nCE_3|aCP|pgCP|hdCP|poCP|saCP|mkCP|kcCP|aCS|pgCS|hdCS|poCS|saCS|mkCS|kcCS|aCD|pgCD|hdCD|poCD|saCD|mkCD|kcCD|nCD_1|nCD_2|aCL|pgCL|hdCL|poCL|saCL|mkCL|kcCL|nCL_1|nCL_2=>k_is
  case q62|q63|q64|q65|q66|q67|q68|q69=>refine' .mk ?a ?i ?l ?c ?k;case a | i | l | c | k=>k_is
  case a70|i70|l70|c70|k70=>k_is
  case q71|q72|q73|q74|q75|q76|q77|q78|q79=>refine' .mk ?a ?i ?l ?c ?k;case a | i | l | c | k=>k_is
  (case gW=>k_is)
  (case vW=>first | rfl | decide +kernel | k_is)
  (case gS=>k_is)
  (case vS=>first | rfl | decide +kernel | k_is)
  (case gN=>k_is)
  (case vN=>first | rfl | decide +kernel | k_is)
  (case gR=>k_is)
  (case vR=>first | rfl | decide +kernel | k_is)
  case oS1|oS2|ngS|naS|nmS|ngD|naD|nmD|ngL|naL|nmL|nsp|ntk=>k_is
  case knSD|knSL|knDS|knDL|knLS|knLD=>kin_no
  case lTD|z1|z2|z3|z4|z5|z6|z7|z8|z9|z10|z11|z12|z13|z14|z15|z16|z17|z18|z19=>k_is
#print axioms PySem.Challenge.cw_grope_k39_walked_holds
