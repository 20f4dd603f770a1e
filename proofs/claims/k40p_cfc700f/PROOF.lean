import PyProof.Rows.All
import Wide.All
import OpenK.AllK
import Wide.FinOn
import Lean
import PyProof.EqAt
import PyProof.EqKinds
import PyProof.TupleCall
import PySem.Challenge.RW_grope_k40_astray
set_option Elab.async false
set_option linter.all false
set_option maxRecDepth 100000
set_option maxHeartbeats 4000000
open Nat (lt_irrefl ne_of_lt le_of_lt le_of_eq lt_trans le_of_not_lt mod_lt testBit_two_pow pow_lt_pow_right le_succ_of_le)
open List (mem_cons_self replicate getElem?_take_of_lt length_nil map_nil nodup_nil pairwise_iff_getElem append_assoc ext_getElem not_lt perm_ext_iff_of_nodup map_congr_left length_drop)
open Option (isSome_iff_exists map_some isSome_map isSome)

open Int (one_mul ofNat)
noncomputable section
def Ad:=@PySem.wpAny_bind
def AN:=@List.getElem?_eq_some_iff
def AG:=@PySem.Heap.get?_push_of_some
def AC:=@List.getElem?_eq_getElem
def Al:=@List.length_map
def Am:=@Nat.le_refl
def An:=@PySem.wpAny_pure
def AF:=@PySem.Heap.lt_size
def A7:=@PySem.Heap.get?_push_size
def AQ:=@List.mem_singleton
def BK:=@List.take_succ_eq_append_getElem
def AR:=@List.length_append
def AL:=@PySem.sizeLine_eq
def AV:=@List.getElem?_map
def Ao:=@if_neg
def A1:=@Int.toNat_natCast
def AX:=@List.map_append
def Bb:=@decide_eq_true
def Bn:=@List.mem_cons_of_mem
def AK:=@List.mem_cons
def BF:=@of_decide_eq_true
def Bt:=@List.mem_of_getElem?
def AE:=@List.mem_map
def Bo:=@List.mem_cons_self
def A5:=@List.mem_append
def AB:=@if_pos
def Ci:=@List.getElem?_append_right
def BJ:=@Nat.lt_of_lt_of_le
def B5:=@Bool.false_ne_true
def AY:=@Nat.ne_of_lt
def Cr:=@List.getElem?_append_left
def CJ:=@List.getD_eq_getElem?_getD
def Bx:=@List.size_toArray
def BS:=@Option.some.inj
def Bq:=@List.take_length
def Bw:=@List.not_mem_nil
def B4:=@PySem.PassesOwn.never
def Dy:=@PySem.F.slot_list_append
def Dx:=@PySem.F.plainAttrs_list
def CI:=@decide_eq_true_eq
def DN:=@PySem.F.type_list_append
def Cg:=@decide_eq_false
def BI:=@PySem.wpAny_mono
def BO:=@List.length_take
def CH:=@Option.map_eq_some_iff
def BZ:=@List.nodup_append
def Dm:=@PySem.F.called_set
def CT:=@Bool.eq_iff_iff
def CG:=@PySem.boot_len
def EU:=@List.mem_of_find?_eq_some
def C8:=@List.mem_append_right
def Bv:=@or_false
def BR:=@List.append_nil
def DM:=@Array.length_toList
def Bk:=@Nat.zero_le
def B8:=@Bool.and_eq_true
def ET:=@Array.getElem?_toList
def BC:=@List.map_map
def FM:=@Array.getElem?_eq_getElem
def CF:=@List.length_cons
def Jb:=@PyProof.Rows.F.plain_set_update_loop
def DL:=@List.getElem?_of_mem
def CQ:=@List.getElem_mem
def BV:=@Nat.le_trans
def BU:=@List.map_cons
def Dl:=@PySem.wpAny_holding
def Ee:=@Nat.eq_of_testBit_eq
def BY:=@congrArg
def CB:=@List.find?_cons
def Gi:=@PySem.F.excBase_ValueError
def Ec:=@List.mem_append_left
def Ex:=@Nat.succ_le_succ
def CO:=@PySem.W.mg_none_of
def Eb:=@PySem.Heap.size_push
def C4:=@List.mem_filter
def Fj:=@PySem.wpAny_Call_Name_kw
def FL:=@PySem.Around.under_plainId
def Dw:=@List.length_range
def Ew:=@Int.toNat_of_nonneg
def Fi:=@PySem.wpAny_truthy_bool
def ES:=@PySem.codeAny_builtin
def Ja:=@PyProof.Rows.callWith_type1
def FK:=@PySem.wpAny_setField_rec
def Fh:=@List.length_singleton
def Fg:=@PySem.wpAny_call_entry
def Ea:=@PySem.codeAny_mono
def Eu:=@List.filter_append
def DK:=@List.any_eq_true
def C7:=@Nat.lt_irrefl
def FJ:=@PySem.wpAny_loadPart_at
def G5:=@PySem.Heap.get?_update_self
def NW:=@PyProof.Rows.F.entry_set_update_loop
def DZ:=@Nat.testBit_and
def Dv:=@List.take_zero
def G4:=@beq_eq_false_iff_ne
def G3:=@PySem.Heap.SameBut.update
def Et:=@Sum.inr.inj
def Es:=@Nat.two_pow_pos
def Ff:=@Nat.lt_succ_of_lt
def Dk:=@Nat.ne_of_gt
def Gq:=@List.getElem?_eq_none
def Gp:=@Nat.pow_le_pow_right
def Gn:=@List.length_filter_le
def DO:=@List.mem_range
def FR:=@List.filterMap_cons
def FQ:=@Nat.lt_of_le_of_lt
def Js:=@PySem.builtinLookup_eq_fast
def Jr:=@Nat.lt_pow_two_of_testBit
def EB:=@beq_iff_eq
def EA:=@True.intro
def Fo:=@Nat.lt_succ_self
def Ez:=@PySem.wpAny_call
def Ey:=@List.nodup_cons
def Jq:=@PySem.codeAny_call_builtin
def Fn:=@List.append_assoc
def Oz:=@List.Nodup.length_le_of_subset
def Hi:=@PySem.wpAny_newObj_type
def FP:=@PySem.plainId_quiet
def LZ:=@PySem.Heap.get?_update_other
def LY:=@Array.getElem?_eq_none
def Jp:=@PySem.W.callWith_K
def FO:=@Nat.zero_testBit
def Jo:=@List.find?_eq_none
def DB:=@Ne.symm
def Hh:=@PySem.wpAny_passesOwn
def Gm:=@Bool.false_eq_true
def Oy:=@PySem.F.slot_tuple_iterator_next
def Ox:=@Array.getElem?_eq_some_iff
def Jn:=@PySem.wpAny_pyIter_list
def Ow:=@PySem.AutoSeq1.wpAny_loadPart'
def LX:=@PySem.mem_of_lookup
def R3:=@PySem.plainObj_wpAny_Assign_Attribute
def Ov:=@PySem.wpAny_callSpecial?_slot
def Ou:=@PySem.F.slot_dict_items
def Ef:=@Nat.le_succ
def Jm:=@PySem.wpAny_execs_nil
def LW:=@PySem.tupleKind_room_in1
def Jl:=@PySem.typeLookup_type
def LV:=@List.Sublist.nodup
def Jk:=@List.mem_of_mem_take
def Jj:=@Nat.le_add_left
def Ji:=@Nat.and_le_left
def Ot:=@PySem.Calls.callWith_builtin
def Gk:=@List.lookup_cons
def LU:=@PySem.wpAny_setState_of
def LS:=@List.reverse_cons
def LR:=@List.filter_eq_nil_iff
def LQ:=@List.take_of_length_le
def Hg:=@List.any_eq_false
def Os:=@PySem.W.methodCall_KW
def Hf:=@List.take_sublist
def Jh:=@PySem.wpAny_seqItems
def Oq:=@Classical.choose_spec
def Dz:=@PySem.W.mg_of
def LO:=@beq_self_eq_true
def LN:=@Array.toList_inj
def LK:=@PySem.wpAny_askSetting
def He:=@List.all_eq_true
def Oo:=@List.length_reverse
def On:=@List.flatMap_append
def LJ:=@Nat.not_lt_zero
def R1:=@PySem.Calls.call_function_entry
def RZ:=@List.getElem?_zip_eq_some
def Om:=@PySem.wpAny_pyIter_tuple
def Ol:=@PySem.Calls.spliced_cons
def Oj:=@PySem.Code.quiet_builtin
def Jg:=@Bool.not_eq_true'
def Oi:=@List.length_eq_zero_iff
def Jf:=@PySem.wpAny_typeOf
def RY:=@PySem.F.slot_list_getattribute
def Oh:=@Nat.testBit_lt_two_pow
def LI:=@PyProof.Rows.joinParts_cons
def LH:=@List.Perm.refl
def VS:=@PySem.F.slot_dict_itemiterator_iter
def Hd:=@List.foldl_cons
def Hc:=@List.range_succ
def RX:=@PySem.F.plainAttrs_dict
def RW:=@Nat.add_sub_cancel_left
def Og:=@Option.some.injEq
def RU:=@List.getElem?_set_self
def RT:=@PyProof.Rows.subscriptTail_builtinR
def Je:=@Int.emod_nonneg
def LG:=@List.mem_filterMap
def LF:=@List.pairwise_cons
def Of:=@PySem.wpAny_execs_cons
def Oe:=@PySem.W.looks_findIn
def Od:=@List.length_replicate
def Gj:=@Nat.lt_or_ge
def Oc:=@List.filter_cons
def LC:=@PySem.W.hideAll_get
def FN:=@if_true
def RS:=@PySem.F.slot_dict_get
def RQ:=@PySem.codeAny_handlers_test
def Hb:=@List.take_succ
def RP:=@List.take_append_drop
def RO:=@PySem.Heap.get?_none_of_le
def RN:=@List.getElem?_set_ne
def VR:=@PyProof.Rows.callWith_builtin1
def RM:=@PySem.Calls.evalArgs_plain
def Ob:=@PySem.wpAny_specialOf
def Fm:=@Or.inr
def Oa:=@PySem.codeAny_of_tree
def Fk:=@not_or
def LB:=@Nat.zero_add
def RK:=@PySem.wpAny_pyIter_revIter
def Jd:=@Nat.testBit_or
def LA:=@List.pairwise_map
def Lz:=@List.filter_congr
def RJ:=@List.reverse_reverse
def N9:=@List.find?_some
def RI:=@PySem.W.plainGet_of
def RH:=@PySem.W.callWith_K0
def RG:=@PySem.wpAny_setEntries_of
def RF:=@List.mem_map_of_mem
def RE:=@PySem.F.plain_extend_loop
def RD:=@List.toList_toArray
def RC:=@PySem.wpAny_isSubtype_exc
def RB:=@PySem.wpAny_handleBy_cons
def RA:=@Nat.mul_le_mul_left
def G9:=@Nat.le_of_lt
def G8:=@if_false
def G7:=@List.any_cons
def G6:=@Nat.lt_trans
def VQ:=@PySem.SeqAt.compareEq_shaped
def N8:=@PySem.isSubtype_type
def N7:=@Int.emod_lt_of_pos
def Ly:=@List.getElem_inj
def Lw:=@PySem.wpAny_field
def Lv:=@PySem.W.looks_subIn
def Ry:=@List.getElem?_replicate
def Rx:=@List.contains_cons
def VP:=@PySem.F.slot_int_bit_length
def VO:=@PySem.F.type_int_bit_length
def N6:=@PySem.Paired.length
def N5:=@PySem.W.looks_clsIn
def N4:=@Bool.false_or
def N3:=@PySem.wpAny_standAt
def VN:=@PySem.F.sub_list_frozenset
def VM:=@List.length_eraseIdx_of_lt
def N2:=@PySem.wpAny_newList
def VL:=@PySem.F.excAttr_ValueError
def Rv:=@PySem.Calls.spliced_nil
def Ru:=@List.Pairwise.nil
def Rt:=@List.pairwise_lt_range
def Rq:=@bne_self_eq_false
def Ro:=@PySem.wpAny_pyIter_slot
def Rn:=@List.foldl_append
def Rm:=@List.Pairwise.imp
def Rl:=@List.flatMap_cons
def Rj:=@Nat.or_lt_two_pow
def Lu:=@List.of_mem_zip
def Ls:=@PySem.wpAny_rule
def VJ:=@PySem.F.args_dict_items_1
def VI:=@Decidable.byContradiction
def N1:=@PySem.call_meetsIn
def Rh:=@List.getElem?_toArray
def NZ:=@PySem.wpAny_landsW
def Jc:=@List.map_take
def NY:=@Int.zero_add
def Rg:=@List.flatMap_nil
def NX:=@Nat.add_zero
def Rf:=@PySem.Within.cons
def Re:=@Bool.and_false
namespace L2
open PySem PySem.Spec PyProof.Rows
abbrev Ag:=Sum Int Str
def DY:Ag->Value->Bool
 | .inl k,v=>Value.isInt k v
 | .inr x,v=>Value.isStrOf x v
def jM (w:World):Ag->Int
 | .inl k=>hashInt k
 | .inr x=>hashStr w x
theorem Di:∀{k:Ag}{v:Value},DY k v=true->(∃i t,k=Sum.inl i/\v=Value.int i t)\/(∃x t,k=Sum.inr x/\v=Value.str x t)
 | .inl i,v,h=>by obtain⟨t,e⟩:=Value.isInt_shape (k:=i) (v:=v) h;exact .inl ⟨i,t,rfl,e⟩
 | .inr x,v,h=>by obtain⟨t,e⟩:=Value.isStrOf_shape (x:=x) (v:=v) h;exact .inr ⟨x,t,rfl,e⟩
def jL (i:Int)(t:Tok):DY (.inl i) (.int i t)=true:=by simp[DY,Value.isInt]
def jK (x:Str)(t:Tok):DY (.inr x) (.str x t)=true:=by simp[DY,Value.isStrOf]
def jJ (a b:Int):decide ((Sum.inl a:Ag)=Sum.inl b)=(a == b):=by
 by_cases e:a=b
 ·subst e;simp
 have h:¬(Sum.inl a:Ag)=Sum.inl b:=λq=>e (Sum.inl.inj q);rw[Cg h];exact(G4.mpr e).symm
def jG (a b:Str):decide ((Sum.inr a:Ag)=Sum.inr b)=decide (a=b):=by
 by_cases e:a=b
 ·subst e;simp
 have h:¬(Sum.inr a:Ag)=Sum.inr b:=λq=>e (Et q);rw[Cg h,Cg e]
def jI (a:Int)(b:Str):decide ((Sum.inl a:Ag)=Sum.inr b)=false:=Cg (λq=>nomatch q)
def jH (a:Str)(b:Int):decide ((Sum.inr a:Ag)=Sum.inl b)=false:=Cg (λq=>nomatch q)
def BB (prog:Program)(w:World):PySem.KeyKind prog w Ag where
 is:=DY
 hash:=jM w
 inj:=λv a b ha hb=>by
  rcases Di ha with⟨i,t,rfl,rfl⟩ | ⟨x,t,rfl,rfl⟩
  ·rcases Di hb with⟨j,u,rfl,e⟩ | ⟨y,u,rfl,e⟩
   ·injection e with e1 _;rw[e1]
   exact nomatch e
  rcases Di hb with⟨j,u,rfl,e⟩ | ⟨y,u,rfl,e⟩
  ·exact nomatch e
  injection e with e1 _;rw[e1]
 byValue:=λk v h=>by rcases Di h with⟨i,t,rfl,rfl⟩ | ⟨x,t,rfl,rfl⟩ <;> rfl
 pyHash:=λhv h=>by
  rcases Di hv with⟨i,t,rfl,rfl⟩ | ⟨x,t,rfl,rfl⟩
  ·exact wpAny_pyHash_int h
  exact wpAny_pyHash_str h
 eqBool:=λhu hv h=>by
  rcases Di hu with⟨i,t,rfl,rfl⟩ | ⟨x,t,rfl,rfl⟩
  ·rcases Di hv with⟨j,u,rfl,rfl⟩ | ⟨y,u,rfl,rfl⟩
   ·rw[jJ]at h;exact wpAny_eqBool_int h
   rw[jI]at h;exact SeqAt.EqAt.int_str i t y u _ _ _ _ h
  rcases Di hv with⟨j,u,rfl,rfl⟩ | ⟨y,u,rfl,rfl⟩
  ·rw[jH]at h;exact SeqAt.EqAt.str_int x t j u _ _ _ _ h
  rw[jG]at h;exact wpAny_eqBool_str h
 «strs»:=λk x t v h=>by
  rcases Di h with⟨i,u,rfl,e⟩ | ⟨y,u,rfl,e⟩
  ·exact nomatch e
  injection e with e1 _;subst e1;cases v <;> rfl
def iE (prog:Program)(w:World)(i:Int)(t:Tok):(BB prog w).is (.inl i) (.int i t)=true:=jL i t
def iD (prog:Program)(w:World)(x:Str)(t:Tok):(BB prog w).is (.inr x) (.str x t)=true:=jK x t
inductive V where
 | non | bl (b:Bool) | int (i:Int) | str (x:Str) | byt (b:Array UInt8) | flt (b:UInt64) | ref (a:Addr) | ty (n:String)
 deriving DecidableEq
def RelV:V->Value->Prop
 | .non,u=>u=Value.none
 | .bl b,u=>u=Value.bool b
 | .int i,u=>∃t,u=Value.int i t
 | .str x,u=>∃t,u=Value.str x t
 | .byt b,u=>∃t,u=Value.bytes b t
 | .flt b,u=>∃t,u=Value.float b t
 | .ref a,u=>u=Value.ref a
 | .ty n,u=>u=Value.type n
abbrev Vals:List V->List Value->Prop:=Paired RelV
def Vals.length (r:Vals xs us):xs.length=us.length:=N6 r
theorem Vals.get:∀{xs:List V}{us:List Value}{i:Nat}{x:V},Vals xs us->xs[i]? = some x->∃u,us[i]? = some u/\RelV x u
 | _,_,_,_,.nil,e=>by simp at e
 | _,_,0,_,.cons r _,e=>by simp at e;subst e;exact⟨_,rfl,r⟩
 | _,_,i+1,x,.cons _ t,e=>by obtain⟨u,h1,h2⟩:=Vals.get (i:=i) (x:=x) t (by simpa using e);exact⟨u,by simpa using h1,h2⟩
theorem Vals.append:∀{xs ys:List V}{us ws:List Value},Vals xs us->Vals ys ws->Vals (xs++ys) (us++ws)
 | _,_,_,_,.nil,s=>s
 | _,_,_,_,.cons r t,s=>.cons r (Vals.append t s)
theorem Vals.take:∀{xs:List V}{us:List Value}(n:Nat),Vals xs us->Vals (xs.take n) (us.take n)
 | _,_,0,_=>.nil
 | _,_,_+1,.nil=>.nil
 | _,_,n+1,.cons r t=>.cons r (Vals.take n t)
theorem Vals.drop:∀{xs:List V}{us:List Value}(n:Nat),Vals xs us->Vals (xs.drop n) (us.drop n)
 | _,_,0,r=>r
 | _,_,_+1,.nil=>.nil
 | _,_,n+1,.cons _ t=>Vals.drop n t
def RelO:Option V->Option Value->Prop
 | some v,some u=>RelV v u
 | none,none=>True
 | _,_=>False
def KV {κ:Type}:List (κ×V)->List (κ×Value)->Prop:=Paired λ(p:κ×V) (q:κ×Value)=>p.1=q.1/\RelV p.2 q.2
def kV:Ag->V
 | .inl i=>.int i
 | .inr x=>.str x
inductive HO where
 /-- a list -/
 | lst (xs:List V)
 /-- a tuple (never changes) -/
 | tup (xs:List V)
 /-- a dict whose keys are ints and texts;one whose keys are tuples of ints and texts (the empty one is both) -/
 | dK (kvs:List (Ag×V)) | dT (kvs:List (List Ag×V))
 /-- a set of ints: its members,its size -/
 | set (S:Int->Bool) (n:Nat)
 /-- an instance of the class at C,its dict at dx,its attributes -/
 | ins (C dx:Addr) (fs:List (Str×V))
 /-- the dict of the instance at x -/
 | own (x:Addr)
 /-- the dict of an exception -/
 | xd (fs:List (Str×V))
 /-- a bound method,f of x -/
 | met (f x:Addr)
 /-- a range object lo,lo+1,.. below hi -/
 | rng (lo hi:Int)
 /-- a thing that is known to the object (the script;a dict while a loop Sl it): read,never written while it is so -/
 | frz (o:Obj) (u:HO)
 /-- a code object's table -/
 | tbl (ps:Array Value)
 /-- any other thing,by what is true of its one object (a def of one's own: SetO a S n:=HO.ext λh=>..) -/
 | ext (φ:Heap->Prop)
abbrev Hp:=Addr->Option HO
def upd (H:Hp)(a:Addr)(o:HO):Hp:=λb=>if b=a then some o else H b
def Ae :upd H a o a=some o:=by unfold upd;rw[AB rfl]
def Aj (h:b≠a):upd H a o b=H b:=by unfold upd;rw[Ao h]
def Bg {H:Hp}{a b:Addr}{o u:HO}(h:H a=some o)(h':H b=some u)(d:o≠u):a≠b:=by intro e;subst e;rw[h]at h';exact d (BS h')
def AM {H:Hp}{a b:Addr}{o:HO}(h:H a=some o)(h':H b=none):a≠b:=by intro e;subst e;rw[h]at h';cases h'
section
variable (P:Program) (w:World)
def ObjOk (H:Hp)(h:Heap)(a:Addr):HO->Prop
 | .lst xs=>xs.length<=sizeLine/\∃(its:List Value) (n:Nat),Vals xs its/\h.get? a=some { cls:=.type "list",data:=.seq its.toArray n }
 | .tup xs=>xs.length<=sizeLine/\∃its:List Value,Vals xs its/\IsTup h a its.toArray
 | .dK kvs=>kvs.length<=sizeLine/\(a == sysModules)=false/\∃vs,KV kvs vs/\h.DictOf (BB P w) a vs
 | .dT kvs=>kvs.length<=sizeLine/\(a == sysModules)=false/\∃xs:List (List Ag×Addr×Value),
   Paired (λ(p:List Ag×V) (q:List Ag×Addr×Value)=>p.1=q.1/\H q.2.1=some (.tup (p.1.map kV))/\RelV p.2 q.2.2) kvs xs /\
   ∃o es ep,h.get? a=some o/\o.ExactDict/\o.data=.dict es ep/\es.toList=xs.map (entryOfKey (tupleKind (BB P w)))/\(xs.map (·.1)).Nodup
 | .set S n=>h.SetOf (intKind P w) a S n
 | .ins C dx fs=>H dx=some (.own a)/\fs.length<=1000/\dx≠a/\h.get? a=some (PySem.W.instObj C dx) /\
   ∃mA,h.Ns1 dx mA/\(∀f,RelO (fs.lookup f) (mA f))/\PySem.Within mA (fs.map (·.1))
 | .own _=>∃o,h.get? a=some o
 | .xd fs=>∃mA,h.Ns1 a mA/\∀f,RelO (fs.lookup f) (mA f)
 | .rng lo hi=>∃t u v,h.get? a=some { cls:=.type "range",data:=.fields #[.int lo t,.int hi u,.int 1 v] }
 | .frz o u=>h.get? a=some o/\ObjOk H h a u
 | .tbl ps=>h.get? a=some { cls:=.none,data:=.fields ps }
 | .met f x=>h.get? a=some (PySem.W.methodObj (.ref f) (.ref x))
 | .ext φ=>φ h/\(∃o,h.get? a=some o)/\∀h1 h2:Heap,φ h1->(∀o,h1.get? a=some o->h2.get? a=some o)->φ h2
def HOk (H:Hp)(h:Heap):Prop:=∀a o,H a=some o->ObjOk P w H h a o
end
section
variable {P:Program}{w:World}{H H':Hp}{h h':Heap}{a:Addr}{o:HO}
def ObjOk.lt (x:ObjOk P w H h a o):a<h.objs.size:=by
 cases o with
 | lst xs=>obtain⟨_,_,_,_,e⟩:=x;exact AF e
 | tup xs=>obtain⟨_,_,_,p⟩:=x;exact p.lt
 | dK kvs=>obtain⟨_,_,_,_,o,_,_,e,_⟩:=x;exact AF e
 | dT kvs=>obtain⟨_,_,_,_,o,_,_,e,_⟩:=x;exact AF e
 | set S n=>obtain⟨o,_,_,_,e,_⟩:=x;exact AF e
 | ins C dx fs=>obtain⟨_,_,_,e,_⟩:=x;exact AF e
 | own y=>obtain⟨_,e⟩:=x;exact AF e
 | xd fs=>obtain⟨_,⟨_,_,_,e,_⟩,_⟩:=x;exact AF e
 | rng lo hi=>obtain⟨_,_,_,e⟩:=x;exact AF e
 | frz ob u=>obtain⟨e,_⟩:=x;exact AF e
 | tbl ps=>exact AF (show h.get? a=some _ from x)
 | met f y=>exact AF (show h.get? a=some _ from x)
 | ext φ=>obtain⟨_,⟨_,e⟩,_⟩:=x;exact AF e
theorem Paired.mapP {α β:Type}{F G:α->β->Prop}:∀{l₁:List α}{l₂:List β},Paired F l₁ l₂->(∀a b,F a b->G a b)->Paired G l₁ l₂
 | _,_,.nil,_=>.nil
 | _,_,.cons r t,f=>.cons (f _ _ r) (Paired.mapP t f)
def ObjOk.stay (x:ObjOk P w H h a o)(k:∀b u,(b=a\/H b=some (.own a))->h.get? b=some u->h'.get? b=some u)
  (ho:∀b,H b=some (.own a)->H' b=some (.own a))(ht:∀b xs,H b=some (.tup xs)->H' b=some (.tup xs)):ObjOk P w H' h' a o:=by
 induction o with
 | lst xs=>obtain⟨z,its,n,r,e⟩:=x;exact⟨z,its,n,r,k _ _ (.inl rfl) e⟩
 | tup xs=>obtain⟨z,its,r,ob,e,c⟩:=x;exact⟨z,its,r,ob,k _ _ (.inl rfl) e,c⟩
 | dK kvs=>obtain⟨z,y,vs,r,ob,es,ep,e,c⟩:=x;exact⟨z,y,vs,r,ob,es,ep,k _ _ (.inl rfl) e,c⟩
 | dT kvs=>obtain⟨z,y,xs,r,ob,es,ep,e,c⟩:=x;exact⟨z,y,xs,Paired.mapP r λp q z=>⟨z.1,ht _ _ z.2.1,z.2.2⟩,ob,es,ep,k _ _ (.inl rfl) e,c⟩
 | set S n=>obtain⟨ob,es,ep,t,e,c⟩:=x;exact⟨ob,es,ep,t,k _ _ (.inl rfl) e,c⟩
 | ins C dx fs=>obtain⟨d,z,ne,e,mA,⟨od,es,ep,e2,c⟩,r⟩:=x;exact⟨ho _ d,z,ne,k _ _ (.inl rfl) e,mA,⟨od,es,ep,k _ _ (.inr d) e2,c⟩,r⟩
 | own y=>obtain⟨ob,e⟩:=x;exact⟨ob,k _ _ (.inl rfl) e⟩
 | xd fs=>obtain⟨mA,⟨od,es,ep,e,c⟩,r⟩:=x;exact⟨mA,⟨od,es,ep,k _ _ (.inl rfl) e,c⟩,r⟩
 | rng lo hi=>obtain⟨t,u,v,e⟩:=x;exact⟨t,u,v,k _ _ (.inl rfl) e⟩
 | frz ob u ih=>obtain⟨e,q⟩:=x;exact⟨k _ _ (.inl rfl) e,ih q⟩
 | tbl ps=>have e:h.get? a=some { cls:=.none,data:=.fields ps }:=x;show h'.get? a=some { cls:=.none,data:=.fields ps };exact k a _ (.inl rfl) e
 | met f y=>have e:h.get? a=some (PySem.W.methodObj (.ref f) (.ref y)):=x;show h'.get? a=some (PySem.W.methodObj (.ref f) (.ref y));exact k a _ (.inl rfl) e
 | ext φ=>obtain⟨p,⟨o,e⟩,st⟩:=x;exact⟨st _ _ p λo q=>k _ _ (.inl rfl) q,⟨o,k _ _ (.inl rfl) e⟩,st⟩
def HOk.lt (x:HOk P w H h)(e:H a=some o):a<h.objs.size:=(x a o e).lt
def HOk.fresh (x:HOk P w H h)(e:h.objs.size<=a):H a=none:=by
 cases q:H a with
 | none=>rfl
 | some u=>exact absurd (BJ (x.lt q) e) (C7 _)
def HOk.kept (x:HOk P w H h)(k:∀b u,h.get? b=some u->h'.get? b=some u):HOk P w H h':=λa o e=>(x a o e).stay (λb u _ q=>k b u q) (λ_ q=>q) λ_ _ q=>q
def HOk.laid (x:HOk P w H h)(k:∀b u,h.get? b=some u->h'.get? b=some u)(hp:h.objs.size<=a)(new:ObjOk P w (upd H a o) h' a o):HOk P w (upd H a o) h':=λb u e=>by
 have hn:=x.fresh hp;by_cases hb:b=a
 ·subst hb;rw[Ae]at e;cases e;exact new
 rw[Aj hb]at e;exact(x b u e).stay (λc v _ q=>k c v q) (λc q=>by rw[Aj (AM q hn)];exact q) λc xs q=>by rw[Aj (AM q hn)];exact q
end
def Rd (H:Hp)(a:Addr)(u:HO):Prop:=H a=some u\/∃o,H a=some (.frz o u)
def Rd.ok (r:Rd H a u)(x:HOk P w H h):ObjOk P w H h a u:=by
 rcases r with r | ⟨o,r⟩
 ·exact x a u r
 obtain⟨_,q⟩:=x a _ r;exact q
def L7:Option HO->Prop
 | some (.lst _)=>True
 | some (.dK _)=>True
 | some (.dT _)=>True
 | some (.set _ _)=>True
 | some (.ins _ _ _)=>True
 | some (.ext _)=>True
 | _=>False
section
variable {P:Program}{w:World}{H:Hp}{h h':Heap}{x e:Addr}{o':HO}
def HOk.write (ok:HOk P w H h)(mu:L7 (H x))(he:e=x\/H e=some (.own x))(k:∀b u,b≠e->h.get? b=some u->h'.get? b=some u)(heo:∃u,h'.get? e=some u)
  (new:ObjOk P w (upd H x o') h' x o'):HOk P w (upd H x o') h':=λb u q=>by
 have nown:∀c y,H c=some (.own y)->c≠x:=λc y r z=>by subst z;rw[r]at mu;exact mu
 have ntup:∀c xs,H c=some (.tup xs)->c≠x:=λc xs r z=>by subst z;rw[r]at mu;exact mu
 by_cases hb:b=x
 ·subst hb;rw[Ae]at q;cases q;exact new
 rw[Aj hb]at q
 by_cases hbe:b=e
 ·have q':H b=some (.own x):=by
   rcases he with z | z
   ·exact absurd (hbe.trans z) hb
   rw[hbe];exact z
  rw[q]at q';cases q';obtain⟨v,hv⟩:=heo;exact⟨v,by rw[hbe];exact hv⟩
 refine(ok b u q).stay (λc v hc r=>k c v ?_ r) (λc r=>by rw[Aj (nown c b r)];exact r) λc xs r=>by rw[Aj (ntup c xs r)];exact r
 rcases hc with rfl | hc
 ·exact hbe
 rintro rfl
 rcases he with z | z
 ·exact nown c b hc z
 rw[hc]at z;cases z;exact hb rfl
end
structure Un (fs ex:List Addr)(H H':Hp)(h h':Heap):Prop where
 keep:∀b o,h.get? b=some o->H b=none->b∉fs->b∉ex->h'.get? b=some o
 slot:∀b o,h.get? b=some o->H b=none->b∈fs->b∉ex->∃sl,h'.get? b=some { o with slots:=sl }
 free:∀b o,h.get? b=some o->H b=none->b∉ex->H' b=none
 there:∀b o,h.get? b=some o->b∉ex->∃o',h'.get? b=some o'
 tups:∀b xs,H b=some (.tup xs)->H' b=some (.tup xs)
 frzs:∀b o u,H b=some (.frz o u)->H' b=some (.frz o u)
 tbls:∀b ps,H b=some (.tbl ps)->∃more,H' b=some (.tbl (ps++more))
section
variable {fs fs' ex ex':List Addr}{H H1 H2:Hp}{h h1 h2 h':Heap}{a x e:Addr}{o:HO}
def Un.any (u:Un fs ex H H1 h h1) (q:h.get? b=some ob)(n:H b=none)(hx:b∉ex):∃sl,h1.get? b=some { ob with slots:=sl }:=by
 by_cases hb:b∈fs
 ·exact u.slot b ob q n hb hx
 exact⟨ob.slots,u.keep b ob q n hb hx⟩
def Un.kept (k:∀b u,h.get? b=some u->h'.get? b=some u):Un fs ex H H h h':=
 ⟨λb ob q _ _ _=>k b ob q,λb ob q _ _ _=>⟨ob.slots,k b ob q⟩,λ_ _ _ n _=>n,λb ob q _=>⟨ob,k b ob q⟩,λ_ _ q=>q,λ_ _ _ q=>q,λ_ ps q=>⟨#[],by rw[q];simp⟩⟩
def Un.refl:Un fs ex H H h h:=Un.kept λ_ _ q=>q
theorem Un.laid (k:∀b u,h.get? b=some u->h'.get? b=some u)(hp:h.objs.size<=a)(hn:H a=none):Un fs ex H (upd H a o) h h' where
 keep:=λb u q _ _ _=>k b u q
 slot:=λb u q _ _ _=>⟨u.slots,k b u q⟩
 free:=λb u q n _=>by rw[Aj (AY (BJ (AF q) hp))];exact n
 there:=λb u q _=>⟨u,k b u q⟩
 tups:=λb xs q=>by rw[Aj (AM q hn)];exact q
 frzs:=λb u xs q=>by rw[Aj (AM q hn)];exact q
 tbls:=λb ps q=>⟨#[],by rw[Aj (AM q hn),q];simp⟩
def Un.write (mu:L7 (H x))(he:e=x\/H e=some (.own x))(k:∀b u,b≠e->h.get? b=some u->h'.get? b=some u)(heo:∃u,h'.get? e=some u):Un fs ex H (upd H x o) h h':=by
 have hx:∀b,H b=none->b≠x:=λb n z=>by subst z;rw[n]at mu;exact mu
 have hb:∀b,H b=none->b≠e:=λb n z=>by
  subst z;rcases he with r | r
  ·exact hx b n r
  rw[n]at r;cases r
 have hm:∀b u,H b=some u->¬L7 (some u)->b≠x:=λb u q nm z=>by subst z;rw[q]at mu;exact nm mu
 refine⟨λb u q n _ _=>k b u (hb b n) q,λb u q n _ _=>⟨u.slots,k b u (hb b n) q⟩,λb u q n _=>by rw[Aj (hx b n)];exact n,λb u q _=>?_,λb xs q=>by rw[Aj (hm b _ q λz=>z)];exact q,λb u xs q=>by rw[Aj (hm b _ q λz=>z)];exact q,λb ps q=>⟨#[],by rw[Aj (hm b _ q λz=>z),q];simp⟩⟩;by_cases hbe:b=e
 ·subst hbe;exact heo
 exact⟨u,k b u hbe q⟩
end
def Ml (h:Heap)(H:Hp):List Addr:=(List.range h.objs.size).filter λa=>(H a).isSome
def E9 (h:Heap)(H:Hp):Heap:=PySem.W.hideAll h (Ml h H)
def kY (h:Heap)(H:Hp):(E9 h H).objs.size=h.objs.size:=PySem.W.hideAll_size _ _
def kZ (e:h.get? b=some o)(n:H b=none):(E9 h H).get? b=some o:=
 LC _ e λhm=>by have q:(H b).isSome=true:=(C4.mp hm).2;rw[n]at q;simp at q
def cJ (e:(E9 h H).get? b=some o):h.get? b=some o/\H b=none:=by
 have e':h.get? b=some o:=PySem.W.of_hideAll (Ml h H) e;refine⟨e',?_⟩;cases q:H b with
 | none=>rfl
 | some x=>have hm:b∈Ml h H:=C4.mpr ⟨DO.mpr (AF e'),by simp[q]⟩;have z:(E9 h H).get? b=none:=PySem.W.hideAll_none (Ml h H) hm;rw[z]at e;cases e
structure Mod (K:W.Frag)(mg:Str->Option Value)(base:Heap):Prop where
 kin:K.In base
 glob:base.Ns mainGlobals mg
 blt:∃mb,base.Ns builtinsNs mb/\∀x:Str,x ≠ "__name__" -> mb x=bootBuiltins x
 nolimit:base.NoLimit
structure Cx where
 prog:Program
 w:World
 K:W.Frag
 mg:Str->Option Value
 base:Heap
 A:Around
 N:List Str
 s₀:Shared
 H₀:Hp
 env:Env
 ag:List Env
 stack:List Env
 ex:List Addr
 fn:Str->Bool
 calm:Bool
 pn:List (Addr×Obj)
 xe:Value->Shared->Prop
def frs (l:List Env):List Addr:=l.filterMap (·.frame)
abbrev Cx.fs (X:Cx):List Addr:=frs X.ag
def R4 (sc:Scope)(x:Str):Prop:=sc.names.lookup x=some .local\/sc.names.lookup x=some .cell\/sc.names.lookup x=some .free
def Ju (sc:Scope)(x:Str):Prop:=sc.names.lookup x=some .local\/sc.names.lookup x=some .cell
def Look (env:Env)(h:Heap)(m:Str->Option Value)(x:Str)(u:Value):Prop:=
 (env.kindOf x=some .local/\m x=some u)\/((env.kindOf x=some .cell\/env.kindOf x=some .free)/\∃c,env.cells.lookup x=some c/\h.IsCell c (some u))
structure Cx.Ok (X:Cx):Prop where
 mod:Mod X.K X.mg X.base
 kind:X.env.scope.kind=.function
 glob:X.env.globals=mainGlobals
 blt:X.env.builtins=builtinsNs
 above:X.s₀.heap.objs.size<=X.env.locals
 inj:∀x y c,X.env.cells.lookup x=some c->X.env.cells.lookup y=some c->x=y
 has:∀x,(X.env.kindOf x=some .cell\/X.env.kindOf x=some .free)->∃c,X.env.cells.lookup x=some c
 cab:∀x c,X.fn x=true->X.env.cells.lookup x=some c->X.s₀.heap.objs.size<=c
 hd:X.calm=true->X.A.handled=none
 frames:X.A.frames=some X.stack
 stk:X.stack=X.ag\/(X.stack=X.env::X.ag/\X.env.frame=some X.env.locals)
 exf:∀b∈X.ex,b≠X.env.locals/\∀x c,X.env.cells.lookup x=some c->c≠b
 bs:∀b o,X.base.get? b=some o->X.s₀.heap.get? b=some o/\X.H₀ b=none
 bsz:X.base.objs.size<=X.s₀.heap.objs.size
 noex:∀b o,X.base.get? b=some o->b∉X.ex
 exfs:∀b∈X.ex,b∉X.fs
 funs:X.s₀.heap.FunFrames X.base X.ag
 frf:∀b∈X.fs,X.H₀ b=none
structure Inv (X:Cx)(aa:List (Addr×Obj))(σ:List (Option V))(H:Hp)(s:Shared):Prop where
 ok:X.Ok
 os:s.os=X.s₀.os
 bare:AllBare s.gens
 base:Un X.fs X.ex X.H₀ H X.s₀.heap s.heap
 loc:∃m,s.heap.Ns X.env.locals m/\∀(i:Nat) (x:Str) (v:V),X.N[i]? = some x->σ[i]? = some (some v)->R4 X.env.scope x->∃u,RelV v u/\Look X.env s.heap m x u
 cell:∀x c,X.env.cells.lookup x=some c->∃v,s.heap.IsCell c v
 free:H X.env.locals=none
 freeC:∀x c,X.env.cells.lookup x=some c->H c=none
 pin:∀p∈X.pn++aa,s.heap.get? p.1=some p.2/\H p.1=none/\p.1≠X.env.locals/\p.1∉X.fs/\∀v,p.2.data≠.cell v
 hok:HOk X.prog X.w H s.heap
 len:σ.length=X.N.length
section
variable {X:Cx}{aa:List (Addr×Obj)}{σ:List (Option V)}{H H':Hp}{s:Shared}{h':Heap}
def Cx.Ok.nofr (ok:X.Ok) (e:X.base.get? b=some o):b∉X.fs:=λhb=>by have:=(ok.funs.mem hb).1;rw[e]at this;cases this
def Inv.bs (I:Inv X aa σ H s):∀b o,X.base.get? b=some o->s.heap.get? b=some o/\H b=none:=λb o e=>⟨I.base.keep b o (I.ok.bs b o e).1 (I.ok.bs b o e).2 (I.ok.nofr e) (I.ok.noex b o e),I.base.free b o (I.ok.bs b o e).1 (I.ok.bs b o e).2 (I.ok.noex b o e)⟩
def Inv.bk (I:Inv X aa σ H s):∀b o,X.base.get? b=some o->s.heap.get? b=some o:=λb o e=>(I.bs b o e).1
def Inv.mod (I:Inv X aa σ H s):Mod X.K X.mg X.base:=I.ok.mod
def Inv.kIn (I:Inv X aa σ H s):X.K.In s.heap:=I.ok.mod.kin.keeps I.bk
def Inv.lt (I:Inv X aa σ H s):X.env.locals<s.heap.objs.size:=let ⟨_,hn,_⟩:=I.loc;hn.lt
def Inv.sz (I:Inv X aa σ H s):X.s₀.heap.objs.size<=s.heap.objs.size:=BV I.ok.above (G9 I.lt)
def Inv.nofs (I:Inv X aa σ H s) (h:s.heap.objs.size<=a):a∉X.fs:=λhb=>by obtain⟨_,o,ho,_⟩:=I.ok.funs.mem hb;exact absurd (BJ (AF ho) (BV I.sz h)) (C7 _)
def Inv.cne (I:Inv X aa σ H s):∀x c,X.env.cells.lookup x=some c->c≠X.env.locals:=λx c e z=>by obtain⟨v,o,ho,hd⟩:=I.cell x c e;obtain⟨m,⟨o',es,ep,ho',hd',_⟩,_⟩:=I.loc;rw[z,ho']at ho;cases ho;rw[hd']at hd;cases hd
def Inv.funs (I:Inv X aa σ H s):s.heap.FunFrames X.base X.ag:=by
 have all:∀(l:List Env),(∀b∈frs l,b∈X.fs)->X.s₀.heap.FunFrames X.base l->s.heap.FunFrames X.base l:=by
  intro l;induction l with
  | nil=>intro _ _;trivial
  | cons env r ih=>intro hs hl;obtain⟨hk,⟨L,o,hf,hn,ho,hd⟩,hr⟩:=hl;have hL:L∈X.fs:=hs L (by unfold frs;rw[FR,hf];exact Bo);obtain⟨sl,e⟩:=I.base.slot L o ho (I.ok.frf L hL) hL λz=>I.ok.exfs L z hL;exact⟨hk,⟨L,_,hf,hn,e,hd⟩,ih (λb hb=>hs b (by unfold frs;rw[FR,hf];exact Bn _ hb)) hr⟩
 exact all X.ag (λ_ hb=>hb) I.ok.funs
def Inv.stack (I:Inv X aa σ H s):s.heap.FunFrames X.base X.stack:=by
 rcases I.ok.stk with e | ⟨e,hf⟩
 ·rw[e];exact I.funs
 rw[e];obtain⟨m,hn,_⟩:=I.loc;refine .cons (by rw[I.ok.kind];decide) hf hn ?_ I.funs;exact RO (BV I.ok.bsz I.ok.above)
def Inv.stkSub (I:Inv X aa σ H s):∀b∈frs X.stack,b∈X.env.locals::X.fs:=λb hb=>by
 rcases I.ok.stk with e | ⟨e,hf⟩
 ·rw[e]at hb;exact Bn _ hb
 rw[e]at hb;unfold frs at hb;rw[FR,hf]at hb;exact hb
def Inv.stkFree (I:Inv X aa σ H s):∀b∈frs X.stack,H b=none:=λb hb=>by
 rcases AK.mp (I.stkSub b hb)with e | hb
 ·rw[e];exact I.free
 obtain⟨_,o,ho,_⟩:=I.ok.funs.mem hb;exact I.base.free b o ho (I.ok.frf b hb) λz=>I.ok.exfs b z hb
def Inv.step {g':Array GenState}{t':Nat}{d':Drawn}{ch:List Addr}(I:Inv X aa σ H s)
  (hch:∀b∈ch,(b∈X.ex\/X.s₀.heap.objs.size<=b)/\b≠X.env.locals/\(∀x c,X.env.cells.lookup x=some c->c≠b)/\∀p∈X.pn++aa,p.1≠b)
  (keep:∀b o,b≠X.env.locals->b∉X.fs->b∉ch->s.heap.get? b=some o->H b=none->h'.get? b=some o)
  (slot:∀b o,b≠X.env.locals->b∈X.fs->b∉ch->s.heap.get? b=some o->H b=none->∃sl,h'.get? b=some { o with slots:=sl })(free:∀b o,b∉ch->s.heap.get? b=some o->H b=none->H' b=none)
  (there:∀b o,b∉ch->s.heap.get? b=some o->∃o',h'.get? b=some o')
  (tups:∀b xs,H b=some (.tup xs)->H' b=some (.tup xs))(frzs:∀b o u,H b=some (.frz o u)->H' b=some (.frz o u))(tbls:∀b ps,H b=some (.tbl ps)->∃more,H' b=some (.tbl (ps++more)))
  (ns:∀m,s.heap.Ns X.env.locals m->h'.Ns X.env.locals m)(hok:HOk X.prog X.w H' h')(hg:AllBare g') :
  Inv X aa σ H' { s with heap:=h',gens:=g',drawn:=d',toks:=t' }:=by
 have neL:∀b o,X.s₀.heap.get? b=some o->b≠X.env.locals:=λb o e=>AY (BJ (AF e) I.ok.above)
 have neC:∀b o,X.s₀.heap.get? b=some o->b∉X.ex->b∉ch:=λb o e hx hb=>by
  rcases(hch b hb).1 with z | z
  ·exact hx z
  exact absurd (BJ (AF e) z) (C7 _)
 have cellK:∀x c,X.env.cells.lookup x=some c->∀v,s.heap.IsCell c v->h'.IsCell c v:=λx c e v ⟨o,ho,hd⟩=>by
  have nch:c∉ch:=λz=>(hch c z).2.2.1 x c e rfl;by_cases hc:c∈X.fs
  ·obtain⟨sl,q⟩:=slot c o (I.cne x c e) hc nch ho (I.freeC x c e);exact⟨_,q,hd⟩
  exact⟨o,keep c o (I.cne x c e) hc nch ho (I.freeC x c e),hd⟩
 refine⟨I.ok,I.os,hg,⟨λb o e n hb hx=>?_,λb o e n hb hx=>?_,λb o e n hx=>?_,λb o e hx=>?_,λb xs e=>tups b xs (I.base.tups b xs e),λb o xs e=>frzs b o xs (I.base.frzs b o xs e),λb ps e=>?_⟩,?_,λx c e=>?_,?_,λx c e=>?_,λp hp=>?_,hok,I.len⟩
 ·exact keep b o (neL b o e) hb (neC b o e hx) (I.base.keep b o e n hb hx) (I.base.free b o e n hx)
 ·obtain⟨sl,e1⟩:=I.base.slot b o e n hb hx;obtain⟨sl',e2⟩:=slot b _ (neL b o e) hb (neC b o e hx) e1 (I.base.free b o e n hx);exact⟨sl',e2⟩
 ·obtain⟨o',e1⟩:=I.base.there b o e hx;exact free b o' (neC b o e hx) e1 (I.base.free b o e n hx)
 ·obtain⟨o',e1⟩:=I.base.there b o e hx;exact there b o' (neC b o e hx) e1
 ·obtain⟨m1,e1⟩:=I.base.tbls b ps e;obtain⟨m2,e2⟩:=tbls b _ e1;exact⟨m1++m2,by rw[e2,Array.append_assoc]⟩
 ·obtain⟨m,hn,hl⟩:=I.loc;refine⟨m,ns m hn,λi x v e1 e2 e3=>?_⟩;obtain⟨u,r,l⟩:=hl i x v e1 e2 e3;refine⟨u,r,?_⟩;rcases l with l | ⟨k,c,e,z⟩
  ·exact .inl l
  exact .inr ⟨k,c,e,cellK x c e _ z⟩
 ·obtain⟨v,z⟩:=I.cell x c e;exact⟨v,cellK x c e v z⟩
 ·obtain⟨m,⟨o,_,_,ho,_⟩,_⟩:=I.loc;exact free _ o (λz=>(hch _ z).2.1 rfl) ho I.free
 ·obtain⟨v,o,ho,hd⟩:=I.cell x c e;exact free c o (λz=>(hch c z).2.2.1 x c e rfl) ho (I.freeC x c e)
 obtain⟨e,n,ne,nf,d⟩:=I.pin p hp
 have nch:p.1∉ch:=λz=>(hch p.1 z).2.2.2 p hp rfl
 exact⟨keep p.1 p.2 ne nf nch e n,free p.1 p.2 nch e n,ne,nf,d⟩
def Inv.un (I:Inv X aa σ H s)(u:Un X.fs [] H H' s.heap h')(hok:HOk X.prog X.w H' h'):Inv X aa σ H' { s with heap:=h',toks:=t' }:=by obtain⟨m,⟨o,es,ep,ho,r⟩,_⟩:=id I.loc;obtain⟨sl,hL⟩:=u.any ho I.free (by simp);exact I.step (g':=s.gens) (d':=s.drawn) (ch:=[]) (λ_ z=>nomatch z) (λb o _ hb _ e n=>u.keep b o e n hb (by simp)) (λb o _ hb _ e n=>u.slot b o e n hb (by simp)) (λb o _ e n=>u.free b o e n (by simp)) (λb o _ e=>u.there b o e (by simp)) u.tups u.frzs u.tbls (λm' hm=>by obtain⟨o',es',ep',ho',r'⟩:=hm;rw[ho]at ho';cases ho';exact⟨_,es',ep',hL,r'⟩) hok I.bare
def Inv.call (I:Inv X aa σ H s)(u:Un (frs X.stack) ch H H' s.heap h')(hok:HOk X.prog X.w H' h')(hg:AllBare g')
  (hch:∀b∈ch,(b∈X.ex\/X.s₀.heap.objs.size<=b)/\b≠X.env.locals/\(∀x c,X.env.cells.lookup x=some c->c≠b)/\∀p∈X.pn++aa,p.1≠b) :
  Inv X aa σ H' { s with heap:=h',gens:=g',drawn:=d',toks:=t' }:=by
 obtain⟨m,⟨o,es,ep,ho,r⟩,_⟩:=id I.loc
 obtain⟨sl,hL⟩:=u.any ho I.free λz=>(hch _ z).2.1 rfl
 exact I.step (ch:=ch) hch (λb o hL hb hc e n=>u.keep b o e n (λz=>(AK.mp (I.stkSub b z)).elim hL hb) hc) (λb o _ _ hc e n=>u.any e n hc) (λb o hc e n=>u.free b o e n hc) (λb o hc e=>u.there b o e hc) u.tups u.frzs u.tbls (λm' hm=>by obtain⟨o',es',ep',ho',r'⟩:=hm;rw[ho]at ho';cases ho';exact⟨_,es',ep',hL,r'⟩) hok hg
def Inv.turned (I:Inv X aa σ H s)(k:∀b o,b≠it->s.heap.get? b=some o->h'.get? b=some o)(hn:H it=none)(hL:it≠X.env.locals)
  (h1:it∈X.ex\/X.s₀.heap.objs.size<=it)(h2:∀x c,X.env.cells.lookup x=some c->c≠it)(h3:∀p∈X.pn++aa,p.1≠it):Inv X aa σ H { s with heap:=h',toks:=t' }:=by
 have nit:∀b u,H b=some u->b≠it:=λb u e z=>by rw[z,hn]at e;cases e
 refine I.step (g':=s.gens) (d':=s.drawn) (ch:=[it]) (λb hb=>?_) (λb o _ _ hc e _=>k b o (λz=>hc (by simp[z])) e) (λb o _ _ hc e _=>⟨o.slots,k b o (λz=>hc (by simp[z])) e⟩) (λ_ _ _ _ n=>n)
  (λb o hc e=>⟨o,k b o (λz=>hc (by simp[z])) e⟩) (λ_ _ e=>e) (λ_ _ _ e=>e) (λb ps e=>⟨#[],by rw[e];simp⟩) (λm hm=>?_) (λb u e=>?_) I.bare
 ·have e:b=it:=by simpa using hb
  subst e;exact⟨h1,hL,h2,h3⟩
 ·obtain⟨o,es,ep,ho,r⟩:=hm;exact⟨o,es,ep,k _ o (DB hL) ho,r⟩
 refine(I.hok b u e).stay (λc v hc q=>k c v ?_ q) (λ_ q=>q) λ_ _ q=>q
 rcases hc with z | z
 ·rw[z];exact nit b u e
 exact nit c _ z
def Inv.tok (I:Inv X aa σ H s)(t:Nat):Inv X aa σ H { s with toks:=t }:=I.un (h':=s.heap) (t':=t) Un.refl I.hok
def Inv.kept (I:Inv X aa σ H s)(k:∀b u,s.heap.get? b=some u->h'.get? b=some u):Inv X aa σ H { s with heap:=h',toks:=t' }:=I.un (Un.kept k) (I.hok.kept k)
def Inv.laid (I:Inv X aa σ H s)(k:∀b u,s.heap.get? b=some u->h'.get? b=some u)(hp:s.heap.objs.size<=a)(new:ObjOk X.prog X.w (upd H a o) h' a o) :
  Inv X aa σ (upd H a o) { s with heap:=h',toks:=t' }:=I.un (Un.laid k hp (I.hok.fresh hp)) (I.hok.laid k hp new)
def Inv.write (I:Inv X aa σ H s)(mu:L7 (H x))(he:e=x\/H e=some (.own x))(k:∀b u,b≠e->s.heap.get? b=some u->h'.get? b=some u)(heo:∃u,h'.get? e=some u)
  (new:ObjOk X.prog X.w (upd H x o) h' x o):Inv X aa σ (upd H x o) { s with heap:=h',toks:=t' }:=I.un (Un.write mu he k heo) (I.hok.write mu he k heo new)
def Inv.weak (I:Inv X aa σ H s)(hl:σ'.length=σ.length)(w:∀(i:Nat) v,σ'[i]? = some (some v)->σ[i]? = some (some v)):Inv X aa σ' H s:=
 ⟨I.ok,I.os,I.bare,I.base,let ⟨m,hn,hl'⟩:=I.loc;⟨m,hn,λi x v e1 e2 e3=>hl' i x v e1 (w i v e2) e3⟩,I.cell,I.free,I.freeC,I.pin,I.hok,hl.trans I.len⟩
def Inv.pins_of (I:Inv X aa σ H s)(h:∀p∈pins',s.heap.get? p.1=some p.2/\H p.1=none/\p.1≠X.env.locals/\p.1∉X.fs/\∀v,p.2.data≠.cell v):Inv X pins' σ H s:=
 ⟨I.ok,I.os,I.bare,I.base,I.loc,I.cell,I.free,I.freeC,λp hp=>(A5.mp hp).elim (λz=>I.pin p (Ec _ z)) (h p),I.hok,I.len⟩
def QE {N:List Str}(hN:N.Nodup){i j:Nat}{x:Str}(a:N[i]? = some x)(b:N[j]? = some x):i=j:=by obtain⟨h1,e1⟩:=AN.mp a;obtain⟨h2,e2⟩:=AN.mp b;exact(Ly hN).mp (e1.trans e2.symm)
def SV (I:Inv X aa σ H s)(hN:X.N.Nodup)(hi:X.N[i]? = some x)(hx:Ju X.env.scope x)(r:RelV v u)
  (h:∀s',Inv X aa (σ.set i (some v)) H s'->(∃a,Heap.SameBut a s.heap s'.heap/\(a=X.env.locals\/X.env.cells.lookup x=some a))->Q () s')(hf:X.fn x=true\/X.env.scope.names.lookup x=some .local:=by first | exact .inl rfl | exact .inr rfl | assumption):wpAny M A (storeName X.env x u) Q E s:=by
 obtain⟨m,hn,hl⟩:=id I.loc
 have hcls:(X.env.scope.kind == .class || (X.env.scope.kind == .module && X.env.locals != X.env.globals))=false:=by rw[I.ok.kind];rfl
 have hiσ:i<σ.length:=by rw[I.len];exact(AN.mp hi).1
 have cne:=I.cne
 have tracked:∀{a:Addr}{h':Heap},(∃o,s.heap.get? a=some o/\H a=none)->Heap.SameBut a s.heap h'->HOk X.prog X.w H h':=λ{a h'} ha hs b ob e=>by
  obtain⟨_,_,hfree⟩:=ha;refine(I.hok b ob e).stay (λc w' hc q=>(hs.2 c ?_).trans q) (λ_ q=>q) λ_ _ q=>q;rintro rfl;rcases hc with rfl | hc
  ·rw[hfree]at e;cases e
  rw[hfree]at hc;cases hc
 rcases hx with hk | hk
 ·refine wpAny_storeName_local hk hn (λh' hn' hs=>?_) hcls;obtain⟨oL,_,_,hoL,_⟩:=id hn;refine h _ ⟨I.ok,I.os,I.bare,⟨λb o e n hb hx=>?_,λb o e n hb hx=>?_,I.base.free,λb o e hx=>?_,I.base.tups,I.base.frzs,I.base.tbls⟩,⟨_,hn',λj y v' e1 e2 e3=>?_⟩,λy c e=>?_,I.free,I.freeC,λp hp=>?_,tracked ⟨oL,hoL,I.free⟩ hs,by simpa using I.len⟩ ⟨_,hs,.inl rfl⟩
  ·exact(hs.2 b (AY (BJ (AF e) I.ok.above))).trans (I.base.keep b o e n hb hx)
  ·obtain⟨sl,e1⟩:=I.base.slot b o e n hb hx;exact⟨sl,(hs.2 b (AY (BJ (AF e) I.ok.above))).trans e1⟩
  ·obtain⟨o',e1⟩:=I.base.there b o e hx;exact⟨o',(hs.2 b (AY (BJ (AF e) I.ok.above))).trans e1⟩
  ·by_cases hj:j=i
   ·subst hj;rw[hi]at e1;cases e1;rw[RU hiσ]at e2;cases e2;exact⟨u,r,.inl ⟨hk,by simp⟩⟩
   rw[RN (DB hj)]at e2;obtain⟨u',r',q⟩:=hl j y v' e1 e2 e3;refine⟨u',r',?_⟩;rcases q with⟨k,e⟩ | ⟨k,c,e,z⟩
   ·refine .inl ⟨k,?_⟩;have:y≠x:=λe=>hj (QE hN e1 (e ▸ hi));simp[this,e]
   exact .inr ⟨k,c,e,z.sameBut hs (cne y c e)⟩
  ·obtain⟨w',z⟩:=I.cell y c e;exact⟨w',z.sameBut hs (cne y c e)⟩
  obtain⟨e,n,ne,nf,d⟩:=I.pin p hp;exact⟨(hs.2 p.1 ne).trans e,n,ne,nf,d⟩
 have hfn:X.fn x=true:=by
  rcases hf with z | z
  ·exact z
  rw[z]at hk;cases hk
 obtain⟨c,hc⟩:=I.ok.has x (.inl hk)
 obtain⟨w',z⟩:=I.cell x c hc
 refine wpAny_storeName_cell I.ok.kind hk hc z (λh' hc' hs=>?_)
 obtain⟨oc,hoc,hocd⟩:=id z
 refine h { s with heap:=h' } ⟨I.ok,I.os,I.bare,⟨λb o e n hb hx=>?_,λb o e n hb hx=>?_,I.base.free,λb o e hx=>?_,I.base.tups,I.base.frzs,I.base.tbls⟩,⟨m,hn.sameBut hs (DB (cne x c hc)),λj y v' e1 e2 e3=>?_⟩,λy c' e=>?_,I.free,I.freeC,λp hp=>?_,tracked ⟨oc,hoc,I.freeC x c hc⟩ hs,by simpa using I.len⟩ ⟨c,hs,.inr hc⟩
 ·exact(hs.2 b (AY (BJ (AF e) (I.ok.cab x c hfn hc)))).trans (I.base.keep b o e n hb hx)
 ·obtain⟨sl,e1⟩:=I.base.slot b o e n hb hx;exact⟨sl,(hs.2 b (AY (BJ (AF e) (I.ok.cab x c hfn hc)))).trans e1⟩
 ·obtain⟨o',e1⟩:=I.base.there b o e hx;exact⟨o',(hs.2 b (AY (BJ (AF e) (I.ok.cab x c hfn hc)))).trans e1⟩
 ·by_cases hj:j=i
  ·subst hj;rw[hi]at e1;cases e1;rw[RU hiσ]at e2;cases e2;exact⟨u,r,.inr ⟨.inl hk,c,hc,hc'⟩⟩
  rw[RN (DB hj)]at e2;obtain⟨u',r',q⟩:=hl j y v' e1 e2 e3;refine⟨u',r',?_⟩;rcases q with q | ⟨k,c',e,z'⟩
  ·exact .inl q
  refine .inr ⟨k,c',e,z'.sameBut hs ?_⟩;rintro rfl;exact hj (QE hN e1 (I.ok.inj _ _ _ e hc ▸ hi))
 ·by_cases hcc:c'=c
  ·subst hcc;exact⟨_,hc'⟩
  obtain⟨w2,z2⟩:=I.cell y c' e;exact⟨w2,z2.sameBut hs hcc⟩
 obtain⟨e,n,ne,nf,d⟩:=I.pin p hp
 refine⟨(hs.2 p.1 ?_).trans e,n,ne,nf,d⟩
 intro q
 rw[q,hoc]at e
 have q':oc=p.2:=BS e
 exact d w' (by rw[<- q'];exact hocd)
def OP (I:Inv X aa σ H s)(hN:X.N.Nodup)(hi:X.N[i]? = some x)(hx:Ju X.env.scope x)(r:RelV v u)
  (h:∀s',Inv X aa (σ.set i (some v)) H s'->Q () s')(hf:X.fn x=true\/X.env.scope.names.lookup x=some .local:=by first | exact .inl rfl | exact .inr rfl | assumption):wpAny M A (storeName X.env x u) Q E s:=
 SV I hN hi hx r (λs' I' _=>h s' I') hf
def Inv.call' (I:Inv X aa σ H s)(ho:s'.os=s.os)(u:Un (frs X.stack) ch H H' s.heap s'.heap)(hok:HOk X.prog X.w H' s'.heap)(hg:AllBare s'.gens)
  (hch:∀b∈ch,(b∈X.ex\/X.s₀.heap.objs.size<=b)/\b≠X.env.locals/\(∀x c,X.env.cells.lookup x=some c->c≠b)/\∀p∈X.pn++aa,p.1≠b):Inv X aa σ H' s':=by
 obtain⟨h',g',d',t',o'⟩:=s'
 have e:o'=s.os:=ho
 subst e
 exact I.call (g':=g') (t':=t') (d':=d') u hok hg hch
end
abbrev XK:=Value->Option Addr->Hp->Prop
abbrev St:=List (Option V)
abbrev VK:=V->Hp->Prop
abbrev TE:=St->Hp->VK->Prop
abbrev TT:=St->Hp->(Bool->Hp->Prop)->Prop
abbrev TA:=St->Hp->(List V->Hp->Prop)->Prop
structure Fp where
 nx:St->Hp->Prop
 rt:VK
 bk:St->Hp->Prop:=λ_ _=>False
 ct:St->Hp->Prop:=λ_ _=>False
abbrev TS:=Fp->St->Hp->Prop
def EP (X:Cx)(aa:List (Addr×Obj))(σ:St)(Q:VK)(u:Value)(s':Shared):Prop:=∃v H',Inv X aa σ H' s'/\RelV v u/\Q v H'
def TP (X:Cx)(aa:List (Addr×Obj))(σ:St)(Q:Bool->Hp->Prop)(b:Bool)(s':Shared):Prop:=∃H',Inv X aa σ H' s'/\Q b H'
def AP (X:Cx)(aa:List (Addr×Obj))(σ:St)(Q:List V->Hp->Prop)(us:List Value)(s':Shared):Prop:=∃vs H',Inv X aa σ H' s'/\Vals vs us/\Q vs H'
def SP (X:Cx)(aa:List (Addr×Obj))(D:Fp)(f:Flow)(s':Shared):Prop:=
 match f with
 | .next=>∃σ' H',Inv X aa σ' H' s'/\D.nx σ' H'
 | .brk=>∃σ' H',Inv X aa σ' H' s'/\D.bk σ' H'
 | .cont=>∃σ' H',Inv X aa σ' H' s'/\D.ct σ' H'
 | .ret u=>∃v σ' H',Inv X aa σ' H' s'/\RelV v u/\D.rt v H'
def PE (X:Cx)(e:Expr)(t:TE):Prop:=
 ∀(aa:List (Addr×Obj)) (s:Shared) (σ:St) (H:Hp) (Q:VK),Inv X aa σ H s->t σ H Q->wpAny (model X.prog X.w) X.A (eval e X.env) (EP X aa σ Q) X.xe s
def PT (X:Cx)(e:Expr)(t:TT):Prop:=
 ∀(aa:List (Addr×Obj)) (s:Shared) (σ:St) (H:Hp) (Q:Bool->Hp->Prop),Inv X aa σ H s->t σ H Q->wpAny (model X.prog X.w) X.A (isTrue e X.env (eval e X.env)) (TP X aa σ Q) X.xe s
def PW (X:Cx)(e:Expr)(t:TT):Prop:=
 ∀(whole:Sem Value) (aa:List (Addr×Obj)) (s:Shared) (σ:St) (H:Hp) (Q:Bool->Hp->Prop),Inv X aa σ H s->t σ H Q->wpAny (model X.prog X.w) X.A (isTrue e X.env whole) (TP X aa σ Q) X.xe s
def PW.pt (h:PW X e t):PT X e t:=h _
def PA (X:Cx)(es:List Expr)(t:TA):Prop:=
 ∀(pos:Pos) (aa:List (Addr×Obj)) (s:Shared) (σ:St) (H:Hp) (Q:List V->Hp->Prop),Inv X aa σ H s->t σ H Q->wpAny (model X.prog X.w) X.A (spliced (backTo pos (starEach es X.env))) (AP X aa σ Q) X.xe s
def PS (X:Cx)(st:Stmt)(t:TS):Prop:=
 ∀(aa:List (Addr×Obj)) (s:Shared) (σ:St) (H:Hp) (D:Fp),Inv X aa σ H s->t D σ H->wpAny (model X.prog X.w) X.A (exec st X.env) (SP X aa D) X.xe s
def PSs (X:Cx)(st:List Stmt)(t:TS):Prop:=
 ∀(aa:List (Addr×Obj)) (s:Shared) (σ:St) (H:Hp) (D:Fp),Inv X aa σ H s->t D σ H->wpAny (model X.prog X.w) X.A (execs st X.env) (SP X aa D) X.xe s
def Ap {α:Type}{t:Sem α}{Q Q':α->Shared->Prop}{M:Model}{A:Around}{E:Value->Shared->Prop}{s:Shared}(h:wpAny M A t Q E s)(hQ:∀a s,Q a s->Q' a s):wpAny M A t Q' E s:=BI h hQ λ_ _ x=>x
section
variable {X:Cx}
inductive Mm (i:Nat)(σ:St)(H:Hp)(Q:VK):Prop
 | mk (v:_) (c0:σ[i]? = some (some v)) (c1:Q v H):Mm i σ H Q
def tC (v:V):TE:=λ_ H Q=>Q v H
def Zf (hN:X.N[i]? = some x)(hv:R4 X.env.scope x)(hd:(x == ("__debug__" : Str))=false:=by decide)(hcd:(x == ("__classdict__" : Str))=false:=by decide):PE X (.Name x pos) (Mm i):=by
 intro aa s σ H Q I h;obtain⟨v,e,h⟩:=h;obtain⟨m,hn,hl⟩:=I.loc;obtain⟨u,r,l⟩:=hl i x v hN e hv;have fin:EP X aa σ Q u s:=⟨v,H,I,r,h⟩;rcases l with⟨hk,hm⟩ | ⟨hk,c,hc,hcell⟩
 ·exact wpAny_Name (wpAny_loadName_local I.ok.kind hk hn hm fin) hd
 rcases hk with hk | hk
 ·exact wpAny_Name (wpAny_loadName_cell I.ok.kind hk hc hcell fin) hd
 exact wpAny_Name (wpAny_loadName_free I.ok.kind hk hc hcell fin hcd) hd
def Ac {i j pos}:PE X (.Constant (.int i) j pos) (tC (.int i)):=λ_ _ _ H _ I h=>wpAny_Constant_int ⟨.int i,H,I.tok _,⟨_,rfl⟩,h⟩
def De {b j pos}:PE X (.Constant (.bool b) j pos) (tC (.bl b)):=λ_ _ _ H _ I h=>Constant_bool ⟨.bl b,H,I,rfl,h⟩
def Cw {j pos}:PE X (.Constant .none j pos) (tC .non):=λ_ _ _ H _ I h=>Constant_none ⟨.non,H,I,rfl,h⟩
def A0 {x j pos}:PE X (.Constant (.str x) j pos) (tC (.str x)):=λ_ _ _ H _ I h=>Calls.Constant_str ⟨.str x,H,I.tok _,⟨_,rfl⟩,h⟩
def Gl (X:Cx)(x:Str):Prop:=X.env.kindOf x=some .globalImplicit
def Ek (I:Inv X aa σ H s)(hg:Gl X x)(hm:X.mg x=some u)(h:Q u s)
  (hd:(x == ("__debug__" : Str))=false:=by decide):wpAny (model X.prog X.w) X.A (eval (.Name x pos) X.env) Q E s:=
 Calls.Name_function_global I.ok.kind hg (Calls.loadGlobal_global (by rw[I.ok.glob];exact I.mod.glob.keeps I.bk) hm h) hd
def FF (I:Inv X aa σ H s)(hg:Gl X x)(hm:X.mg x=none)(hv:bootBuiltins x=some u)(h:Q u s)
  (hn:x ≠ "__name__" := by decide)(hd:(x == ("__debug__" : Str))=false:=by decide):wpAny (model X.prog X.w) X.A (eval (.Name x pos) X.env) Q E s:=by
 obtain⟨mb,h1,h2⟩:=I.mod.blt
 exact Calls.Name_function_global I.ok.kind hg (Calls.loadGlobal_builtin (by rw[I.ok.glob];exact I.mod.glob.keeps I.bk) hm (by rw[I.ok.blt];exact h1.keeps I.bk) ((h2 x hn).trans hv) h) hd
def EH (hg:Gl X x)(hm:X.mg x=some u)(r:RelV v u)(hd:(x == ("__debug__" : Str))=false:=by decide):PE X (.Name x pos) (tC v):=
 λ_ _ _ H _ I h=>Ek I hg hm ⟨v,H,I,r,h⟩ hd
def Ia (hg:Gl X x)(hm:X.mg x=none)(hv:bootBuiltins x=some u)(r:RelV v u)(hn:x ≠ "__name__" := by decide)(hd:(x == ("__debug__" : Str))=false:=by decide):PE X (.Name x pos) (tC v):=
 λ_ _ _ H _ I h=>FF I hg hm hv ⟨v,H,I,r,h⟩ hn hd
variable {a b:Expr}{ta tb:TE}{pos:Pos}
def PC (X:Cx)(op:CmpOp)(a b:Expr)(t:TE):Prop:=
 ∀(aa:List (Addr×Obj)) (s:Shared) (σ:St) (H:Hp) (Q:VK),Inv X aa σ H s->t σ H Q ->
  wpAny (model X.prog X.w) X.A (eval a X.env) (λv s₁=>wpAny (model X.prog X.w) X.A (eval b X.env) (λu s₂=>wpAny (model X.prog X.w) X.A (compareOp op v u) (EP X aa σ Q) X.xe s₂) X.xe s₁) X.xe s
inductive Uo (Q:Bool->Hp->Prop)(x:V)(H1:Hp):Prop
 | mk (c:_) (c0:x=.bl c) (c1:Q c H1):Uo Q x H1
def tB (t:TE):TT:=λσ H Q=>t σ H λx H1=>Uo Q x H1
def Nd (h:PC X op a b t)(h1:behindInMarks op b=false:=by first | exact nobehind _ (by decide) (by decide) | rfl):PT X (.Compare a [op] [b] pos) (tB t):=by intro aa s σ H Q I hw;refine wpAny_isTrue_Compare1 (Ap (h aa s σ H _ I hw) λv s1 h1=>Ap h1 λu s2 h2=>Ap h2 λc s3 hp0=>?_) h1;obtain⟨x,H1,I1,r1,q1⟩:=hp0;obtain⟨d,rfl,q⟩:=q1;cases r1;exact Fi ⟨H1,I1,q⟩
def Cn (h:PE X e t)(he:∀whole,isTrue e X.env whole=(do let v <- whole;standAt e.pos;holding [v] (truthy v)):=by intro _;rfl):PT X e (tB t):=by intro aa s σ H Q I hw;refine isTrue_plain (Ap (h aa s σ H _ I hw) λv s1 hp0=>?_) (he _);obtain⟨x,H1,I1,r1,q1⟩:=hp0;obtain⟨d,rfl,q⟩:=q1;cases r1;exact Fi ⟨H1,I1,q⟩
variable {tA tB':TT}{rest:List Expr}
def WL (t u:TT):TT:=λσ H Q=>t σ H λc H1=>if c=true then Q true H1 else u σ H1 Q
def WN (t:TT):TT:=λσ H Q=>t σ H λc H1=>Q (!c) H1
def HU (ha:PT X a tA):PW X (.BoolOp .Or [a] pos) tA:=by
 intro wh aa s σ H Q I h;refine isTrue_or (Ap (ha aa s σ H Q I h) λc s1 e=>?_);cases c with
 | false=>exact isTrue_or_nil e
 | true=>exact e
def F1 (ha:PT X a tA)(hb:PW X (.BoolOp .Or (b::rest) pos) tB'):PW X (.BoolOp .Or (a::b::rest) pos) (WL tA tB'):=by
 intro wh aa s σ H Q I h;refine isTrue_or (Ap (ha aa s σ H _ I h) λc s1 hp0=>?_);obtain⟨H1,I1,q1⟩:=hp0;cases c with
 | true=>exact⟨H1,I1,q1⟩
 | false=>exact hb wh aa s1 σ H1 Q I1 q1
def Dp (ha:PT X a tA):PT X (.UnaryOp .Not a pos) (WN tA):=by intro aa s σ H Q I h;exact isTrue_not (ha aa s σ H (λc H1=>Q (!c) H1) I h)
def Xh (ta tb:TE):TE:=λσ H Q=>ta σ H λx H1=>∃c,x=.bl c/\if c=true then tb σ H1 Q else Q (.bl false) H1
def WM (ta:TE):TE:=λσ H Q=>ta σ H λx H1=>∃c,x=.bl c/\Q (.bl (!c)) H1
def Zg {op} (h:PE X a t):PE X (.BoolOp op [a] pos) t:=λaa s σ H Q I hw=>BoolOp_one (h aa s σ H Q I hw)
def Zq (ha:PE X a ta)(hb:PE X (.BoolOp .And (b::rest) pos) tb):PE X (.BoolOp .And (a::b::rest) pos) (Xh ta tb):=by
 intro aa s σ H Q I h;refine BoolOp_and (Ap (ha aa s σ H _ I h) λv s1 hp0=>?_);obtain⟨x,H1,I1,r1,q1⟩:=hp0;obtain⟨c,rfl,q1⟩:=q1;cases r1;refine Fi ?_;cases c with
 | true=>exact hb aa s1 σ H1 Q I1 q1
 | false=>exact⟨.bl false,H1,I1,rfl,q1⟩
def Zh (ha:PE X a ta):PE X (.UnaryOp .Not a pos) (WM ta):=by intro aa s σ H Q I h;refine UnaryOp_ (Ap (ha aa s σ H _ I h) λv s1 hp0=>?_);obtain⟨x,H1,I1,r1,q1⟩:=hp0;obtain⟨c,rfl,q1⟩:=q1;cases r1;exact not_of (Fi ⟨.bl (!c),H1,I1,rfl,q1⟩)
def W4 (t:TT)(ta tb:TE):TE:=λσ H Q=>t σ H λc H1=>if c=true then ta σ H1 Q else tb σ H1 Q
def Qu (hc:PT X c tA)(ha:PE X a ta)(hb:PE X b tb):PE X (.IfExp c a b pos) (W4 tA ta tb):=by
 intro aa s σ H Q I h;refine wpAny_IfExp (Ap (hc aa s σ H _ I h) λd s1 hp0=>?_);obtain⟨H1,I1,q1⟩:=hp0;cases d with
 | true=>exact ha aa s1 σ H1 Q I1 q1
 | false=>exact hb aa s1 σ H1 Q I1 q1
end
def SqL (K:W.Frag)(H:Hp)(a:Addr)(xs:List V):Prop:=
 Rd H a (.lst xs) \/
  ∃(o:Obj) (its:Array Value) (n:Nat),K.lookup a=some o/\o.cls=.type "list" /\ o.dict=none/\o.data=.seq its n/\its.size<=sizeLine/\Vals xs its.toList
def SqT (K:W.Frag)(H:Hp)(a:Addr)(xs:List V):Prop:=
 Rd H a (.tup xs) \/
  ∃(o:Obj) (its:Array Value) (n:Nat),K.lookup a=some o/\o.cls=.type "tuple" /\ o.data=.seq its n/\its.size<=sizeLine/\Vals xs its.toList
def I0:Value->Option V
 | .none=>some .non
 | .bool b=>some (.bl b)
 | .int i _=>some (.int i)
 | .str x _=>some (.str x)
 | .bytes b _=>some (.byt b)
 | .float b _=>some (.flt b)
 | .ref a=>some (.ref a)
 | .type n=>some (.ty n)
 | _=>none
def RelV.abs (r:RelV x u):I0 u=some x:=by
 cases x with
 | non=>cases r;rfl
 | bl _=>cases r;rfl
 | int _=>obtain⟨t,rfl⟩:=r;rfl
 | str _=>obtain⟨t,rfl⟩:=r;rfl
 | byt _=>obtain⟨t,rfl⟩:=r;rfl
 | flt _=>obtain⟨t,rfl⟩:=r;rfl
 | ref _=>cases r;rfl
 | ty _=>cases r;rfl
def RelV.inj (r:RelV x u)(q:RelV y u):x=y:=BS (r.abs.symm.trans q.abs)
theorem Vals.inj:∀{xs ys:List V}{us:List Value},Vals xs us->Vals ys us->xs=ys
 | _,_,_,.nil,.nil=>rfl
 | _,_,_,.cons r t,.cons r' t'=>by rw[r.inj r',Vals.inj t t']
section
variable {X:Cx}{aa:List (Addr×Obj)}{σ:St}{H:Hp}{s:Shared}{a:Addr}{xs ys:List V}
def SqL.of {K:W.Frag}(h:H a=some (.lst xs)):SqL K H a xs:=.inl (.inl h)
def SqT.of {K:W.Frag}(h:H a=some (.tup xs)):SqT K H a xs:=.inl (.inl h)
def Inv.list (I:Inv X aa σ H s)(h:SqL X.K H a xs):∃its:List Value,Vals xs its/\PlainL s.heap a its.toArray/\xs.length<=sizeLine:=by
 rcases h with h | ⟨o,its,n,hk,hc,hd,hs,hz,r⟩
 ·obtain⟨z,its,n,r,e⟩:=h.ok I.hok;exact⟨its,r,⟨_,n,e,rfl,rfl,rfl⟩,z⟩
 refine⟨its.toList,r,⟨o,n,I.kIn a o hk,hc,hd,by simpa using hs⟩,?_⟩;have e:=r.length;simp only[DM]at e;lia
def Inv.tuple (I:Inv X aa σ H s)(h:SqT X.K H a xs):∃its:List Value,Vals xs its/\IsTup s.heap a its.toArray/\xs.length<=sizeLine:=by
 rcases h with h | ⟨o,its,n,hk,hc,hs,hz,r⟩
 ·obtain⟨z,its,r,p⟩:=h.ok I.hok;exact⟨its,r,p,z⟩
 refine⟨its.toList,r,⟨o,I.kIn a o hk,hc,n,by simpa using hs⟩,?_⟩;have e:=r.length;simp only[DM]at e;lia
def Inv.list_inj (I:Inv X aa σ H s)(h:SqL X.K H a xs)(h':SqL X.K H a ys):xs=ys:=by
 obtain⟨its,r,⟨o,n,e,_,_,d⟩,_⟩:=I.list h;obtain⟨its',r',⟨o',n',e',_,_,d'⟩,_⟩:=I.list h';rw[e]at e';cases e';rw[d]at d';injection d' with d1 _;have:its=its':=by simpa using BY Array.toList d1
 subst this;exact r.inj r'
def Inv.tuple_inj (I:Inv X aa σ H s)(h:SqT X.K H a xs)(h':SqT X.K H a ys):xs=ys:=by
 obtain⟨its,r,⟨o,e,_,n,d⟩,_⟩:=I.tuple h;obtain⟨its',r',⟨o',e',_,n',d'⟩,_⟩:=I.tuple h';rw[e]at e';cases e';rw[d]at d';injection d' with d1 _;have:its=its':=by simpa using BY Array.toList d1
 subst this;exact r.inj r'
end
abbrev Cx.wish (X:Cx)(E:Value->Shared->Prop):Cx:={ X with xe:=E }
abbrev Cx.nox (X:Cx):Cx:=X.wish λ_ _=>False
def Cx.Ok.wish {X:Cx}(ok:X.Ok)(E:Value->Shared->Prop):(X.wish E).Ok:=
 ⟨ok.mod,ok.kind,ok.glob,ok.blt,ok.above,ok.inj,ok.has,ok.cab,ok.hd,ok.frames,ok.stk,ok.exf,ok.bs,ok.bsz,ok.noex,ok.exfs,ok.funs,ok.frf⟩
def Cx.Ok.unwish {X:Cx}{E:Value->Shared->Prop}(ok:(X.wish E).Ok):X.Ok:=
 ⟨ok.mod,ok.kind,ok.glob,ok.blt,ok.above,ok.inj,ok.has,ok.cab,ok.hd,ok.frames,ok.stk,ok.exf,ok.bs,ok.bsz,ok.noex,ok.exfs,ok.funs,ok.frf⟩
section
variable {X:Cx}{aa:List (Addr×Obj)}{σ:St}{H:Hp}{s:Shared}{E:Value->Shared->Prop}
def Inv.wish (I:Inv X aa σ H s)(E:Value->Shared->Prop):Inv (X.wish E) aa σ H s:=⟨I.ok.wish E,I.os,I.bare,I.base,I.loc,I.cell,I.free,I.freeC,I.pin,I.hok,I.len⟩
def Inv.unwish (I:Inv (X.wish E) aa σ H s):Inv X aa σ H s:=⟨I.ok.unwish,I.os,I.bare,I.base,I.loc,I.cell,I.free,I.freeC,I.pin,I.hok,I.len⟩
def SP.unwish (h:SP (X.wish E) aa D f s'):SP X aa D f s':=by
 cases f with
 | next=>obtain⟨σ',H',I,q⟩:=h;exact⟨σ',H',I.unwish,q⟩
 | brk=>obtain⟨σ',H',I,q⟩:=h;exact⟨σ',H',I.unwish,q⟩
 | cont=>obtain⟨σ',H',I,q⟩:=h;exact⟨σ',H',I.unwish,q⟩
 | ret u=>obtain⟨v,σ',H',I,r,q⟩:=h;exact⟨v,σ',H',I.unwish,r,q⟩
def PSs.nox {st:List Stmt}{t:TS}(h:PSs X.nox st t):PSs X st t:=λaa s σ H D I hw=>BI (h aa s σ H D (I.wish _) hw) (λ_ _ q=>q.unwish) λ_ _ z=>False.elim z
end
section
variable {X:Cx}{st:Stmt}{rest:List Stmt}{t u:TS}{e:Expr}{te:TE}{pos:Pos}
def A9:TS:=λD σ H=>D.nx σ H
def OO (t u:TS):TS:=λD σ H=>t { D with nx:=u D } σ H
def AD:PSs X [] A9:=λ_ _ σ H _ I h=>Jm ⟨σ,H,I,h⟩
def Af (h1:PS X st t)(h2:PSs X rest u):PSs X (st::rest) (OO t u):=by
 intro aa s σ H D I h;refine Of (Ap (h1 aa s σ H { D with nx:=u D } I h) λf s1 q=>?_);cases f with
 | next=>obtain⟨σ',H',I',q⟩:=q;exact h2 aa s1 σ' H' D I' q
 | ret v=>exact q
 | brk=>exact q
 | cont=>exact q
def Ah (h1:PS X st t):PSs X [st] t:=by
 intro aa s σ H D I h;refine Of (Ap (h1 aa s σ H D I h) λf s1 q=>?_);cases f with
 | next=>exact Jm q
 | ret v=>exact q
 | brk=>exact q
 | cont=>exact q
def Inv.quiet (I:Inv X aa σ H s):interactive X.env=false:=by simp[interactive,I.ok.kind]
def W8 (te:TE):TS:=λD σ H=>te σ H λ_ H1=>D.nx σ H1
def BD (he:PE X e te)(hs:swapsWith e none pos.line X.env=pure false:=by rfl):PS X (.Expr e pos) (W8 te):=by intro aa s σ H D I h;exact wpAny_Expr_any (Ap (he aa s σ H _ I h) λv s1 hp0=>by obtain⟨x,H1,I1,r1,q1⟩:=hp0;exact⟨σ,H1,I1,q1⟩) I.quiet hs
def WH (te:TE):TS:=λD σ H=>te σ H D.rt
def Ar (he:PE X e te):PS X (.Return (some e) pos) (WH te):=by intro aa s σ H D I h;exact wpAny_Return_some (Ap (he aa s σ H _ I h) λv s1 hp0=>by obtain⟨x,H1,I1,r1,q1⟩:=hp0;exact⟨x,σ,H1,I1,r1,q1⟩)
def W3 (c:TT)(t u:TS):TS:=λD σ H=>c σ H λb H1=>if b=true then t D σ H1 else u D σ H1
def AH (hc:PT X c tc)(ha:PSs X a t)(hb:PSs X b u):PS X (.If c a b pos) (W3 tc t u):=by
 intro aa s σ H D I h;refine wpAny_If (Ap (hc aa s σ H _ I h) λd s1 hp0=>?_);obtain⟨H1,I1,q1⟩:=hp0;cases d with
 | true=>exact ha aa s1 σ H1 D I1 q1
 | false=>exact hb aa s1 σ H1 D I1 q1
def WQ:TS:=λ_ _ _=>False
def EF :PSs X sts WQ:=λ_ _ _ _ _ _ h=>h.elim
end
abbrev TG:=V->St->Hp->(St->Hp->Prop)->Prop
abbrev OA:=List V->St->Hp->(St->Hp->Prop)->Prop
def PG (X:Cx)(target:Expr)(t:TG):Prop:=
 ∀(aa:List (Addr×Obj)) (s:Shared) (σ:St) (H:Hp) (v:V) (u:Value) (Q:St->Hp->Prop),Inv X aa σ H s->RelV v u->t v σ H Q ->
  wpAny (model X.prog X.w) X.A (assign target X.env u) (λ_ s'=>∃σ' H',Inv X aa σ' H' s'/\Q σ' H') X.xe s
def OF (X:Cx)(ts:List Expr)(t:OA):Prop:=
 ∀(aa:List (Addr×Obj)) (s:Shared) (σ:St) (H:Hp) (vs:List V) (us:List Value) (Q:St->Hp->Prop),Inv X aa σ H s->Vals vs us->t vs σ H Q ->
  wpAny (model X.prog X.w) X.A (assignInOrder ((assignEach ts X.env).map (·.2)) us) (λ_ s'=>∃σ' H',Inv X aa σ' H' s'/\Q σ' H') X.xe s
section
variable {X:Cx}{pos:Pos}
def EJ (i:Nat):TG:=λv σ H Q=>Q (σ.set i (some v)) H
def Qr (hN:X.N.Nodup)(hi:X.N[i]? = some x)(hx:Ju X.env.scope x)(hf:X.fn x=true\/X.env.scope.names.lookup x=some .local:=by first | exact .inl rfl | exact .inr rfl | assumption):PG X (.Name x pos) (EJ i):=by intro aa s σ H v u Q I r h;exact wpAny_assign_Name (OP I hN hi hx r (λs' I'=>⟨_,H,I',h⟩) hf)
def QP:OA:=λvs σ H Q=>vs=[]/\Q σ H
inductive IQ (t:TG)(u:OA)(vs:List V)(σ:St)(H:Hp)(Q:St->Hp->Prop):Prop
 | mk (v:_) (r:_) (c0:vs=v::r) (c1:t v σ H λσ' H'=>u r σ' H' Q):IQ t u vs σ H Q
def DU:OF X [] QP:=by intro aa s σ H vs us Q I r h;obtain⟨e,h⟩:=h;subst e;cases r;exact assignInOrder_nil ⟨σ,H,I,h⟩
def BP (h1:PG X e t)(h2:OF X es u)
  (hs:(assignEach (e::es) X.env).map (·.2)=assign e X.env::(assignEach es X.env).map (·.2):=by rfl):OF X (e::es) (IQ t u):=by
 intro aa s σ H vs us Q I r h
 obtain⟨v,vr,e1,h⟩:=h
 subst e1
 cases r with
 | cons r rr=>rw[hs];refine assignInOrder_cons (Ap (h1 aa s σ H _ _ _ I r h) λ_ s1 hp0=>?_);obtain⟨σ1,H1,I1,q1⟩:=hp0;exact h2 aa s1 σ1 H1 _ _ Q I1 rr q1
inductive IM (K:W.Frag)(n:Nat)(t:OA)(v:V)(σ:St)(H:Hp)(Q:St->Hp->Prop):Prop
 | mk (a:_) (xs:_) (c0:v=.ref a) (c1:SqT K H a xs) (c2:xs.length=n) (c3:t xs σ H Q):IM K n t v σ H Q
def DV {k:Nat} (hc:X.calm=true)(h:OF X es t)
  (hn:(assignEach es X.env).length=n:=by rfl)(hst:(assignEach es X.env).findIdx? (·.1)=none:=by rfl):PG X (.Tuple es k pos) (IM X.K n t):=by
 intro aa s σ H v u Q I r hw
 obtain⟨a,xs,e1,hq,hl,hw⟩:=hw
 subst e1
 cases r
 obtain⟨its,rv,ht,hz⟩:=I.tuple hq
 refine assign_Tuple_tuple (I.ok.hd hc) ht (by simp[hn,<- hl,rv.length]) hst λh' hx=>?_
 have I1:Inv X aa σ H { s with heap:=h' }:=I.kept (t':=s.toks) λb o e=>hx b o (AY (AF e)) e
 exact h aa _ σ H xs _ Q I1 (by simpa using rv) hw
def SQ (te:TE)(g:TG):TS:=λD σ H=>te σ H λx H1=>g x σ H1 D.nx
def Kb (hN:X.N.Nodup)(hi:X.N[i]? = some x)(hx:Ju X.env.scope x)(he:PE X e te)(hs:swapsWith e (some (.Name x pos')) pos.line X.env=pure false:=by rfl)(hf:X.fn x=true\/X.env.scope.names.lookup x=some .local:=by first | exact .inl rfl | exact .inr rfl | assumption) :
  PS X (.Assign [.Name x pos'] e pos) (SQ te (EJ i)):=by
 intro aa s σ H D I h
 refine wpAny_Assign_Name (Ap (he aa s σ H _ I h) λv s1 hp0=>?_) hs
 obtain⟨y,H1,I1,r1,q1⟩:=hp0
 exact OP I1 hN hi hx r1 (λs2 I2=>⟨_,H1,I2,q1⟩) hf
end
section
variable {X:Cx}{pos:Pos}
def Wy (c:TT)(tb:TS):TS:=λD σ H=>∃W:Nat->St->Hp->Prop,(∃m,W m σ H)/\∀m σ H,W m σ H ->
 c σ H λb H1=>if b=true then ∃N:St->Hp->Prop,(∀σ' H',N σ' H'->∃m',m'<m/\W m' σ' H')/\tb { D with nx:=N,ct:=N,bk:=D.nx } σ H1 else D.nx σ H1
def Y2 (hp:PassesOwn (model X.prog X.w) X.A X.env X.xe)(hc:PT X c tc)(hb:PSs X body tb):PS X (.While c body [] pos) (Wy tc tb):=by
 intro aa s σ H D I h;obtain⟨W,⟨m0,w0⟩,turn⟩:=h;refine wpAny_While (codeAny_whileLoop (λn s'=>∃σ' H',Inv X aa σ' H' s'/\W n σ' H') ?_ m0 ⟨σ,H,I,w0⟩);rintro n s1 ⟨σ1,H1,I1,w1⟩;refine Hh hp (Ap (hc aa s1 σ1 H1 _ I1 (turn n σ1 H1 w1)) λb s2 hp0=>?_);obtain⟨H2,I2,q2⟩:=hp0;cases b with
 | true=>
  obtain⟨N,hN,q2⟩:=q2;rw[AB rfl];refine Hh hp (Ap (hb aa s2 σ1 H2 _ I2 q2) λf s3 q3=>?_);cases f with
  | next=>obtain⟨σ3,H3,I3,n3⟩:=q3;obtain⟨m',hm,w3⟩:=hN σ3 H3 n3;exact⟨m',hm,σ3,H3,I3,w3⟩
  | cont=>obtain⟨σ3,H3,I3,n3⟩:=q3;obtain⟨m',hm,w3⟩:=hN σ3 H3 n3;exact⟨m',hm,σ3,H3,I3,w3⟩
  | brk=>exact q3
  | ret v=>exact q3
 | false=>rw[Ao B5];exact Jm ⟨σ1,H2,I2,q2⟩
end
structure It where
 go:Nat->Hp->Prop
 yld:Nat->Hp->V->Hp->Prop
 stop:Nat->Hp->Prop
def FpOk (X:Cx)(aa:List (Addr×Obj))(H:Hp)(b:Addr):Prop:=
 H b=none/\b≠X.env.locals/\b∉X.fs/\(b∈X.ex\/X.s₀.heap.objs.size<=b)/\(∀x c,X.env.cells.lookup x=some c->c≠b)/\∀p∈X.pn++aa,p.1≠b
def Inv.fpOk (I:Inv X aa σ H s)(hb:s.heap.objs.size<=b)(hn:H' b=none):FpOk X aa H' b:=by
 refine⟨hn,Dk (BJ I.lt hb),I.nofs hb,.inr (BV I.sz hb),λx c e z=>?_,λp hp z=>?_⟩
 ·obtain⟨v,q⟩:=I.cell x c e;exact absurd (BJ q.lt (by rw[z];exact hb)) (C7 _)
 exact absurd (BJ (AF (I.pin p hp).1) (by rw[z];exact hb)) (C7 _)
structure FS (P:Program)(w:World)(K:W.Frag)(tg:Expr)(J:It)(fp:List Addr)(it:Addr)(tn:Nat->Heap->Prop):Prop where
 mem:it∈fp
 obj:∀i h,tn i h->∀b∈fp,∃o,h.get? b=some o/\∀v,o.data≠.cell v
 keep:∀i h h',tn i h->(∀b∈fp,∀o,h.get? b=some o->h'.get? b=some o)->tn i h'
 item:∀(X:Cx),X.prog=P->X.w=w->X.K=K->X.calm=true->∀(i:Nat) (aa:List (Addr×Obj)) (s:Shared) (σ:St) (H:Hp) (E:Value->Shared->Prop),Inv X aa σ H s->(∀b∈fp,FpOk X aa H b)->tn i s.heap->J.go i H ->
  wpAny (model P w) X.A (pyNext (.ref it)) (λr s1=>∃u,r=some u /\
   wpAny (model P w) X.A (letOwnedTupleGo tg (.ref it) u) (λ_ s2=>∃x H',Inv X aa σ H' s2/\RelV x u/\J.yld i H x H'/\tn (i+1) s2.heap/\∀b∈fp,H' b=none) E s1) E s
 done:∀(X:Cx),X.prog=P->X.w=w->X.K=K->X.calm=true->∀(i:Nat) (aa:List (Addr×Obj)) (s:Shared) (σ:St) (H:Hp) (E:Value->Shared->Prop),Inv X aa σ H s->(∀b∈fp,FpOk X aa H b)->tn i s.heap->J.stop i H ->
  wpAny (model P w) X.A (pyNext (.ref it)) (λr s1=>r=none/\Inv X aa σ H s1) E s
 self:∀(A:Around) (i:Nat) (s:Shared) (Q:Value->Shared->Prop) (E:Value->Shared->Prop),tn i s.heap->Q (.ref it) s->wpAny (model P w) A (pyIter (.ref it)) Q E s
abbrev TI:=St->Hp->(It->Hp->Prop)->Prop
def VX (X:Cx)(aa:List (Addr×Obj))(σ:St)(tg:Expr)(R:It->Hp->Prop)(itv:Value)(s2:Shared):Prop:=
 ∃(it:Addr) (fp:List Addr) (tn:Nat->Heap->Prop) (J:It) (H':Hp),itv=.ref it/\Inv X aa σ H' s2/\FS X.prog X.w X.K tg J fp it tn/\tn 0 s2.heap/\(∀b∈fp,FpOk X aa H' b)/\R J H'
def PI (X:Cx)(tg iter:Expr)(wi:TI):Prop:=
 ∀(aa:List (Addr×Obj)) (s:Shared) (σ:St) (H:Hp) (R:It->Hp->Prop),Inv X aa σ H s->wi σ H R ->
  wpAny (model X.prog X.w) X.A (eval iter X.env) (λv s1=>wpAny (model X.prog X.w) X.A (pyIter v) (VX X aa σ tg R) X.xe s1) X.xe s
def Lf (ho:s.heap.get? it=some o)(hc:o.cls=.type n)(hd:o.data=.fields vs)
  (hn:["enumerate", "zip", "dict_itemiterator", "dict_reverseitemiterator", "odict_iterator", "itertools.zip_longest", "itertools.pairwise"].contains n=false)(hQ:Q () s):wpAny M A (letOwnedTupleGo tg (.ref it) u) Q E s:=by
 unfold letOwnedTupleGo
 cases tg <;> first
  | exact An hQ
  | (cases u <;> first
    | exact An hQ
    | (refine Ad (wpAny_load ho ?_)
       rw[hc,hd]
       show wpAny M A (if (["enumerate", "zip", "dict_itemiterator", "dict_reverseitemiterator", "odict_iterator", "itertools.zip_longest", "itertools.pairwise"].contains n && vs[0]? == some (rawInt _))=true then _ else _) Q E s
       rw[Ao (by intro h;rw[hn,Bool.false_and]at h;cases h)]
       exact An hQ))
def Ma (K:W.Frag)(a:Addr):It:=
 ⟨λi H=>∃xs x,SqL K H a xs/\xs[i]? = some x,λi H x H'=>H'=H/\∀xs,SqL K H a xs->xs[i]? = some x,λi H=>∃xs,SqL K H a xs/\xs.length<=i⟩
def L8 (K:W.Frag)(a:Addr):It:=
 ⟨λi H=>∃xs x,SqT K H a xs/\xs[i]? = some x,λi H x H'=>H'=H/\∀xs,SqT K H a xs->xs[i]? = some x,λi H=>∃xs,SqT K H a xs/\xs.length<=i⟩
def Jw (lo:Int)(n:Nat):It:=⟨λi _=>i<n,λi H x H'=>H'=H/\x=.int (lo+i),λi _=>n<=i⟩
theorem Ws {P:Program}{w:World}{K:W.Frag}{tg:Expr}(a it:Addr):FS P w K tg (Ma K a) [it] it (λi h=>h.IsListIter it a i) where
 mem:=by simp
 obj:=λi h st b hb=>by
  have e:b=it:=by simpa using hb
  subst e;obtain⟨o,e,c,d⟩:=st;exact⟨o,e,λv z=>by rw[d]at z;cases z⟩
 keep:=λi h h' st k=>st.at λo e=>k it (by simp) o e
 item:=by intro X hP hw hK hc i aa s σ H E I hf st hg;subst hP hw hK;obtain⟨xs,x,hq,hx⟩:=hg;obtain⟨its,rv,p,hz⟩:=I.list hq;obtain⟨u,hu,ru⟩:=rv.get hx;obtain⟨f0,f1,f2,f3,f4,f5⟩:=hf it (by simp);refine wpAny_pyNext_list_item st p.isList (x:=u) (by simpa using hu) λh' st' sb=>?_;have I1:Inv X aa σ H { s with heap:=h' }:=I.turned (t':=s.toks) (λb o hb e=>(sb.2 b hb).trans e) f0 f1 f3 f4 f5;obtain⟨o,e,c,d⟩:=id st';exact⟨u,rfl,Lf (s:={ s with heap:=h' }) e c d (by decide) ⟨x,H,I1,ru,⟨rfl,λys hy=>by rw[I.list_inj hy hq];exact hx⟩,st',λb hb=>(hf b hb).1⟩⟩
 done:=by intro X hP hw hK hc i aa s σ H E I hf st hg;subst hP hw hK;obtain⟨xs,hq,hx⟩:=hg;obtain⟨its,rv,p,hz⟩:=I.list hq;obtain⟨f0,f1,f2,f3,f4,f5⟩:=hf it (by simp);have hl:=rv.length;exact wpAny_pyNext_list_end (I.ok.hd hc) st p.isList (by simp;lia) λh' eb=>⟨rfl,I.turned (t':=s.toks) (λb o hb e=>eb b o hb e) f0 f1 f3 f4 f5⟩
 self:=λ_ _ _ _ _ st h=>wpAny_pyIter_listiter st h
theorem Wo {P:Program}{w:World}{K:W.Frag}{tg:Expr}(a it:Addr):FS P w K tg (L8 K a) [it] it (λi h=>h.IsTupleIter it a i) where
 mem:=by simp
 obj:=λi h st b hb=>by
  have e:b=it:=by simpa using hb
  subst e;obtain⟨o,e,c,d⟩:=st;exact⟨o,e,λv z=>by rw[d]at z;cases z⟩
 keep:=λi h h' st k=>st.at λo e=>k it (by simp) o e
 item:=by intro X hP hw hK hc i aa s σ H E I hf st hg;subst hP hw hK;obtain⟨xs,x,hq,hx⟩:=hg;obtain⟨its,rv,p,hz⟩:=I.tuple hq;obtain⟨u,hu,ru⟩:=rv.get hx;obtain⟨f0,f1,f2,f3,f4,f5⟩:=hf it (by simp);refine wpAny_pyNext_tuple_item st (show s.heap.IsTuple a its.toArray from p) (x:=u) (by simpa using hu) λh' st' sb=>?_;have I1:Inv X aa σ H { s with heap:=h' }:=I.turned (t':=s.toks) (λb o hb e=>(sb.2 b hb).trans e) f0 f1 f3 f4 f5;obtain⟨o,e,c,d⟩:=id st';exact⟨u,rfl,Lf (s:={ s with heap:=h' }) e c d (by decide) ⟨x,H,I1,ru,⟨rfl,λys hy=>by rw[I.tuple_inj hy hq];exact hx⟩,st',λb hb=>(hf b hb).1⟩⟩
 done:=by intro X hP hw hK hc i aa s σ H E I hf st hg;subst hP hw hK;obtain⟨xs,hq,hx⟩:=hg;obtain⟨its,rv,p,hz⟩:=I.tuple hq;obtain⟨f0,f1,f2,f3,f4,f5⟩:=hf it (by simp);have hl:=rv.length;exact wpAny_pyNext_tuple_end (I.ok.hd hc) st (show s.heap.IsTuple a its.toArray from p) (by simp;lia) λh' eb=>⟨rfl,I.turned (t':=s.toks) (λb o hb e=>eb b o hb e) f0 f1 f3 f4 f5⟩
 self:=λ_ _ _ _ _ st h=>wpAny_pyIter_tupleiter st h
theorem Wq {P:Program}{w:World}{K:W.Frag}{tg:Expr}(it:Addr)(lo:Int)(n:Nat):FS P w K tg (Jw lo n) [it] it (λi h=>IsRangeIter h it (lo+(i:Nat)*1) ((n:Int)-(i:Nat)) 1) where
 mem:=by simp
 obj:=λi h st b hb=>by
  have e:b=it:=by simpa using hb
  subst e;exact⟨_,st,λv z=>by have z':Data.fields _=Data.cell v:=z;cases z'⟩
 keep:=λi h h' st k=>k it (by simp) _ st
 item:=by intro X hP hw hK hc i aa s σ H E I hf st hg;subst hP hw hK;obtain⟨f0,f1,f2,f3,f4,f5⟩:=hf it (by simp);have W:=Walks.range (prog:=X.prog) (w:=X.w) (I.ok.hd hc) it lo 1 n;refine W.item i s _ _ hg st λv h' tk hv st' kk=>?_;obtain⟨t,rfl⟩:=hv;have I1:Inv X aa σ H { s with heap:=h',toks:=tk }:=I.turned (λb o hb e=>kk b o (by simpa using hb) e) f0 f1 f3 f4 f5;refine⟨_,rfl,Lf (s:={ s with heap:=h',toks:=tk }) (n := "range_iterator") st' rfl rfl (by decide) ⟨.int (lo+i),H,I1,⟨t,?_⟩,⟨rfl,rfl⟩,st',λb hb=>(hf b hb).1⟩⟩;rw[Int.mul_one]
 done:=by intro X hP hw hK hc i aa s σ H E I hf st hg;subst hP hw hK;obtain⟨f0,f1,f2,f3,f4,f5⟩:=hf it (by simp);exact wpAny_pyNext_range_end (I.ok.hd hc) st (by have:n<=i:=hg;lia) λh' eb=>⟨rfl,I.turned (t':=s.toks) (λb o hb e=>eb b o hb e) f0 f1 f3 f4 f5⟩
 self:=λ_ _ _ _ _ st h=>wpAny_pyIter_rangeiter st h
section
variable {X:Cx}{tg:Expr}
def Ut (K:W.Frag)(tl:TE):TI:=λσ H R=>tl σ H λx H1=>∃a,x=.ref a/\(∃xs,SqL K H1 a xs)/\R (Ma K a) H1
def kN (K:W.Frag)(tl:TE):TI:=λσ H R=>tl σ H λx H1=>∃a,x=.ref a/\(∃xs,SqT K H1 a xs)/\R (L8 K a) H1
def BG (hl:PE X l tl):PI X tg l (Ut X.K tl):=by
 intro aa s σ H R I h;refine Ap (hl aa s σ H _ I h) λv s1 hp0=>?_;obtain⟨x,H1,I1,r1,q1⟩:=hp0;obtain⟨a,e,⟨xs,hq⟩,q⟩:=q1;subst e;cases r1;obtain⟨its,rv,p,hz⟩:=I1.list hq;refine Jn p.isList ?_;refine⟨s1.heap.objs.size,[s1.heap.objs.size],_,_,H1,rfl,I1.kept (t':=s1.toks) λb o e=>AG _ e,Ws a _,⟨_,A7 _ rfl,rfl,rfl⟩,λb hb=>?_,q⟩;have e:b=s1.heap.objs.size:=by simpa using hb
 subst e;exact I1.fpOk (Am _) (I1.hok.fresh (Am _))
def Qo (hl:PE X l tl):PI X tg l (kN X.K tl):=by
 intro aa s σ H R I h;refine Ap (hl aa s σ H _ I h) λv s1 hp0=>?_;obtain⟨x,H1,I1,r1,q1⟩:=hp0;obtain⟨a,e,⟨xs,hq⟩,q⟩:=q1;subst e;cases r1;obtain⟨its,rv,p,hz⟩:=I1.tuple hq;refine Om (show s1.heap.IsTuple a its.toArray from p) ?_;refine⟨s1.heap.objs.size,[s1.heap.objs.size],_,_,H1,rfl,I1.kept (t':=s1.toks) λb o e=>AG _ e,Wo a _,⟨_,A7 _ rfl,rfl,rfl⟩,λb hb=>?_,q⟩;have e:b=s1.heap.objs.size:=by simpa using hb
 subst e;exact I1.fpOk (Am _) (I1.hok.fresh (Am _))
def YJ {aa:List (Addr×Obj)}{σ:St}{H:Hp}{s:Shared}{R:It->Hp->Prop}{E:Value->Shared->Prop}{lo hi:Int}{t u v:Tok}{tk:Nat}(I:Inv X aa σ H s)(h1:-(2^62)<=lo)(h2:lo<2^62)(h3:-(2^62)<=hi)(h4:hi<2^62)
  (q:R (Jw lo (hi-lo).toNat) H):wpAny (model X.prog X.w) X.A (pyIter (.ref s.heap.objs.size)) (VX X aa σ tg R) E { s with heap:=s.heap.push { cls:=.type "range",data:=.fields #[.int lo t,.int hi u,.int 1 v] },toks:=tk }:=by
 refine wpAny_pyIter_range (IsRange.new ..) (small_one h1 h2 h3 h4) ?_
 have I1:Inv X aa σ H { s with heap:=s.heap.push { cls:=.type "range",data:=.fields #[.int lo t,.int hi u,.int 1 v] },toks:=tk }:=I.kept λb o e=>AG _ e
 refine⟨(s.heap.push { cls:=.type "range",data:=.fields #[.int lo t,.int hi u,.int 1 v] }).objs.size,[(s.heap.push { cls:=.type "range",data:=.fields #[.int lo t,.int hi u,.int 1 v] }).objs.size],_,_,H,rfl,I1.kept (t':=tk) λb o e=>AG _ e,Wq _ lo (hi-lo).toNat,?_,λb hb=>?_,q⟩
 ·have e1:lo+((0:Nat):Int)*1=lo:=by simp
  have e2:(((hi-lo).toNat:Nat):Int)-((0:Nat):Int)=Builtin.Range.rangeSize lo hi 1:=by rw[rangeSize_one];split <;> lia
  show IsRangeIter _ _ (lo+((0:Nat):Int)*1) ((((hi-lo).toNat:Nat):Int)-((0:Nat):Int)) 1;rw[e1,e2];exact A7 _ rfl
 have e:b=(s.heap.push { cls:=.type "range",data:=.fields #[.int lo t,.int hi u,.int 1 v] }).objs.size:=by simpa using hb
 subst e
 exact I1.fpOk (Am _) (I1.hok.fresh (Am _))
def kQ (ta:TA):TI:=λσ H R=>ta σ H λvs H1=>∃j:Int,vs=[.int j]/\-(2^62)<=j/\j<2^62/\R (Jw 0 j.toNat) H1
def F2 (hg:Gl X "range")(hm:X.mg "range" = none)(ha:PA X [a] ta)(hs:starEach [a] X.env=[(false,eval a X.env)]:=by rfl):PI X tg (.Call (.Name "range" p) [a] [] pos) (kQ ta):=by
 intro aa s σ H R I h;refine Call_ (FF I hg hm boot_range (Ja (Ap (ha pos aa s σ H _ I h) λus s1 hp0=>?_) hs rfl));obtain⟨vs,H1,I1,r1,q1⟩:=hp0;obtain⟨j,e,q1,q2,q⟩:=q1;subst e;cases r1 with
 | cons r rr=>cases rr;obtain⟨t,rfl⟩:=r;exact call_range_1 (YJ I1 (by lia) (by lia) q1 q2 (by simpa using q))
def W5 (wi:TI)(g:TG)(tb:TS):TS:=λD σ H=>wi σ H λJ H1=>∃W:Nat->Nat->St->Hp->Prop,(∃m,W 0 m σ H1)/\∀i m σ H,W i m σ H ->
 (J.stop i H/\D.nx σ H)\/(J.go i H/\∃N:St->Hp->Prop,(∀σ' H',N σ' H'->∃m',m'<m/\W (i+1) m' σ' H')/\∀x H',J.yld i H x H'->g x σ H' λσ2 H2=>tb { D with nx:=N,ct:=N,bk:=D.nx } σ2 H2)
def Ke (fp:List Addr)(h:Heap):List (Addr×Obj):=fp.filterMap λb=>(h.get? b).map λo=>(b,o)
def Nz (hb:b∈fp)(e:h.get? b=some o):(b,o)∈Ke fp h:=LG.mpr ⟨b,hb,by rw[e];rfl⟩
def cI (hp:p∈Ke fp h):p.1∈fp/\h.get? p.1=some p.2:=by
 obtain⟨b,hb,e⟩:=LG.mp hp;cases q:h.get? b with
 | none=>rw[q]at e;cases e
 | some o=>rw[q]at e;have e':(b,o)=p:=BS e;subst e';exact⟨hb,q⟩
def Inv.pinned (I:Inv X aa σ H s)(hf:∀b∈fp,FpOk X aa H b)(ho:∀b∈fp,∃o,s.heap.get? b=some o/\∀v,o.data≠.cell v):Inv X (aa++Ke fp s.heap) σ H s:=
 I.pins_of λp hp=>(A5.mp hp).elim (λz=>I.pin p (C8 _ z)) λz=>by obtain⟨hb,e⟩:=cI z;obtain⟨f0,f1,f2,_⟩:=hf p.1 hb;obtain⟨o,e',d⟩:=ho p.1 hb;rw[e]at e';cases e';exact⟨e,f0,f1,f2,d⟩
def Inv.unpinned (I:Inv X (aa++pl) σ H s):Inv X aa σ H s:=I.pins_of λp hp=>I.pin p (C8 _ (Ec _ hp))
def BW (hp:PassesOwn (model X.prog X.w) X.A X.env X.xe)(hc:X.calm=true)(hi:PI X tg iter wi)(hg:PG X tg g)(hb:PSs X body tb)
  (hs:∀x,foldedSetIterable iter X.env x=pure x:=by intro _;rfl):PS X (.For tg iter body [] pos) (W5 wi g tb):=by
 intro aa s σ H D I h
 refine wpAny_For (Ap (hi aa s σ H _ I h) λv s1 h1=>Ap h1 λitv s2 h2=>?_) hs
 obtain⟨it,fp,tn,J,H2,e,I2,T,st2,f2,W,⟨m0,w0⟩,turn⟩:=h2
 subst e
 have stat:∀{H':Hp},(∀b∈fp,H' b=none)->∀b∈fp,FpOk X aa H' b:=λhn b hb=>⟨hn b hb,(f2 b hb).2⟩
 refine codeAny_forLoop_any (λn s'=>∃i σ' H',Inv X aa σ' H' s'/\tn i s'.heap/\(∀b∈fp,H' b=none)/\W i n σ' H') ?_ m0 ⟨0,σ,H2,I2,st2,λb hb=>(f2 b hb).1,w0⟩
 rintro n s3 ⟨i,σ3,H3,I3,st3,fr3,w3⟩
 rcases turn i n σ3 H3 w3 with⟨stop,qn⟩ | ⟨go,N,hN,step⟩
 ·refine Hh hp (Ap (T.done X rfl rfl rfl hc i aa s3 σ3 H3 X.xe I3 (stat fr3) st3 stop) λr s4 hp0=>?_);obtain⟨hr,I4⟩:=hp0;subst hr;exact Jm ⟨σ3,H3,I4,qn⟩
 refine Hh hp (Ap (T.item X rfl rfl rfl hc i aa s3 σ3 H3 X.xe I3 (stat fr3) st3 go) λr s4 hp0=>?_)
 obtain⟨u,hr,h4⟩:=hp0
 subst hr
 refine Hh hp (Ap h4 λ_ s5 hp0=>?_)
 obtain⟨x,H5,I5,r5,y5,st5,fr5⟩:=hp0
 have I5':=I5.pinned (stat fr5) (T.obj _ _ st5)
 refine Hh hp (Ap (hg _ s5 σ3 H5 x u _ I5' r5 (step x H5 y5)) λ_ s6 hp0=>?_)
 obtain⟨σ6,H6,I6,q6⟩:=hp0
 refine Hh hp (Ap (hb _ s6 σ6 H6 _ I6 q6) λf s7 q7=>?_)
 have again:∀{σ7:St}{H7:Hp},Inv X (aa++Ke fp s5.heap) σ7 H7 s7->N σ7 H7->∃m,m<n/\∃i σ' H',Inv X aa σ' H' s7/\tn i s7.heap/\(∀b∈fp,H' b=none)/\W i m σ' H':=λ{σ7 H7} I7 n7=>by obtain⟨m',hm,w7⟩:=hN σ7 H7 n7;refine⟨m',hm,i+1,σ7,H7,I7.unpinned,T.keep _ _ _ st5 λb hb o e=>(I7.pin (b,o) (C8 _ (C8 _ (Nz hb e)))).1,λb hb=>?_,w7⟩;obtain⟨o,e,d⟩:=T.obj _ _ st5 b hb;exact(I7.pin (b,o) (C8 _ (C8 _ (Nz hb e)))).2.1
 cases f with
 | next=>obtain⟨σ7,H7,I7,n7⟩:=q7;exact again I7 n7
 | cont=>obtain⟨σ7,H7,I7,n7⟩:=q7;exact again I7 n7
 | brk=>obtain⟨σ7,H7,I7,q7⟩:=q7;exact⟨σ7,H7,I7.unpinned,q7⟩
 | ret v=>obtain⟨x7,σ7,H7,I7,r7,q7⟩:=q7;exact⟨x7,σ7,H7,I7.unpinned,r7,q7⟩
end
def C1 {K:W.Frag}{a:Addr}{xs:List V}{g:TG}{tb:TS}{D:Fp}{σ:St}{H:Hp}(Pv:Nat->St->Hp->Prop)(h0:Pv 0 σ H)(hl:∀i σ H,i<=xs.length->Pv i σ H->SqL K H a xs)
  (hs:∀i x σ H,xs[i]? = some x->Pv i σ H->g x σ H λσ2 H2=>tb { D with nx:=Pv (i+1),ct:=Pv (i+1),bk:=D.nx } σ2 H2)(hd:∀σ H,Pv xs.length σ H->D.nx σ H) :
  ∃W:Nat->Nat->St->Hp->Prop,(∃m,W 0 m σ H)/\∀i m σ H,W i m σ H ->
   ((Ma K a).stop i H/\D.nx σ H)\/((Ma K a).go i H/\∃N:St->Hp->Prop,(∀σ' H',N σ' H'->∃m',m'<m/\W (i+1) m' σ' H')/\∀x H',(Ma K a).yld i H x H'->g x σ H' λσ2 H2=>tb { D with nx:=N,ct:=N,bk:=D.nx } σ2 H2):=by
 refine⟨λi m σ H=>m=xs.length-i/\i<=xs.length/\Pv i σ H,⟨xs.length,by simp,Bk _,h0⟩,?_⟩
 rintro i m σ H ⟨rfl,hi,p⟩
 have q:=hl i σ H hi p
 by_cases hlt:i<xs.length
 ·refine .inr ⟨⟨xs,xs[i],q,by simp[hlt]⟩,Pv (i+1),λσ' H' p'=>⟨xs.length-(i+1),by lia,rfl,hlt,p'⟩,λx H' y=>?_⟩;obtain⟨e,y⟩:=y;subst e;exact hs i x σ _ (y xs q) p
 have e:i=xs.length:=by lia
 subst e
 exact .inl ⟨⟨xs,q,Am _⟩,hd σ H p⟩
def lR {K:W.Frag}{a:Addr}{xs:List V}{g:TG}{tb:TS}{D:Fp}{σ:St}{H:Hp}(Pv:Nat->St->Hp->Prop)(h0:Pv 0 σ H)(hl:∀i σ H,i<=xs.length->Pv i σ H->SqT K H a xs)
  (hs:∀i x σ H,xs[i]? = some x->Pv i σ H->g x σ H λσ2 H2=>tb { D with nx:=Pv (i+1),ct:=Pv (i+1),bk:=D.nx } σ2 H2)(hd:∀σ H,Pv xs.length σ H->D.nx σ H) :
  ∃W:Nat->Nat->St->Hp->Prop,(∃m,W 0 m σ H)/\∀i m σ H,W i m σ H ->
   ((L8 K a).stop i H/\D.nx σ H)\/((L8 K a).go i H/\∃N:St->Hp->Prop,(∀σ' H',N σ' H'->∃m',m'<m/\W (i+1) m' σ' H')/\∀x H',(L8 K a).yld i H x H'->g x σ H' λσ2 H2=>tb { D with nx:=N,ct:=N,bk:=D.nx } σ2 H2):=by
 refine⟨λi m σ H=>m=xs.length-i/\i<=xs.length/\Pv i σ H,⟨xs.length,by simp,Bk _,h0⟩,?_⟩
 rintro i m σ H ⟨rfl,hi,p⟩
 have q:=hl i σ H hi p
 by_cases hlt:i<xs.length
 ·refine .inr ⟨⟨xs,xs[i],q,by simp[hlt]⟩,Pv (i+1),λσ' H' p'=>⟨xs.length-(i+1),by lia,rfl,hlt,p'⟩,λx H' y=>?_⟩;obtain⟨e,y⟩:=y;subst e;exact hs i x σ _ (y xs q) p
 have e:i=xs.length:=by lia
 subst e
 exact .inl ⟨⟨xs,q,Am _⟩,hd σ H p⟩
def UG {lo:Int}{n:Nat}{g:TG}{tb:TS}{D:Fp}{σ:St}{H:Hp}(Pv:Nat->St->Hp->Prop)(h0:Pv 0 σ H)
  (hs:∀i σ H,i<n->Pv i σ H->g (.int (lo+i)) σ H λσ2 H2=>tb { D with nx:=Pv (i+1),ct:=Pv (i+1),bk:=D.nx } σ2 H2)(hd:∀σ H,Pv n σ H->D.nx σ H) :
  ∃W:Nat->Nat->St->Hp->Prop,(∃m,W 0 m σ H)/\∀i m σ H,W i m σ H ->
   ((Jw lo n).stop i H/\D.nx σ H)\/((Jw lo n).go i H/\∃N:St->Hp->Prop,(∀σ' H',N σ' H'->∃m',m'<m/\W (i+1) m' σ' H')/\∀x H',(Jw lo n).yld i H x H'->g x σ H' λσ2 H2=>tb { D with nx:=N,ct:=N,bk:=D.nx } σ2 H2):=by
 refine⟨λi m σ H=>m=n-i/\i<=n/\Pv i σ H,⟨n,by simp,Bk _,h0⟩,?_⟩
 rintro i m σ H ⟨rfl,hi,p⟩
 by_cases hlt:i<n
 ·refine .inr ⟨hlt,Pv (i+1),λσ' H' p'=>⟨n-(i+1),by lia,rfl,hlt,p'⟩,λx H' y=>?_⟩;obtain⟨e,y⟩:=y;subst e y;exact hs i σ _ hlt p
 have e:i=n:=by lia
 subst e
 exact .inl ⟨Am _,hd σ H p⟩
abbrev R2:=V->V->Hp->VK->Prop
def By (X:Cx)(f:Value->Value->Sem Value)(r:R2):Prop:=
 ∀(aa:List (Addr×Obj)) (s:Shared) (σ:St) (H:Hp) (x y:V) (v u:Value) (Q:VK),Inv X aa σ H s->RelV x v->RelV y u->r x y H Q ->
  wpAny (model X.prog X.w) X.A (f v u) (EP X aa σ Q) X.xe s
def R5 (X:Cx)(f:Value->Sem Value)(r:V->Hp->VK->Prop):Prop:=
 ∀(aa:List (Addr×Obj)) (s:Shared) (σ:St) (H:Hp) (x:V) (v:Value) (Q:VK),Inv X aa σ H s->RelV x v->r x H Q ->
  wpAny (model X.prog X.w) X.A (f v) (EP X aa σ Q) X.xe s
def Cj (X:Cx)(f:Value)(r:List V->Hp->VK->Prop):Prop:=
 ∀(aa:List (Addr×Obj)) (s:Shared) (σ:St) (H:Hp) (xs:List V) (us:List Value) (Q:VK),Inv X aa σ H s->Vals xs us->r xs H Q ->
  wpAny (model X.prog X.w) X.A (call f us) (EP X aa σ Q) X.xe s
def pD (X:Cx)(r:V->Hp->(Bool->Hp->Prop)->Prop):Prop:=
 ∀(aa:List (Addr×Obj)) (s:Shared) (σ:St) (H:Hp) (x:V) (v:Value) (Q:Bool->Hp->Prop),Inv X aa σ H s->RelV x v->r x H Q ->
  wpAny (model X.prog X.w) X.A (truthy v) (TP X aa σ Q) X.xe s
def Mn (r:R2)(ta tb:TE):TE:=λσ H Q=>ta σ H λx H1=>tb σ H1 λy H2=>r x y H2 Q
def Wz (r:V->Hp->VK->Prop)(ta:TE):TE:=λσ H Q=>ta σ H λx H1=>r x H1 Q
inductive rI (C:Int->Int->Prop)(g:Int->Int->V)(x:V)(y:V)(H:Hp)(Q:VK):Prop
 | mk (i:_) (j:_) (c0:x=.int i) (c1:y=.int j) (c2:C i j) (c3:Q (g i j) H):rI C g x y H Q
inductive EE (g:Int->Int->V)(x:V)(y:V)(H:Hp)(Q:VK):Prop
 | mk (i:_) (j:_) (c0:x=.int i) (c1:y=.int j) (c2:Q (g i j) H):EE g x y H Q
def rU (g:Int->V):V->Hp->VK->Prop:=λx H Q=>∃i,x=.int i/\Q (g i) H
section
variable {X:Cx}{a b c:Expr}{ta tb tc:TE}{pos:Pos}
def Ra (ha:PE X a ta)(hb:PE X b tb){aa:List (Addr×Obj)}{s:Shared}{σ:St}{H:Hp}{R:V->V->Hp->Prop}(I:Inv X aa σ H s)
  (h:ta σ H λx H1=>tb σ H1 λy H2=>R x y H2){Q:Value->Shared->Prop}{f:Value->Value->Sem Value}
  (hf:∀v u s2 x y H2,Inv X aa σ H2 s2->RelV x v->RelV y u->R x y H2->wpAny (model X.prog X.w) X.A (f v u) Q X.xe s2) :
  wpAny (model X.prog X.w) X.A (eval a X.env) (λv s₁=>wpAny (model X.prog X.w) X.A (eval b X.env) (λu s₂=>wpAny (model X.prog X.w) X.A (f v u) Q X.xe s₂) X.xe s₁) X.xe s:=by
 refine Ap (ha aa s σ H _ I h) λv s1 hp0=>?_
 obtain⟨x,H1,I1,r1,q1⟩:=hp0
 refine Ap (hb aa s1 σ H1 _ I1 q1) λu s2 hp0=>?_
 obtain⟨y,H2,I2,r2,q2⟩:=hp0
 exact hf v u s2 x y H2 I2 r1 r2 q2
def Aw (ho:By X (binaryOp op) r)(ha:PE X a ta)(hb:PE X b tb):PE X (.BinOp a op b pos) (Mn r ta tb):=by intro aa s σ H Q I h;exact wpAny_BinOp (Ra ha hb I h λv u s2 x y H2 I2 rx ry q=>ho aa s2 σ H2 x y v u Q I2 rx ry q)
def Ng (ho:R5 X (unaryOp op) r)(ha:PE X a ta):PE X (.UnaryOp op a pos) (Wz r ta):=by intro aa s σ H Q I h;exact UnaryOp_ (Ap (ha aa s σ H _ I h) λv s1 hp0=>by obtain⟨x,H1,I1,r1,q1⟩:=hp0;exact ho aa s1 σ H1 x v Q I1 r1 q1)
def K5 {f:Value->Value->Sem Value}{C:Int->Int->Prop}{g:Int->Int->Int}
  (rule:∀(i j:Int) (t u:Tok) (s:Shared) (Q:Value->Shared->Prop) (E:Value->Shared->Prop),C i j->Q (.int (g i j) s.toks) { s with toks:=s.toks+1 }->wpAny (model X.prog X.w) X.A (f (.int i t) (.int j u)) Q E s) :
  By X f (rI C λi j=>.int (g i j)):=by
 intro aa s σ H x y v u Q I rx ry h
 obtain⟨i,j,rfl,rfl,hc,q⟩:=h
 obtain⟨t,rfl⟩:=rx
 obtain⟨t',rfl⟩:=ry
 exact rule i j t t' s _ _ hc ⟨.int (g i j),H,I.tok _,⟨_,rfl⟩,q⟩
def K4 {f:Value->Value->Sem Value}{g:Int->Int->Int}
  (rule:∀(i j:Int) (t u:Tok) (s:Shared) (Q:Value->Shared->Prop) (E:Value->Shared->Prop),Q (.int (g i j) s.toks) { s with toks:=s.toks+1 }->wpAny (model X.prog X.w) X.A (f (.int i t) (.int j u)) Q E s) :
  By X f (EE λi j=>.int (g i j)):=by
 intro aa s σ H x y v u Q I rx ry h
 obtain⟨i,j,rfl,rfl,q⟩:=h
 obtain⟨t,rfl⟩:=rx
 obtain⟨t',rfl⟩:=ry
 exact rule i j t t' s _ _ ⟨.int (g i j),H,I.tok _,⟨_,rfl⟩,q⟩
def QA {f:Value->Value->Sem Value}{g:Int->Int->Bool}
  (rule:∀(i j:Int) (t u:Tok) (s:Shared) (Q:Value->Shared->Prop) (E:Value->Shared->Prop),Q (.bool (g i j)) s->wpAny (model X.prog X.w) X.A (f (.int i t) (.int j u)) Q E s) :
  By X f (EE λi j=>.bl (g i j)):=by
 intro aa s σ H x y v u Q I rx ry h
 obtain⟨i,j,rfl,rfl,q⟩:=h
 obtain⟨t,rfl⟩:=rx
 obtain⟨t',rfl⟩:=ry
 exact rule i j t t' s _ _ ⟨.bl (g i j),H,I,rfl,q⟩
def V3 (i j:Int):Prop:=0<=j/\j<=1000000/\i.natAbs<2^64
def CMul (i j:Int):Prop:=(-(2^64)<i/\i<2^64)\/(-(2^64)<j/\j<2^64)
def CMul.ok (h:CMul i j):IntMulOk i j:=by
 rcases h with⟨h1,h2⟩ | ⟨h1,h2⟩
 ·exact .of_left (intBits_le_64 h1 h2)
 exact .of_right (intBits_le_64 h1 h2)
def Wm (k:Nat):(0:Int)<=2^k:=by rw[two_pow_cast];exact Int.natCast_nonneg _
def B6:By X (binaryOp .Add) (EE λi j=>.int (i+j)):=K4 λ_ _ _ _ _ _ _ q=>add_int q
def K1:By X (binaryOp .Sub) (EE λi j=>.int (i-j)):=K4 λ_ _ _ _ _ _ _ q=>sub_int q
def DI:By X (binaryOp .Mult) (rI CMul λi j=>.int (i*j)):=K5 λ_ _ _ _ _ _ _ hc q=>mul_int q hc.ok
def FA:By X (binaryOp .Mod) (rI (λ_ j=>0<j) λi j=>.int (i % j)):=K5 λi j _ _ _ _ _ hc q=>by have h1:(0:Int)<j:=hc;exact mod_int' (by lia) (by rw[Int.fmod_eq_emod_of_nonneg i (by lia)];exact q)
def Zx:By X (binaryOp .Pow) (rI V3 λi j=>.int (i^j.toNat)):=K5 λ_ _ _ _ _ _ _ hc q=>pow_int_small hc.1 hc.2.1 hc.2.2 q
def GQ:By X (binaryOp .LShift) (rI V3 λi j=>.int (i*2^j.toNat)):=K5 λ_ _ _ _ _ _ _ hc q=>lshift_int_small hc.1 hc.2.1 hc.2.2 q
def Nr:By X (binaryOp .RShift) (rI (λ_ j=>0<=j) λi j=>.int (i / 2^j.toNat)):=K5 λi j _ _ _ _ _ hc q=>rshift_int hc (by rw[Int.fdiv_eq_ediv_of_nonneg i (Wm _)];exact q)
def F5:By X (binaryOp .BitAnd) (EE λi j=>.int (Builtin.bitAnd i j)):=K4 λ_ _ _ _ _ _ _ q=>and_int q
def F4:By X (binaryOp .BitOr) (EE λi j=>.int (Builtin.bitOr i j)):=K4 λ_ _ _ _ _ _ _ q=>or_int q
def Zw:By X (binaryOp .BitXor) (EE λi j=>.int (Builtin.bitXor i j)):=K4 λ_ _ _ _ _ _ _ q=>xor_int q
def Wl {f:Value->Sem Value}{g:Int->Int}
  (rule:∀(i:Int) (t:Tok) (s:Shared) (Q:Value->Shared->Prop) (E:Value->Shared->Prop),Q (.int (g i) s.toks) { s with toks:=s.toks+1 }->wpAny (model X.prog X.w) X.A (f (.int i t)) Q E s) :
  R5 X f (rU λi=>.int (g i)):=by
 intro aa s σ H x v Q I rx h
 obtain⟨i,rfl,q⟩:=h
 obtain⟨t,rfl⟩:=rx
 exact rule i t s _ _ ⟨.int (g i),H,I.tok _,⟨_,rfl⟩,q⟩
def Mi:R5 X (unaryOp .USub) (rU λi=>.int (-i)):=Wl λ_ _ _ _ _ q=>neg_int q
end
def S2:V->V->Bool
 | .non,.non=>true | .non,.int _=>true | .int _,.non=>true | .non,.bl _=>true | .bl _,.non=>true | .non,.str _=>true | .str _,.non=>true
 | .int _,.int _=>true | .bl _,.bl _=>true | .str _,.str _=>true | .byt _,.byt _=>true
 | .int _,.str _=>true | .str _,.int _=>true | .bl _,.str _=>true | .str _,.bl _=>true
 | _,_=>false
def YU:R2:=λx y H Q=>S2 x y=true/\Q (.bl (decide (x=y))) H
def YQ:R2:=λx y H Q=>S2 x y=true/\Q (.bl (!decide (x=y))) H
def U8 :decide (V.int i=V.int j)=(i == j):=by rw[CT];simp
def Va :decide (V.bl i=V.bl j)=(i == j):=by rw[CT];simp
def U7 :decide (V.str i=V.str j)=(i == j):=by rw[CT];simp
def U9 :decide (V.byt i=V.byt j)=(i.toList == j.toList):=by rw[CT];cases i;cases j;simp
section
variable {X:Cx}{a b c:Expr}{ta tb tc:TE}{pos:Pos}
def BE {k:Bool}(I:Inv X aa σ H s)(q:Q (.bl k) H)(e:k=k'):EP X aa σ Q (.bool k') s:=by subst e;exact⟨.bl k,H,I,rfl,q⟩
def BA:By X (compareOp .Eq) YU:=by
 intro aa s σ H x y v u Q I rx ry h;obtain⟨hs,q⟩:=h;cases x with
 | non=>
  cases rx;cases y with
  | non=>cases ry;exact PySem.EqNone.eq_none_none (BE I q (by simp))
  | bl j=>cases ry;exact PySem.EqNone.eq_none_bool (BE I q (by simp))
  | int j=>obtain⟨t',rfl⟩:=ry;exact PySem.EqNone.eq_none_int (BE I q (by simp))
  | str j=>obtain⟨t',rfl⟩:=ry;exact PySem.EqNone.eq_none_str (BE I q (by simp))
  | _=>exact absurd (show false=true from hs) B5
 | bl i=>
  cases rx;cases y with
  | non=>cases ry;exact PySem.EqNone.eq_bool_none (BE I q (by simp))
  | bl j=>cases ry;exact eq_bool (BE I q Va)
  | str j=>obtain⟨t',rfl⟩:=ry;exact PySem.EqMixed.eq_bool_str (BE I q (by simp))
  | _=>exact absurd (show false=true from hs) B5
 | int i=>
  obtain⟨t,rfl⟩:=rx;cases y with
  | non=>cases ry;exact PySem.EqNone.eq_int_none (BE I q (by simp))
  | int j=>obtain⟨t',rfl⟩:=ry;exact eq_int (BE I q U8)
  | str j=>obtain⟨t',rfl⟩:=ry;exact PySem.EqMixed.eq_int_str (BE I q (by simp))
  | _=>exact absurd (show false=true from hs) B5
 | str i=>
  obtain⟨t,rfl⟩:=rx;cases y with
  | non=>cases ry;exact PySem.EqNone.eq_str_none (BE I q (by simp))
  | bl j=>cases ry;exact PySem.EqMixed.eq_str_bool (BE I q (by simp))
  | int j=>obtain⟨t',rfl⟩:=ry;exact PySem.EqMixed.eq_str_int (BE I q (by simp))
  | str j=>obtain⟨t',rfl⟩:=ry;exact eq_str (BE I q U7)
  | _=>exact absurd (show false=true from hs) B5
 | byt i=>
  obtain⟨t,rfl⟩:=rx;cases y with
  | byt j=>obtain⟨t',rfl⟩:=ry;exact PySem.W.eq_bytes (BE I q U9)
  | _=>exact absurd (show false=true from hs) B5
 | _=>cases y <;> exact absurd (show false=true from hs) B5
def IE:By X (compareOp .NotEq) YQ:=by
 intro aa s σ H x y v u Q I rx ry h;obtain⟨hs,q⟩:=h;cases x with
 | non=>
  cases rx;cases y with
  | non=>cases ry;exact PySem.EqNone.ne_none_none (BE I q (by simp))
  | bl j=>cases ry;exact PySem.EqNone.ne_none_bool (BE I q (by simp))
  | int j=>obtain⟨t',rfl⟩:=ry;exact PySem.EqNone.ne_none_int (BE I q (by simp))
  | str j=>obtain⟨t',rfl⟩:=ry;exact PySem.EqNone.ne_none_str (BE I q (by simp))
  | _=>exact absurd (show false=true from hs) B5
 | bl i=>
  cases rx;cases y with
  | non=>cases ry;exact PySem.EqNone.ne_bool_none (BE I q (by simp))
  | bl j=>cases ry;exact ne_bool (BE I q (BY not Va))
  | str j=>obtain⟨t',rfl⟩:=ry;exact PySem.EqMixed.ne_bool_str (BE I q (by simp))
  | _=>exact absurd (show false=true from hs) B5
 | int i=>
  obtain⟨t,rfl⟩:=rx;cases y with
  | non=>cases ry;exact PySem.EqNone.ne_int_none (BE I q (by simp))
  | int j=>obtain⟨t',rfl⟩:=ry;exact ne_int (BE I q (BY not U8))
  | str j=>obtain⟨t',rfl⟩:=ry;exact PySem.EqMixed.ne_int_str (BE I q (by simp))
  | _=>exact absurd (show false=true from hs) B5
 | str i=>
  obtain⟨t,rfl⟩:=rx;cases y with
  | non=>cases ry;exact PySem.EqNone.ne_str_none (BE I q (by simp))
  | bl j=>cases ry;exact PySem.EqMixed.ne_str_bool (BE I q (by simp))
  | int j=>obtain⟨t',rfl⟩:=ry;exact PySem.EqMixed.ne_str_int (BE I q (by simp))
  | str j=>obtain⟨t',rfl⟩:=ry;exact ne_str (BE I q (BY not U7))
  | _=>exact absurd (show false=true from hs) B5
 | byt i=>
  obtain⟨t,rfl⟩:=rx;cases y with
  | byt j=>obtain⟨t',rfl⟩:=ry;exact PySem.W.ne_bytes (BE I q (BY not U9))
  | _=>exact absurd (show false=true from hs) B5
 | _=>cases y <;> exact absurd (show false=true from hs) B5
def K2:By X (compareOp .Lt) (EE λi j=>.bl (decide (i<j))):=QA λ_ _ _ _ _ _ _ q=>lt_int q
def GR:By X (compareOp .LtE) (EE λi j=>.bl (decide (i<=j))):=QA λ_ _ _ _ _ _ _ q=>le_int q
def K3:By X (compareOp .Gt) (EE λi j=>.bl (decide (j<i))):=QA λ_ _ _ _ _ _ _ q=>gt_int q
def GT:By X (compareOp .Is) (λx y H Q=>y=.non/\Q (.bl (decide (x=.non))) H):=by
 intro aa s σ H x y v u Q I rx ry h;obtain⟨rfl,q⟩:=h;cases ry;refine is_none_gen (BE I q ?_)
 cases x <;> first
  | (cases rx;rfl)
  | (obtain⟨t,rfl⟩:=rx;rfl)
def Nt:By X (compareOp .IsNot) (λx y H Q=>y=.non/\Q (.bl (!decide (x=.non))) H):=by
 intro aa s σ H x y v u Q I rx ry h;obtain⟨rfl,q⟩:=h;cases ry;refine isnot_none_gen (BE I q ?_)
 cases x <;> first
  | (cases rx;rfl)
  | (obtain⟨t,rfl⟩:=rx;rfl)
def AO (b:Expr) (h:op≠.In:=by decide)(h2:op≠.NotIn:=by decide):behindInMarks op b=false:=by
 have e1:(op == CmpOp.In)=false:=by cases op <;> first | rfl | exact absurd rfl h
 have e2:(op == CmpOp.NotIn)=false:=by cases op <;> first | rfl | exact absurd rfl h2
 cases b <;> simp[behindInMarks,e1,e2]
def Nj (ho:By X (compareOp op) r)(ha:PE X a ta)(hb:PE X b tb)(hm:behindInMarks op b=false):PE X (.Compare a [op] [b] pos) (Mn r ta tb):=by intro aa s σ H Q I h;exact wpAny_Compare1 (Ra ha hb I h λv u s2 x y H2 I2 rx ry q=>ho aa s2 σ H2 x y v u Q I2 rx ry q) hm
inductive Up (Q:Bool->Hp->Prop)(x:V)(H':Hp):Prop
 | mk (k:_) (c0:x=.bl k) (c1:Q k H'):Up Q x H'
def SH (t:TE):TT:=λσ H Q=>t σ H λx H'=>Up Q x H'
def AS (ho:By X (compareOp op) r)(ha:PE X a ta)(hb:PE X b tb)(hm:behindInMarks op b=false):PT X (.Compare a [op] [b] pos) (SH (Mn r ta tb)):=by intro aa s σ H Q I h;refine wpAny_isTrue_Compare1 (Ap (ha aa s σ H _ I h) λv s1 ⟨x,H1,I1,r1,q1⟩=>Ap (hb aa s1 σ H1 _ I1 q1) λu s2 ⟨y,H2,I2,r2,q2⟩=>Ap (ho aa s2 σ H2 x y v u _ I2 r1 r2 q2) λc s3 ⟨z,H3,I3,r3,k,e,q3⟩=>?_) hm;subst e;cases r3;exact Fi ⟨H3,I3,q3⟩
def SM (r r':R2)(ta tb tc:TE):TE:=λσ H Q=>ta σ H λx H1=>tb σ H1 λy H2=>r x y H2 λz H3=>∃k,z=.bl k /\
 (if k=true then tc σ H3 λw' H4=>r' y w' H4 Q else Q (.bl false) H3)
def Zp (ho:By X (compareOp op) r)(ho':By X (compareOp op') r')(ha:PE X a ta)(hb:PE X b tb)(hc:PE X c tc)
  (hm:lastMarks [op,op'] [b,c]=false:=by with_unfolding_all rfl):PE X (.Compare a [op,op'] [b,c] pos) (SM r r' ta tb tc):=by
 intro aa s σ H Q I h
 refine Compare_chain (Ap (ha aa s σ H _ I h) λv s1 ⟨x,H1,I1,r1,q1⟩=>chain_link (Ap (hb aa s1 σ H1 _ I1 q1) λu s2 ⟨y,H2,I2,r2,q2⟩=>Ap (ho aa s2 σ H2 x y v u _ I2 r1 r2 q2) λd s3 ⟨z,H3,I3,r3,k,e,q3⟩=>?_)) hm
 subst e
 cases r3
 refine Fi ?_
 cases k with
 | false=>exact ite_ff ⟨.bl false,H3,I3,rfl,q3⟩
 | true=>exact ite_tt (chain_last (Ap (hc aa s3 σ H3 _ I3 q3) λw' s4 hp0=>by obtain⟨z',H4,I4,r4,q4⟩:=hp0;exact ho' aa s4 σ H4 y z' u w' Q I4 r2 r4 q4))
def Qi (ho:By X (compareOp op) r)(ho':By X (compareOp op') r')(ha:PE X a ta)(hb:PE X b tb)(hc:PE X c tc)
  (hm:lastMarks [op,op'] [b,c]=false:=by with_unfolding_all rfl):PT X (.Compare a [op,op'] [b,c] pos) (SH (SM r r' ta tb tc)):=by
 intro aa s σ H Q I h
 refine isTrue_chain (Ap (ha aa s σ H _ I h) λv s1 ⟨x,H1,I1,r1,q1⟩=>test_link (Ap (hb aa s1 σ H1 _ I1 q1) λu s2 ⟨y,H2,I2,r2,q2⟩=>Ap (ho aa s2 σ H2 x y v u _ I2 r1 r2 q2) λd s3 ⟨z,H3,I3,r3,k,e,q3⟩=>?_)) hm
 subst e
 cases r3
 refine Fi ?_
 cases k with
 | false=>obtain⟨k',e',q'⟩:=q3;cases e';exact ite_ff ⟨H3,I3,q'⟩
 | true=>refine ite_tt (test_last (Ap (hc aa s3 σ H3 _ I3 q3) λw' s4 hp0=>?_));obtain⟨z',H4,I4,r4,q4⟩:=hp0;refine Ap (ho' aa s4 σ H4 y z' u w' _ I4 r2 r4 q4) λd' s5 hp1=>?_;obtain⟨z2,H5,I5,r5,k2,e2,q5⟩:=hp1;subst e2;cases r5;exact Fi ⟨H5,I5,q5⟩
def pB (K:W.Frag)(x:V)(H:Hp)(k:Bool):Prop:=
 match x with
 | .non=>k=false
 | .bl b=>k=b
 | .int i=>k=(i != 0)
 | .str y=>y.length<=sizeLine/\k=((y.length:Int) != 0)
 | .byt y=>y.size<=sizeLine/\k=((y.size:Int) != 0)
 | .ref p=>(∃xs,SqL K H p xs/\k=!xs.isEmpty)\/(∃xs,SqT K H p xs/\k=!xs.isEmpty)\/∃kvs,H p=some (.dK kvs)/\k=!kvs.isEmpty
 | _=>False
def kC {κ:Type}{kvs:List (κ×V)}{vs:List (κ×Value)}(r:KV kvs vs):(!vs.isEmpty)=!kvs.isEmpty:=by cases r <;> rfl
def Ul (r:Vals xs its):(!its.toArray.isEmpty)=!xs.isEmpty:=by cases r <;> simp
def K7:(sizeLine:Nat)<2^63:=by rw[AL];decide
def Wv:pD X (λx H Q=>∃k,pB X.K x H k/\Q k H):=by
 intro aa s σ H x v Q I rx h;obtain⟨k,e,q⟩:=h;have hl:=K7;have hs:sizeLine=16777216:=AL;cases x with
 | non=>cases rx;have e':k=false:=e;subst e';exact truthy_none ⟨H,I,q⟩
 | bl b=>cases rx;have e':k=b:=e;subst e';exact Fi ⟨H,I,q⟩
 | int i=>obtain⟨t,rfl⟩:=rx;have e':k=(i != 0):=e;subst e';exact PySem.P.truthy_int ⟨H,I,q⟩
 | str y=>obtain⟨t,rfl⟩:=rx;obtain⟨hy,e'⟩:y.length<=sizeLine/\k=((y.length:Int) != 0):=e;subst e';exact PySem.P.truthy_str (by lia) ⟨H,I.tok _,q⟩
 | byt y=>obtain⟨t,rfl⟩:=rx;obtain⟨hy,e'⟩:y.size<=sizeLine/\k=((y.size:Int) != 0):=e;subst e';exact PySem.W.truthy_bytes (by lia) ⟨H,I.tok _,q⟩
 | ref p=>
  cases rx;have e':(∃xs,SqL X.K H p xs/\k=!xs.isEmpty)\/(∃xs,SqT X.K H p xs/\k=!xs.isEmpty)\/∃kvs,H p=some (.dK kvs)/\k=!kvs.isEmpty:=e;rcases e' with⟨xs,hx,e'⟩ | ⟨xs,hx,e'⟩ | ⟨kvs,hx,e'⟩
  ·subst e';obtain⟨its,r,pl,hz⟩:=I.list hx;have hlen:=r.length;exact wpAny_truthy_list pl.isList (by simp only[Bx];lia) ⟨H,I.tok _,by rw[Ul r];exact q⟩
  ·subst e';obtain⟨its,r,pl,hz⟩:=I.tuple hx;have hlen:=r.length;exact truthy_tuple pl (by simp only[Bx];lia) ⟨H,I.tok _,by rw[Ul r];exact q⟩
  subst e';obtain⟨hz,hS,vs,r,m⟩:kvs.length<=sizeLine/\(p == sysModules)=false/\∃vs,KV kvs vs/\s.heap.DictOf (BB X.prog X.w) p vs:=I.hok p _ hx;have hlen:kvs.length=vs.length:=N6 r;exact wpAny_truthy_dict hS m (by lia) ⟨H,I.tok _,by rw[kC r];exact q⟩
 | _=>exact(show False from e).elim
inductive Th (x y:V)(H:Hp)(Q:VK):Prop
 | mk (i:_) (j:_) (c0:x=.str i) (c1:y=.str j) (c2:i.length+j.length<=sizeLine) (c3:Q (.str (i++j)) H):Th x y H Q
def Qz:By X (binaryOp .Add) Th:=by intro aa s σ H x y v u Q I rx ry h;obtain⟨i,j,rfl,rfl,hz,q⟩:=h;obtain⟨t,rfl⟩:=rx;obtain⟨t',rfl⟩:=ry;exact add_str (λt' tk=>⟨.str (i++j),H,I.tok _,⟨_,rfl⟩,q⟩) hz
def CV (r:Vals [x] us):∃u,us=[u]/\RelV x u:=by
 cases r with
 | cons r1 r2=>cases r2;exact⟨_,rfl,r1⟩
def Fq (r:Vals [x,y] us):∃u w',us=[u,w']/\RelV x u/\RelV y w':=by
 cases r with
 | cons r1 r2=>
  cases r2 with
  | cons r3 r4=>cases r4;exact⟨_,_,rfl,r1,r3⟩
def pJ (K:W.Frag)(x:V)(H:Hp)(n:Nat):Prop:=
 match x with
 | .str y=>y.length<=sizeLine/\n=y.length
 | .byt y=>y.size<=sizeLine/\n=y.size
 | .ref p=>(∃xs,SqL K H p xs/\n=xs.length)\/∃xs,SqT K H p xs/\n=xs.length
 | _=>False
inductive Tf (K:W.Frag)(xs:List V)(H:Hp)(Q:VK):Prop
 | mk (x:_) (n:_) (c0:xs=[x]) (c1:pJ K x H n) (c2:Q (.int n) H):Tf K xs H Q
def C2:Cj X (.builtin "len") (Tf X.K):=by
 intro aa s σ H xs us Q I r h;obtain⟨x,n,rfl,e,q⟩:=h;obtain⟨u,rfl,rx⟩:=CV r;have hl:=K7;have hs:sizeLine=16777216:=AL;cases x with
 | str y=>obtain⟨t,rfl⟩:=rx;obtain⟨hy,e'⟩:y.length<=sizeLine/\n=y.length:=e;subst e';exact len_str (by lia) ⟨.int _,H,I.tok _,⟨_,rfl⟩,q⟩
 | byt y=>obtain⟨t,rfl⟩:=rx;obtain⟨hy,e'⟩:y.size<=sizeLine/\n=y.size:=e;subst e';exact PySem.W.len_bytes (by lia) ⟨.int _,H,I.tok _,⟨_,rfl⟩,q⟩
 | ref p=>
  cases rx;have e':(∃xs,SqL X.K H p xs/\n=xs.length)\/∃xs,SqT X.K H p xs/\n=xs.length:=e;rcases e' with⟨xs,hx,e'⟩ | ⟨xs,hx,e'⟩
  ·subst e';obtain⟨its,r',pl,hz⟩:=I.list hx;have hlen:=r'.length;exact Calls.call_len_list pl.isList (by simp only[Bx];lia) ⟨.int xs.length,H,I.tok _,⟨_,by simp only[Bx];rw[hlen]⟩,q⟩
  subst e';obtain⟨its,r',pl,hz⟩:=I.tuple hx;have hlen:=r'.length;exact len_tuple pl (by simp only[Bx];lia) ⟨.int xs.length,H,I.tok _,⟨_,by simp only[Bx];rw[hlen]⟩,q⟩
 | _=>exact(show False from e).elim
end
structure ObjM (h:Heap)(x dx C:Addr)(mA:Str->Option Value):Prop where
 obj:h.get? x=some (PySem.W.instObj C dx)
 ns:h.Ns1 dx mA
 ne:dx≠x
def QG {h:Heap}{dx:Addr}{mA:Str->Option Value}(n:h.Ns1 dx mA):∃od,h.get? dx=some od/\∀name,PySem.W.lookIn name od=some (mA name):=by
 obtain⟨o,es,ep,ho,hd,hk,_,hm⟩:=n;refine⟨o,ho,λname=>?_⟩;have e:=hm name;unfold nsFind findBy at e;rw[<- Array.find?_toList]at e;unfold PySem.W.lookIn;rw[hd];dsimp only;split
 ·rename_i y q;rw[q]at e;exact BY some e
 rename_i q;rw[q]at e;have a:es.toList.any (·.refKey)=false:=by rw[Hg];intro y hy;obtain⟨z,t,hkey⟩:=hk y (Array.mem_toList_iff.mp hy);simp[DictEntry.refKey,hkey]
 have a':¬es.toList.any (·.refKey)=true:=by rw[a];exact B5
 rw[Ao a'];exact BY some e
def ObjM.look (I:ObjM h x dx C mA):∃od,PySem.W.InstAt h x (PySem.W.instObj C dx) C (some od)/\∀name,PySem.W.lookIn name od=some (mA name):=
 let ⟨od,ho,hl⟩:=QG I.ns
 ⟨od,⟨I.obj,rfl,rfl,ho⟩,hl⟩
section
variable {prog:Program}{w:World}{A:Around}{E:Value->Shared->Prop}{s:Shared}{K:W.Frag}{x dx C f:Addr}{mA:Str->Option Value}{name:Str}{v:Value}
def lI (X:K.In s.heap)(I:ObjM s.heap x dx C mA)(hg:PySem.W.plainGet K C name=true)(hh:PySem.W.hasDictIn K C=true)
  (ha:PySem.W.findIn K (.ref C) name=some none)(hv:mA name=some v)(hv':PySem.W.handedIn v=true)(h:Q v { s with toks:=s.toks+1 }) :
  wpAny (model prog w) A (getAttr (.ref x) name expr) Q E s:=by
 obtain⟨od,J,hl⟩:=I.look
 exact PySem.W.get_value X J (RI hg).1 (PySem.W.findObj_own hh ha rfl (by rw[hl,hv])) hv' h
def lH (X:K.In s.heap)(I:ObjM s.heap x dx C mA)(hg:PySem.W.plainGet K C name=true)
  (hf:PySem.W.findIn K (.ref C) name=some (some (.ref f)))(ht:PySem.W.isFn K (.ref f)=true)(hv:mA name=none)(h:Q (.ref f,[.ref x]) s) :
  wpAny (model prog w) A (getMethod (.ref x) name pl) Q E s:=by
 obtain⟨od,J,hl⟩:=I.look
 exact PySem.W.method_fn X J (RI hg).1 (RI hg).2 hf (EB.mp ht) (by show(PySem.W.lookIn name od).map (·.isSome)=some false;rw[hl,hv];rfl) h
def XG (X:K.In s.heap)(I:ObjM s.heap x dx C mA)
  (hs:PySem.W.findIn K (.ref C) "__setattr__" = some (some (.builtin "object.__setattr__")))(hp:PySem.W.plainOver K C=true)(ht:PySem.W.takerIn K C name=some none)(hh:PySem.W.hasDictIn K C=true)
  (hw:PySem.Within mA ns)(hsz:ns.length<=sizeLine)
  (h:∀h',ObjM h' x dx C (λy=>if y=name then some v else mA y)->Heap.SameBut dx s.heap h'->Q () { s with heap:=h',toks:=s.toks+2 }) :
  wpAny (model prog w) A (setAttr (.ref x) name v) Q E s:=by
 obtain⟨od,J,hl⟩:=I.look
 refine PySem.W.set_plain X J hs (PySem.W.osa_open (s:={ s with toks:=s.toks+1 }) (r:=none) X J hp ht λb=>?_)
 obtain⟨cd,hc,hd'⟩:=PySem.W.any_some hh
 have hx:s.heap.get? x=some ⟨.ref C,some dx,.plain,#[]⟩:=I.obj
 refine Ad (An (Ad (Ad (wpAny_loadPart hx (Ad (PySem.W.Looks.here (s:={ s with toks:=s.toks+1 }) (N5 X hc) ?_))))))
 rw[hd']
 refine An (a:=some dx) (Ad (An (Ad ?_)))
 refine wpAny_nsSet1 (s:={ s with toks:=s.toks+1 }) I.ns λh' hn2 hs2=>?_
 obtain⟨oD,esD,epD,hoD,hdD,hcD⟩:=hn2.count (Rf name v hw)
 refine Ad (wpAny_lookBehind hoD (by rw[hdD];exact pastItsLine_dict (BV hcD (by rw[CF];lia))) ?_)
 exact An (h _ ⟨(hs2.2 _ (DB I.ne)).trans I.obj,hn2,I.ne⟩ hs2)
def iK (X:K.In s.heap)(hm:PySem.W.makesIn K C=true)
  (hi:PySem.W.findIn K (.ref C) "__init__" = some (some (.ref f)))(hf:PySem.W.typeIn K (.ref f)=some (.type "function"))
  (h:codeAny (model prog w) (A.under (.builtin "type.__call__" ⟨.ref C::vs,kw⟩)) (.call (.ref f) ⟨.ref (s.heap.objs.size+1)::vs,kw⟩) (PySem.W.InitBack (s.heap.objs.size+1) R) { s with heap:=(s.heap.push PySem.W.emptyDict).push (PySem.W.instObj C s.heap.objs.size) }) :
  codeAny (model prog w) A (.call (.ref C) ⟨vs,kw⟩) R s:=by
 obtain⟨hh,g,d,t,os⟩:=s
 exact PySem.W.make_core (PySem.W.makes_of X hm) (Oe X hi) (λself=>PySem.W.bind_fn X self hf) (.inl rfl) h
def iJ (X:K.In s.heap)(hm:PySem.W.makesIn K C=true)
  (hi:PySem.W.findIn K (.ref C) "__init__" = some (some (.builtin "object.__init__")))
  (hb:∀self,PySem.W.Looks (model prog w) s.heap (bindSpecial (.builtin "object.__init__") self) (.builtin "object.__init__",[self]))
  (h:codeAny (model prog w) (A.under (.builtin "type.__call__" ⟨[.ref C],[]⟩)) (.call (.builtin "object.__init__") ⟨[.ref (s.heap.objs.size+1)],[]⟩) (PySem.W.InitBack (s.heap.objs.size+1) R) { s with heap:=(s.heap.push PySem.W.emptyDict).push (PySem.W.instObj C s.heap.objs.size) }) :
  codeAny (model prog w) A (.call (.ref C) ⟨[],[]⟩) R s:=by
 obtain⟨hh,g,d,t,os⟩:=s
 exact PySem.W.make_core (PySem.W.makes_of X hm) (Oe X hi) hb (.inr ⟨rfl,rfl⟩) h
end
def AI (f:Str)(v:V):List (Str×V)->List (Str×V)
 | []=>[(f,v)]
 | (g,x)::r=>if g=f then(g,v)::r else(g,x)::AI f v r
theorem Bh (f g:Str)(v:V):∀fs:List (Str×V),(AI f v fs).lookup g=if g=f then some v else fs.lookup g
 | []=>by
  show List.lookup g [(f,v)]=_;by_cases h:g=f
  ·have hb:(g == f)=true:=EB.mpr h;simp only[List.lookup,hb,AB h]
  have hb:(g == f)=false:=G4.mpr h;simp only[List.lookup,hb,Ao h]
 | (k,x)::r=>by
  have ih:=Bh f g v r;rw[show AI f v ((k,x)::r)=(if k=f then(k,v)::r else(k,x)::AI f v r) from rfl];by_cases hk:k=f
  ·rw[AB hk];by_cases h:g=k
   ·have hb:(g == k)=true:=EB.mpr h;simp only[List.lookup,hb,AB (h.trans hk)]
   have hb:(g == k)=false:=G4.mpr h;simp only[List.lookup,hb,Ao (λe:g=f=>h (e.trans hk.symm))]
  rw[Ao hk];by_cases h:g=k
  ·have hb:(g == k)=true:=EB.mpr h;simp only[List.lookup,hb,Ao (λe:g=f=>hk (h.symm.trans e))]
  have hb:(g == k)=false:=G4.mpr h;simp only[List.lookup,hb];exact ih
theorem La (f:Str)(v:V):∀fs:List (Str×V),f∈(AI f v fs).map (·.1)/\∀g,g∈fs.map (·.1)->g∈(AI f v fs).map (·.1)
 | []=>⟨by simp[AI],λg h=>by simp at h⟩
 | (k,x)::r=>by
  obtain⟨i1,i2⟩:=La f v r;rw[show AI f v ((k,x)::r)=(if k=f then(k,v)::r else(k,x)::AI f v r) from rfl];by_cases hk:k=f
  ·rw[AB hk];subst hk;exact⟨by simp,λg h=>by simpa using h⟩
  rw[Ao hk];refine⟨?_,λg h=>?_⟩
  ·rw[BU];exact Bn _ i1
  rw[BU]at h ⊢;rcases(AK.mp h)with e | e
  ·exact AK.mpr (.inl e)
  exact Bn _ (i2 g e)
theorem T6 (f:Str)(v:V):∀fs:List (Str×V),(AI f v fs).length<=fs.length+1
 | []=>by simp[AI]
 | (k,x)::r=>by
  have ih:=T6 f v r;rw[show AI f v ((k,x)::r)=(if k=f then(k,v)::r else(k,x)::AI f v r) from rfl];by_cases hk:k=f
  ·rw[AB hk,CF,CF];lia
  rw[Ao hk,CF,CF];lia
def RelO.some_of (r:RelO (some v) o):∃u,o=some u/\RelV v u:=by
 cases o with
 | none=>exact(show False from r).elim
 | some u=>exact⟨u,rfl,r⟩
def RelO.none_of (r:RelO none o):o=none:=by
 cases o with
 | none=>rfl
 | some u=>exact(show False from r).elim
def Uy (r:RelV v u):PySem.W.handedIn u=true:=by
 cases v with
 | non=>cases (show u=Value.none from r);rfl
 | bl b=>cases (show u=Value.bool b from r);rfl
 | int i=>obtain⟨t,e⟩:=(show ∃t,u=Value.int i t from r);cases e;rfl
 | str x=>obtain⟨t,e⟩:=(show ∃t,u=Value.str x t from r);cases e;rfl
 | byt b=>obtain⟨t,e⟩:=(show ∃t,u=Value.bytes b t from r);cases e;rfl
 | flt b=>obtain⟨t,e⟩:=(show ∃t,u=Value.float b t from r);cases e;rfl
 | ref a=>cases (show u=Value.ref a from r);rfl
 | ty n=>cases (show u=Value.type n from r);rfl
section
variable {P:Program}{w:World}{H H':Hp}{h h':Heap}{a C dx:Addr}{fs fs':List (Str×V)}
def IL (hok:HOk P w H h)(e:H a=some (.ins C dx fs)):∃mA,ObjM h a dx C mA/\(∀f,RelO (fs.lookup f) (mA f))/\PySem.Within mA (fs.map (·.1))/\fs.length<=1000/\H dx=some (.own a):=by obtain⟨d,z,ne,ob,mA,n,r,q⟩:=(show ObjOk P w H h a (.ins C dx fs) from hok a _ e);exact⟨mA,⟨ob,n,ne⟩,r,q,z,d⟩
end
structure Cls (K:W.Frag)(C:Addr):Prop where
 pg:PySem.W.plainGet K C Str.empty=true
 hd:PySem.W.hasDictIn K C=true
 po:PySem.W.plainOver K C=true
 sa:PySem.W.findIn K (.ref C) "__setattr__" = some (some (.builtin "object.__setattr__"))
def Cls.get {K:W.Frag}{C:Addr}(c:Cls K C)(f:Str):PySem.W.plainGet K C f=true:=c.pg
def NoAttr (K:W.Frag)(C:Addr)(f:Str):Prop:=PySem.W.findIn K (.ref C) f=some none
def NoAttr.taker {K:W.Frag}{C:Addr}{f:Str}(n:NoAttr K C f):PySem.W.takerIn K C f=some none:=by unfold PySem.W.takerIn;rw[show PySem.W.findIn K (.ref C) f=some none from n];rfl
structure B9 (K:W.Frag)(C:Addr)(m:Str)(f:Addr):Prop where
 at_:PySem.W.findIn K (.ref C) m=some (some (.ref f))
 fn:PySem.W.isFn K (.ref f)=true
 kp:PySem.W.keepIn K (.ref f)=true
section
variable {X:Cx}{aa:List (Addr×Obj)}{σ:St}{H:Hp}{s:Shared}{a C dx:Addr}{fs:List (Str×V)}{f:Str}{v:V}{A:Around}{E:Value->Shared->Prop}
def lG (I:Inv X aa σ H s)(e:H a=some (.ins C dx fs))(c:Cls X.K C)(n:NoAttr X.K C f)(l:fs.lookup f=some v)
  (h:∀u s',Inv X aa σ H s'->RelV v u->Q u s'):wpAny (model X.prog X.w) A (getAttr (.ref a) f b) Q E s:=by
 obtain⟨mA,O,r,_,_,_⟩:=IL I.hok e
 obtain⟨u,hu,ru⟩:=RelO.some_of (v:=v) (o:=mA f) (by rw[<- l];exact r f)
 exact lI I.kIn O (c.get f) c.hd n hu (Uy ru) (h u _ (I.tok _) ru)
def QO (I:Inv X aa σ H s)(e:H a=some (.ins C dx fs))(c:Cls X.K C)(k:B9 X.K C m g)(l:fs.lookup m=none)
  (h:Q (.ref g,[.ref a]) s):wpAny (model X.prog X.w) A (getMethod (.ref a) m pl) Q E s:=by
 obtain⟨mA,O,r,_,_,_⟩:=IL I.hok e
 have hn:mA m=none:=RelO.none_of (by rw[<- l];exact r m)
 exact lH I.kIn O (c.get m) k.at_ k.fn hn h
def XF (I:Inv X aa σ H s)(e:H a=some (.ins C dx fs))(c:Cls X.K C)(n:NoAttr X.K C f)(hl:fs.length<1000)(ry:RelV y u)
  (h:∀s',Inv X aa σ (upd H a (.ins C dx (AI f y fs))) s'->Q () s'):wpAny (model X.prog X.w) A (setAttr (.ref a) f u) Q E s:=by
 obtain⟨mA,O,r,wi,_,ho⟩:=IL I.hok e
 have hz:(fs.map (·.1)).length<=sizeLine:=by rw[Al,AL];lia
 refine XG I.kIn O c.sa c.po n.taker c.hd wi hz λh' O' sb=>h _ ?_
 have hd:∃o,h'.get? dx=some o:=let ⟨o,_,_,e',_⟩:=O'.ns;⟨o,e'⟩
 refine I.write (x:=a) (e:=dx) (by rw[e];exact EA) (.inr ho) (λb q hb z=>(sb.2 b hb).trans z) hd ?_
 refine⟨by rw[Aj O.ne];exact ho,?_,O.ne,O'.obj,_,O'.ns,λg=>?_,λg hg=>?_⟩
 ·have:=T6 f y fs;lia
 ·show RelO ((AI f y fs).lookup g) (if g=f then some u else mA g);rw[Bh];by_cases q:g=f
  ·rw[AB q,AB q];exact ry
  rw[Ao q,Ao q];exact r g
 by_cases q:g=f
 ·rw[q];exact(La f y fs).1
 refine(La f y fs).2 g (wi g λz=>hg ?_)
 show(if g=f then some u else mA g)=none
 rw[Ao q];exact z
def Inv.made (I:Inv X aa σ H s):Inv X aa σ (upd (upd H s.heap.objs.size (.own (s.heap.objs.size+1))) (s.heap.objs.size+1) (.ins C s.heap.objs.size []))
  { s with heap:=(s.heap.push PySem.W.emptyDict).push (PySem.W.instObj C s.heap.objs.size) }:=by
 have e1:(s.heap.push PySem.W.emptyDict).get? s.heap.objs.size=some PySem.W.emptyDict:=A7 s.heap rfl
 have e2:((s.heap.push PySem.W.emptyDict).push (PySem.W.instObj C s.heap.objs.size)).get? (s.heap.objs.size+1)=some (PySem.W.instObj C s.heap.objs.size):=by have:=A7 (s.heap.push PySem.W.emptyDict) (o:=PySem.W.instObj C s.heap.objs.size) rfl;rwa [Eb]at this
 have e3:(s.heap.push PySem.W.emptyDict).Ns s.heap.objs.size (λ_=>none):=⟨PySem.W.emptyDict,#[],_,e1,rfl,(λe he=>absurd he (by simp)),λ_=>rfl⟩
 have I1:=I.laid (a:=s.heap.objs.size) (o:=.own (s.heap.objs.size+1)) (h':=s.heap.push PySem.W.emptyDict) (t':=s.toks) (λb u q=>AG _ q) (Am _) ⟨_,e1⟩
 refine I1.laid (a:=s.heap.objs.size+1) (o:=.ins C s.heap.objs.size []) (t':=s.toks) (λb u q=>AG _ q) (le_of_eq (Eb _ _)) ?_
 have ne:s.heap.objs.size≠s.heap.objs.size+1:=AY (Fo _)
 refine⟨by rw[Aj ne,Ae],Bk _,ne,e2,λ_=>none,(Heap.Ns1.of_empty e3).at λo q=>AG _ q,λ_=>EA,λy hy=>absurd rfl hy⟩
def VD (hb:attributeBase e f env (eval e env)=eval e env)
  (h:wpAny (model prog w) A (eval e env) (λo s₁=>wpAny (model prog w) A (getAttr o f true) Q E s₁) E s):wpAny (model prog w) A (eval (.Attribute e f pos) env) Q E s:=
 Attribute_any_ h (by rw[arm_eval_Attribute,hb])
end
inductive Uw (K:W.Frag)(f:Str)(Q:VK)(x:V)(H1:Hp):Prop
 | mk (a:_) (C:_) (dx:_) (fs:_) (v:_) (c0:x=.ref a) (c1:H1 a=some (.ins C dx fs)) (c2:Cls K C) (c3:NoAttr K C f) (c4:fs.lookup f=some v) (c5:Q v H1):Uw K f Q x H1
def W7 (K:W.Frag)(ta:TE)(f:Str):TE:=λσ H Q=>ta σ H λx H1=>Uw K f Q x H1
def Yx (K:W.Frag)(ta tv:TE)(f:Str):TS:=λD σ H=>tv σ H λy H1=>ta σ H1 λx H2=>∃a C dx fs,x=.ref a/\H2 a=some (.ins C dx fs)/\Cls K C/\NoAttr K C f/\fs.length<1000 /\
 D.nx σ (upd H2 a (.ins C dx (AI f y fs)))
section
variable {X:Cx}{o e value:Expr}{f:Str}{pos pos' tpos:Pos}{ta tv:TE}
def Co (he:PE X e ta)(hb:attributeBase e f X.env (eval e X.env)=eval e X.env):PE X (.Attribute e f pos) (W7 X.K ta f):=by intro aa s σ H Q I h;refine VD hb (Ap (he aa s σ H _ I h) λu s1 hp0=>?_);obtain⟨x,H1,I1,rx,a,C,dx,fs,v,ex,ea,c,n,l,q⟩:=hp0;subst ex;obtain rfl:u=Value.ref a:=rx;exact lG I1 ea c n l λu' s2 I2 ru=>⟨v,H1,I2,ru,q⟩
def DT (ha:PE X o ta)(hv:PE X value tv)(hs:swapsWith value (some (.Attribute o f pos')) pos.line X.env=pure false):PS X (.Assign [.Attribute o f pos'] value pos) (Yx X.K ta tv f):=by intro aa s σ H D I h;refine R3 (Ap (hv aa s σ H _ I h) λu s1 hp0=>?_) hs;obtain⟨y,H1,I1,ry,q⟩:=hp0;refine Ap (ha aa s1 σ H1 _ I1 q) λov s2 hp1=>?_;obtain⟨x,H2,I2,rx,a,C,dx,fs,ex,ea,c,n,l,q2⟩:=hp1;subst ex;obtain rfl:ov=Value.ref a:=rx;exact XF I2 ea c n l ry λs3 I3=>⟨σ,_,I3,q2⟩
end
structure Room (k:Nat)(A:Around):Prop where
 hd:A.handled=none
 dp:A.depth+3*k+5<recursionLimit
 un:A.units+16*k+200<cLine
def Room.mono {k:Nat} (r:Room k A)(h:j<=k):Room j A:=⟨r.hd,by have:=r.dp;lia,by have:=r.un;lia⟩
def Room.deeper {k:Nat} (r:Room (k+1) A)(env:Env):Room k (A.deeper env):=
 ⟨r.hd,by have:=r.dp;show A.depth+1+3*k+5<_;lia,by have:=r.un;show A.units+3+16*k+200<_;lia⟩
def iM {A:Around}{C:Addr}{us:List Value}{kw:List (Str×Value)}:(A.under (.builtin "type.__call__" ⟨.ref C::us,kw⟩)).depth=A.depth+1:=by first | rfl | simp[Around.under,Code.weight,Code.isCreation,Code.isGuard,Code.isCaller,Code.frames,Code.isFrame,guardIds]
def iI {A:Around}{C:Addr}{us:List Value}{kw:List (Str×Value)}:(A.under (.builtin "type.__call__" ⟨.ref C::us,kw⟩)).units=A.units+1:=by first | rfl | simp[Around.under,Code.cUnits,Code.frames,Code.isFrame]
def Room.make {k:Nat} (r:Room (k+1) A)(C:Addr)(us:List Value)(kw:List (Str×Value)):Room k (A.under (.builtin "type.__call__" ⟨.ref C::us,kw⟩)):=
 ⟨r.hd,by have:=r.dp;rw[iM];lia,by have:=r.un;rw[iI];lia⟩
def Room.depth {k:Nat} (r:Room k A):A.depth<recursionLimit:=by have:=r.dp;lia
def Room.units {k:Nat} (r:Room k A):A.units+64<cLine:=by have:=r.un;lia
def SJ:TA:=λ_ H Q=>Q [] H
def Xe (ta:TE)(tr:TA):TA:=λσ H Q=>ta σ H λx H1=>tr σ H1 λxs H2=>Q (x::xs) H2
section
variable {X:Cx}{e:Expr}{es:List Expr}{te:TE}{t:TA}{pos:Pos}
def Ab:PA X [] SJ:=λ_ _ _ _ H Q I h=>Rv ⟨[],H,I,.nil,h⟩
def Aa (ha:PE X e te)(hr:PA X es t)(hs:starEach (e::es) X.env=(false,eval e X.env)::starEach es X.env:=by rfl):PA X (e::es) (Xe te t):=by intro pos aa s σ H Q I h;rw[hs];show wpAny _ _ (spliced ((false,eval e X.env)::backTo pos (starEach es X.env))) _ _ s;refine Ol (Ap (ha aa s σ H _ I h) λu s1 hp0=>?_);obtain⟨x,H1,I1,r1,q1⟩:=hp0;exact Ap (hr pos aa s1 σ H1 _ I1 q1) λus s2 hp0=>by obtain⟨xs,H2,I2,r2,q2⟩:=hp0;exact⟨x::xs,H2,I2,.cons r1 r2,q2⟩
def WA (t:TA):TE:=λσ H Q=>t σ H λxs H1=>xs.length<=sizeLine/\∀p,H1 p=none->Q (.ref p) (upd H1 p (.tup xs))
def WW (t:TA):TE:=λσ H Q=>t σ H λxs H1=>xs.length<=sizeLine/\∀p,H1 p=none->Q (.ref p) (upd H1 p (.lst xs))
def Bd {x1}(h:PA X es t):PE X (.Tuple es x1 pos) (WA t):=by intro aa s σ H Q I hq;refine wpAny_Tuple_spliced (Ap (h pos aa s σ H _ I hq) λus s1 hp0=>?_);obtain⟨xs,H1,I1,r,z,q⟩:=hp0;refine⟨by rw[<- r.length];exact z,?_⟩;have hf:H1 s1.heap.objs.size=none:=I1.hok.fresh (Am _);refine⟨.ref s1.heap.objs.size,upd H1 s1.heap.objs.size (.tup xs),I1.laid (t':=s1.toks) (λb u e=>AG _ e) (Am _) ?_,rfl,q _ hf⟩;exact⟨z,us,r,⟨_,A7 _ rfl,rfl,_,rfl⟩⟩
def Cy (h:PA X es t):PE X (.List es pos) (WW t):=by intro aa s σ H Q I hq;refine wpAny_List_spliced (Ap (h pos aa s σ H _ I hq) λus s1 hp0=>?_);obtain⟨xs,H1,I1,r,z,q⟩:=hp0;refine⟨by rw[<- r.length];exact z,?_⟩;have hf:H1 s1.heap.objs.size=none:=I1.hok.fresh (Am _);refine⟨.ref s1.heap.objs.size,upd H1 s1.heap.objs.size (.lst xs),I1.laid (t':=s1.toks) (λb u e=>AG _ e) (Am _) ?_,rfl,q _ hf⟩;exact⟨z,us,0,r,A7 _ rfl⟩
end
abbrev Sp:=List V->Hp->VK->XK->Prop
abbrev DD:=List Env->Hp->Shared->XK->Value->Shared->Prop
structure Env0 (P:Program)(w:World)(K:W.Frag)(mg:Str->Option Value)(base:Heap)(A:Around)(ag:List Env)(s:Shared)(H:Hp):Prop where
 frames:A.frames=some ag
 mod:Mod K mg base
 bs:∀b o,base.get? b=some o->s.heap.get? b=some o/\H b=none
 bsz:base.objs.size<=s.heap.objs.size
 funs:s.heap.FunFrames base ag
 frf:∀b∈frs ag,H b=none
 hok:HOk P w H s.heap
 bare:AllBare s.gens
def CE (ag:List Env)(P:Program)(w:World)(H:Hp)(s:Shared)(Q:VK)(u:Value)(s':Shared):Prop:=
 ∃v H',s'.os=s.os/\AllBare s'.gens/\Un (frs ag) [] H H' s.heap s'.heap/\HOk P w H' s'.heap/\RelV v u/\Q v H'
def CR (CX:DD)(ag:List Env)(P:Program)(w:World)(H:Hp)(s:Shared)(Q:VK)(E:XK)(r:Result)(s':Shared):Prop:=
 match r with
 | .ok (.ret u)=>CE ag P w H s Q u s'
 | .ok _=>False
 | .error e=>CX ag H s E e s'
structure FnOk (P:Program)(w:World)(K:W.Frag)(mg:Str->Option Value)(base:Heap)(CX:DD)(k:Nat)(f:Addr)(fd:FuncData)(ps:List Str)(sp:Sp):Prop where
 len:∀vs H Q E,sp vs H Q E->vs.length=ps.length
 run:∀(A:Around) (ag:List Env) (s:Shared) (H:Hp) (args:Args) (us:List Value) (vs:List V) (Q:VK) (E:XK),Room k A->Env0 P w K mg base A ag s H->BindsTo s fd args (ps.zip us)->Vals vs us->sp vs H Q E ->
  codeAny (model P w) A (.call (.ref f) args) (CR CX ag P w H s Q E) s
def FnOk.imp {P:Program}{w:World}{K:W.Frag}{mg:Str->Option Value}{base:Heap}{CX:DD}{k:Nat}{f:Addr}{fd:FuncData}{ps:List Str}{sp sp':Sp}(F:FnOk P w K mg base CX k f fd ps sp)
  (h:∀vs H Q E,sp' vs H Q E->sp vs H Q E):FnOk P w K mg base CX k f fd ps sp':=
 ⟨λvs H Q E q=>F.len vs H Q E (h _ _ _ _ q),λA ag s H args us vs Q E hr he hb hv hs=>F.run A ag s H args us vs Q E hr he hb hv (h _ _ _ _ hs)⟩
def Env0.make {P:Program}{w:World}{K:W.Frag}{mg:Str->Option Value}{base:Heap}{A:Around}{ag:List Env}{s:Shared}{H:Hp}(e:Env0 P w K mg base A ag s H)(C:Addr)(us:List Value)(kw:List (Str×Value)) :
  Env0 P w K mg base (A.under (.builtin "type.__call__" ⟨.ref C::us,kw⟩)) ag s H:=⟨by first | exact e.frames | (simpa [Around.under,Code.envs,Code.isFrame,pushEnvs] using e.frames),e.mod,e.bs,e.bsz,e.funs,e.frf,e.hok,e.bare⟩
section
variable {X:Cx}{aa:List (Addr×Obj)}{σ:St}{H:Hp}{s s':Shared}
def Inv.env0 (I:Inv X aa σ H s):Env0 X.prog X.w X.K X.mg X.base X.A X.stack s H:=
 ⟨I.ok.frames,I.ok.mod,I.bs,BV I.ok.bsz I.sz,I.stack,I.stkFree,I.hok,I.bare⟩
def Inv.after (I:Inv X aa σ H s)(h:CE X.stack X.prog X.w H s Q u s'):EP X aa σ Q u s':=by obtain⟨v,H',os,bare,un,hok,r,q⟩:=h;obtain⟨hh,g,d,t,os'⟩:=s';obtain rfl:os'=s.os:=os;exact⟨v,H',I.call (h':=hh) (g':=g) (d':=d) (t':=t) (ch:=[]) un hok bare (λb z=>absurd z (by simp)),r,q⟩
end
def SN (sp:Sp)(dvs:List V)(E:XK)(t:TA):TE:=λσ H Q=>t σ H λvs H1=>sp (vs++dvs) H1 Q E
inductive Uk (C:Addr)(m:Str)(x:V)(H1:Hp)(R:Prop):Prop
 | mk (a:_) (dx:_) (fs:_) (c0:x=.ref a) (c1:H1 a=some (.ins C dx fs)) (c2:fs.lookup m=none) (c3:R):Uk C m x H1 R
def SL (C:Addr)(m:Str)(sp:Sp)(dvs:List V)(E:XK)(ta:TE)(t:TA):TE:=λσ H Q=>ta σ H λx H1=>Uk C m x H1 (t σ H1 λvs H2=>sp (x::(vs++dvs)) H2 Q E)
def WV (C:Addr)(sp:Sp)(dvs:List V)(E:XK)(t:TA):TE:=λσ H Q=>t σ H λvs H1=>∀x dx,H1 x=none->H1 dx=none->dx≠x ->
 sp (.ref x::(vs++dvs)) (upd (upd H1 dx (.own x)) x (.ins C dx [])) (λv H2=>v=.non/\Q (.ref x) H2) E
def Binds (K:W.Frag)(fd:FuncData)(ps:List Str)(ds:List Value):Prop:=
 ∀(s:Shared) (us:List Value),K.In s.heap->(us++ds).length=ps.length->BindsTo s fd ⟨us,[]⟩ (ps.zip (us++ds))
def Binds.all {K:W.Frag}{fd:FuncData}{ps:List Str}(h:∀us:List Value,us.length=ps.length->bindArgs fd ⟨us,[]⟩=pure (ps.zip us)):Binds K fd ps []:=λs us _ hl=>by rw[BR]at hl ⊢;exact .of_eq (h us hl)
def Eg (CX:DD)(X:Cx)(E:XK):Prop:=∀(aa:List (Addr×Obj)) (σ:St) (H:Hp) (s:Shared) (e:Value) (s':Shared),Inv X aa σ H s->CX X.stack H s E e s'->X.xe e s'
section
variable {X:Cx}{CX:DD}{k:Nat}{f C:Addr}{fd:FuncData}{ps:List Str}{sp:Sp}{dvs:List V}{ds:List Value}{E:XK}{x m:Str}{p pos apos:Pos}{e o:Expr}{es:List Expr}{ta:TE}{t:TA}
def M9 (F:FnOk X.prog X.w X.K X.mg X.base CX k f fd ps sp)(hr:Room k X.A)(hb:Binds X.K fd ps ds)(hd:Vals dvs ds)(hx:Eg CX X E)
  (I:Inv X aa σ H s)(r:Vals vs us)(h:sp (vs++dvs) H Q E):wpAny (model X.prog X.w) X.A (call (.ref f) us) (EP X aa σ Q) X.xe s:=by
 have r2:Vals (vs++dvs) (us++ds):=r.append hd
 have hl:(us++ds).length=ps.length:=by rw[<- r2.length];exact F.len _ _ _ _ h
 refine Ez (Ea (F.run X.A X.stack s H ⟨us,[]⟩ (us++ds) (vs++dvs) Q E hr I.env0 (hb s us I.kIn hl) r2 h) λr s' hq=>?_)
 cases r with
 | error e=>exact hx aa σ H s e s' I hq
 | ok fl=>
  cases fl with
  | ret u=>exact I.after hq
  | next=>exact False.elim hq
  | brk=>exact False.elim hq
  | cont=>exact False.elim hq
def Br (F:FnOk X.prog X.w X.K X.mg X.base CX k f fd ps sp)(hr:Room k X.A)(hg:Gl X x)(hm:X.mg x=some (.ref f))(hk:PySem.W.keepIn X.K (.ref f)=true)(hb:Binds X.K fd ps ds)(hd:Vals dvs ds)(hx:Eg CX X E)
  (ha:PA X (e::es) t)(hdb:(x == ("__debug__" : Str))=false:=by decide)(he:starEach (e::es) X.env=(false,eval e X.env)::starEach es X.env:=by rfl)(hpl:(backTo pos (starEach es X.env)).any (·.1)=false:=by rfl) :
  PE X (.Call (.Name x p) (e::es) [] pos) (SN sp dvs E t):=by
 intro aa s σ H Q I h
 refine Fj (Ek I hg hm ?_ hdb)
 refine Jp (h₀:=X.base) I.ok.mod.kin hk (Ap (ha pos aa s σ H _ I h) λus s1 hp0=>?_) he hpl
 obtain⟨vs,H1,I1,r,q⟩:=hp0
 refine⟨I1.kIn,?_⟩
 exact M9 F hr hb hd hx I1 r q
def EG (he:PE X o ta)(c:Cls X.K C)(hm:B9 X.K C m f)(F:FnOk X.prog X.w X.K X.mg X.base CX k f fd ps sp)(hr:Room k X.A)(hb:Binds X.K fd ps ds)(hd:Vals dvs ds)(hx:Eg CX X E)(ha:PA X (e::es) t)
  (hst:starEach (e::es) X.env=(false,eval e X.env)::starEach es X.env:=by rfl)(hpl:(backTo pos (starEach es X.env)).any (·.1)=false:=by rfl)
  (ht:eval (.Call (.Attribute o m apos) (e::es) [] pos) X.env=(do
   let ov <- eval o X.env;standAt apos.atName;let (f,first) <- holding [ov] (getMethod ov m pl);callWith pos f first (backTo pos (starEach (e::es) X.env)) (backToKw pos (keywordEach [] X.env))):=by rfl) :
  PE X (.Call (.Attribute o m apos) (e::es) [] pos) (SL C m sp dvs E ta t):=by
 intro aa s σ H Q I h
 refine Os (pl:=pl) (Ap (he aa s σ H _ I h) λu s1 hp0=>?_) ht
 obtain⟨x,H1,I1,rx,a,dx,fs,ex,ea,l,q⟩:=hp0
 subst ex
 obtain rfl:u=Value.ref a:=rx
 refine QO I1 ea c hm l ?_
 refine Jp (first:=[.ref a]) (h₀:=X.base) I.ok.mod.kin hm.kp (Ap (ha pos aa s1 σ H1 _ I1 q) λus s2 hp0=>?_) hst hpl
 obtain⟨vs,H2,I2,r,q2⟩:=hp0
 refine⟨I2.kIn,?_⟩
 exact M9 (us:=.ref a::us) (vs:=.ref a::vs) F hr hb hd hx I2 (.cons rfl r) q2
def HY (he:PE X o ta)(c:Cls X.K C)(hm:B9 X.K C m f)(F:FnOk X.prog X.w X.K X.mg X.base CX k f fd ps sp)(hr:Room k X.A)(hb:Binds X.K fd ps ds)(hd:Vals dvs ds)(hx:Eg CX X E)
  (ht:eval (.Call (.Attribute o m apos) [] [] pos) X.env=(do
   let ov <- eval o X.env;standAt apos.atName;let (f,first) <- holding [ov] (getMethod ov m pl);callWith pos f first (backTo pos (starEach [] X.env)) (backToKw pos (keywordEach [] X.env))):=by rfl) :
  PE X (.Call (.Attribute o m apos) [] [] pos) (SL C m sp dvs E ta SJ):=by
 intro aa s σ H Q I h
 refine Os (pl:=pl) (Ap (he aa s σ H _ I h) λu s1 hp0=>?_) ht
 obtain⟨x,H1,I1,rx,a,dx,fs,ex,ea,l,q⟩:=hp0
 subst ex
 obtain rfl:u=Value.ref a:=rx
 refine QO I1 ea c hm l ?_
 exact RH (first:=[.ref a]) I1.kIn hm.kp (M9 (us:=[.ref a]) (vs:=[.ref a]) F hr hb hd hx I1 (.cons rfl .nil) q)
structure Mk (K:W.Frag)(C f:Addr):Prop where
 makes:PySem.W.makesIn K C=true
 init:PySem.W.findIn K (.ref C) "__init__" = some (some (.ref f))
 fn:PySem.W.isFn K (.ref f)=true
 kp:PySem.W.keepIn K (.ref C)=true
def YB (M:Mk X.K C f)(F:FnOk X.prog X.w X.K X.mg X.base CX k f fd ps sp)(hr:Room (k+1) X.A)(hb:Binds X.K fd ps ds)(hd:Vals dvs ds)
  (hx:Eg CX X E)(I:Inv X aa σ H s)(r:Vals vs us)
  (h:∀x dx,H x=none->H dx=none->dx≠x->sp (.ref x::(vs++dvs)) (upd (upd H dx (.own x)) x (.ins C dx [])) (λv H2=>v=.non/\Q (.ref x) H2) E) :
  wpAny (model X.prog X.w) X.A (call (.ref C) us) (EP X aa σ Q) X.xe s:=by
 have hq:=h (s.heap.objs.size+1) s.heap.objs.size (I.hok.fresh (Ef _)) (I.hok.fresh (Am _)) (AY (Fo _))
 have I2:=Inv.made (C:=C) I
 have r2:Vals (V.ref (s.heap.objs.size+1)::(vs++dvs)) (Value.ref (s.heap.objs.size+1)::(us++ds)):=.cons rfl (r.append hd)
 have hl:(Value.ref (s.heap.objs.size+1)::us++ds).length=ps.length:=by have e:=r2.length;rw[F.len _ _ _ _ hq]at e;exact e.symm
 refine Ez (iK (f:=f) I.kIn M.makes M.init (EB.mp M.fn) (Ea (F.run _ X.stack _ _ ⟨Value.ref (s.heap.objs.size+1)::us,[]⟩ (Value.ref (s.heap.objs.size+1)::(us++ds)) _ _ E (hr.make C us []) (I2.env0.make C us []) (hb _ (Value.ref (s.heap.objs.size+1)::us) I2.kIn hl) r2 hq) λr s' hq'=>?_))
 cases r with
 | error e=>exact hx aa σ _ _ e s' I2 hq'
 | ok fl=>
  cases fl with
  | ret u=>obtain⟨v,H',I3,rv,ev,q3⟩:=I2.after hq';subst ev;exact⟨rv,⟨V.ref (s.heap.objs.size+1),H',I3,rfl,q3⟩⟩
  | next=>exact False.elim hq'
  | brk=>exact False.elim hq'
  | cont=>exact False.elim hq'
def Nh (M:Mk X.K C f)(F:FnOk X.prog X.w X.K X.mg X.base CX k f fd ps sp)(hr:Room (k+1) X.A)(hg:Gl X x)(hm:X.mg x=some (.ref C))(hb:Binds X.K fd ps ds)(hd:Vals dvs ds)(hx:Eg CX X E)
  (ha:PA X (e::es) t)(hdb:(x == ("__debug__" : Str))=false:=by decide)(he:starEach (e::es) X.env=(false,eval e X.env)::starEach es X.env:=by rfl)(hpl:(backTo pos (starEach es X.env)).any (·.1)=false:=by rfl) :
  PE X (.Call (.Name x p) (e::es) [] pos) (WV C sp dvs E t):=by
 intro aa s σ H Q I h
 refine Fj (Ek I hg hm ?_ hdb)
 refine Jp (h₀:=X.base) I.ok.mod.kin M.kp (Ap (ha pos aa s σ H _ I h) λus s1 hp0=>?_) he hpl
 obtain⟨vs,H1,I1,r,q⟩:=hp0
 refine⟨I1.kIn,?_⟩
 exact YB M F hr hb hd hx I1 r q
end
structure Au (N P:List Str)(sc:Scope):Prop where
 kind:sc.kind=.function
 co:sc.isCoroutine=false
 gen:sc.isGenerator=false
 nd:N.Nodup
 pre:N.take P.length=P
 par:∀x∈P,sc.names.lookup x=some .local\/sc.names.lookup x=some .cell
 nofree:∀y∈sc.names,y.2≠.free
theorem Vx {kindOf:Str->Option NameKind}{x:Str}:∀{binds:List (Str×Value)}{m:Str->Option Value},(∀v,(x,v)∉binds)->bindL kindOf binds m x=m x
 | [],_,_=>rfl
 | (n,v)::r,m,h=>by
  unfold bindL;rw[Vx λw hw=>h w (Bn _ hw)];split
  ·have:x≠n:=by rintro rfl;exact h v Bo
   simp[this]
  rfl
theorem Vz {kindOf:Str->Option NameKind}{x:Str}:∀{binds:List (Str×Value)}{m:Str->Option Value},(∀v,(x,v)∉binds)->bindC kindOf binds m x=m x
 | [],_,_=>rfl
 | (n,v)::r,m,h=>by
  unfold bindC;rw[Vz λw hw=>h w (Bn _ hw)];split
  ·rfl
  have:x≠n:=by rintro rfl;exact h v Bo
  simp[this]
theorem Vy {kindOf:Str->Option NameKind}{x:Str}{v:Value}:∀{P:List Str}{vs:List Value}{i:Nat}{m:Str->Option Value},P.Nodup->P[i]? = some x->vs[i]? = some v->kindOf x=some .local ->
  bindL kindOf (P.zip vs) m x=some v
 | [],_,_,_,_,h,_,_=>by simp at h
 | _::_,[],_,_,_,_,h,_=>by simp at h
 | p::P,w::vs,0,m,nd,h1,h2,hk=>by simp at h1 h2;subst h1;subst h2;show bindL kindOf ((p,w)::P.zip vs) m p=_;unfold bindL;rw[Vx λv hv=>(Ey.mp nd).1 (Lu hv).1,AB hk];simp
 | p::P,w::vs,i+1,m,nd,h1,h2,hk=>by show bindL kindOf ((p,w)::P.zip vs) m x=_;unfold bindL;exact Vy (i:=i) (Ey.mp nd).2 (by simpa using h1) (by simpa using h2) hk
theorem VA {kindOf:Str->Option NameKind}{x:Str}{v:Value}:∀{P:List Str}{vs:List Value}{i:Nat}{m:Str->Option Value},P.Nodup->P[i]? = some x->vs[i]? = some v->kindOf x≠some .local ->
  bindC kindOf (P.zip vs) m x=some v
 | [],_,_,_,_,h,_,_=>by simp at h
 | _::_,[],_,_,_,_,h,_=>by simp at h
 | p::P,w::vs,0,m,nd,h1,h2,hk=>by simp at h1 h2;subst h1;subst h2;show bindC kindOf ((p,w)::P.zip vs) m p=_;unfold bindC;rw[Vz λv hv=>(Ey.mp nd).1 (Lu hv).1,Ao hk];simp
 | p::P,w::vs,i+1,m,nd,h1,h2,hk=>by show bindC kindOf ((p,w)::P.zip vs) m x=_;unfold bindC;exact VA (i:=i) (Ey.mp nd).2 (by simpa using h1) (by simpa using h2) hk
def DH (N:List Str)(vs:List V):St:=vs.map some++replicate (N.length-vs.length) none
def B3 (CX:DD)(P:Program)(w:World)(K:W.Frag)(mg:Str->Option Value)(base:Heap)(N:List Str)(qual:Str)(scope:Scope)(f:Addr)(cd:Value)(A:Around)(ag:List Env)(s:Shared)(H:Hp)(E:XK):Cx where
 prog:=P
 w:=w
 K:=K
 mg:=mg
 base:=base
 A:=A.deeper (envOfC qual scope s.heap.objs.size f cd)
 N:=N
 s₀:=s
 H₀:=H
 env:=envOfC qual scope s.heap.objs.size f cd
 ag:=ag
 stack:=envOfC qual scope s.heap.objs.size f cd::ag
 ex:=[]
 calm:=true
 fn:=λ_=>true
 pn:=[]
 xe:=λe s'=>wpAny (model P w) (A.deeper (envOfC qual scope s.heap.objs.size f cd)) (leaving (envOfC qual scope s.heap.objs.size f cd) e) (λ_ s''=>CX ag H s E e s'') (λe' s''=>CX ag H s E e' s'') s'
def Vn {sc:Scope}{n:Nat}{x:Str}(h:sc.names.lookup x=some .cell):∃c,(cellsFrom n sc.names []).lookup x=some c:=by have q:=PySem.W.cellsFrom_some sc.names n [] (.inl h);exact isSome_iff_exists.mp q
def kG {CX:DD}{P:Program}{w:World}{K:W.Frag}{mg:Str->Option Value}{base:Heap}{N ps:List Str}{qual:Str}{scope:Scope}{f:Addr}{cd:Value}{A:Around}{ag:List Env}{s s1:Shared}{H:Hp}{E:XK}{us:List Value}{vs:List V}
  (S:Au N ps scope)(hd:A.handled=none)(e0:Env0 P w K mg base A ag s H)(hl:vs.length=ps.length)(r:Vals vs us)
  (x:InCallC s s.heap.objs.size (bindL (envOfC qual scope s.heap.objs.size f cd).kindOf (ps.zip us) λ_=>none) (cellsFrom (s.heap.objs.size+1) scope.names []) (bindC (envOfC qual scope s.heap.objs.size f cd).kindOf (ps.zip us) λ_=>none) s1) :
  Inv (B3 CX P w K mg base N qual scope f cd A ag s H E) [] (DH N vs) H s1:=by
 have hpl:ps.length<=N.length:=by have:=BY List.length S.pre;rw[BO]at this;lia
 obtain⟨h1,tk,rfl,hk⟩:=x.done
 have noA:∀b:Addr,b∉(B3 CX P w K mg base N qual scope f cd A ag s H E).ex:=λb z=>absurd (show b∈([]:List Addr) from z) (by simp)
 refine⟨⟨e0.mod,S.kind,rfl,rfl,Am _,λy z c h1 h2=>?_,λy hy=>?_,λy c _ h=>?_,λ_=>hd,Around.frames_deeper e0.frames,.inr ⟨rfl,rfl⟩,λb z=>absurd z (noA b),e0.bs,e0.bsz,λb _ _=>noA b,λb z=>absurd z (noA b),e0.funs,e0.frf⟩,rfl,e0.bare,Un.kept hk,⟨_,x.toInCall.ns,λi y v h1 h2 h3=>?_⟩,λy c h=>⟨_,x.cell y c h⟩,e0.hok.fresh (Am _),λy c h=>?_,λp hp=>absurd (show p∈([]:List (Addr×Obj)) from hp) (by simp),e0.hok.kept hk,?_⟩
 ·exact name_of_addr x.apart (LX h1) (LX h2)
 ·have hy:scope.names.lookup y=some .cell\/scope.names.lookup y=some .free:=hy;rcases hy with hy | hy
  ·exact Vn hy
  exact absurd rfl (S.nofree _ (LX hy))
 ·exact G9 (x.above y c (LX h))
 ·have hi:i<vs.length:=by
   unfold DH at h2;by_cases hi:i<vs.length
   ·exact hi
   rw[Ci (by simpa using hi)]at h2;rw[Ry]at h2;split at h2 <;> cases h2
  have ha:vs[i]? = some v:=by
   unfold DH at h2;rw[Cr (by simpa using hi),AV]at h2;cases e:vs[i]? with
   | none=>rw[e]at h2;cases h2
   | some a=>rw[e]at h2;cases h2;rfl
  obtain⟨u,hu,rv⟩:=r.get ha;have hp:ps[i]? = some y:=by rw[<- S.pre,getElem?_take_of_lt (by lia)];exact h1
  have ndP:ps.Nodup:=by rw[<- S.pre];exact S.nd.sublist (Hf _ _)
  refine⟨u,rv,?_⟩;rcases S.par y (Bt hp)with k | k
  ·exact .inl ⟨k,Vy ndP hp hu k⟩
  obtain⟨c,e⟩:=Vn (n:=s.heap.objs.size+1) k;refine .inr ⟨.inl k,c,e,?_⟩;have q:=x.cell y c e;rw[VA ndP hp hu (by show scope.names.lookup y≠_;rw[k];decide)]at q;exact q
 ·exact e0.hok.fresh (G9 (x.above y c (LX h)))
 unfold DH
 show _=N.length
 rw[AR,Al,Od]
 lia
def Li {CX:DD}{P:Program}{w:World}{K:W.Frag}{mg:Str->Option Value}{base:Heap}{k:Nat}{f:Addr}{name qual:Str}{params:Arguments}{body:List Stmt}{scope:Scope}{dV kV doc pm aj ct oc:Value}{an od:Option Addr}
  {osl:Array (Option Value)}{N ps:List Str}{sp:Sp}(lk:K.lookup f=some ⟨oc,od,.func (PySem.W.fnOf name qual params body scope dV kV doc pm an aj ct),osl⟩)(hcd:PySem.W.codeIn K aj qual=true)(S:Au N ps scope)
  (len:∀vs H Q E,sp vs H Q E->vs.length=ps.length)
  (hbody:∀(A:Around) (ag:List Env) (s:Shared) (H:Hp) (vs:List V) (Q:VK) (E:XK),Room k (A.deeper (envOfC qual scope s.heap.objs.size f aj))->sp vs H Q E -> ∃t,PSs (B3 CX P w K mg base N qual scope f aj A ag s H E) body t/\t { nx:=λ_ H'=>Q .non H',rt:=Q } (DH N vs) H) :
  FnOk P w K mg base CX (k+1) f (PySem.W.fnOf name qual params body scope dV kV doc pm an aj ct) ps sp:=by
 refine⟨len,λA ag s H args us vs Q E hr e0 hb r hsp=>?_⟩
 have hl:=len _ _ _ _ hsp
 have KX:K.In s.heap:=e0.mod.kin.keeps λb o e=>(e0.bs b o e).1
 have lim:s.heap.NoLimit:=e0.mod.nolimit.keeps λb o e=>(e0.bs b o e).1
 have hkind:∀y∈ps.zip us,scope.names.lookup y.1=some .local\/(scope.names.lookup y.1=some .cell/\((cellsFrom (s.heap.objs.size+1) scope.names []).lookup y.1).isSome=true):=λ⟨n,v⟩ hy=>by
  rcases S.par n (Lu hy).1 with q | q
  ·exact .inl q
  exact .inr ⟨q,PySem.W.cellsFrom_some _ _ _ (.inl q)⟩
 refine codeAny_call_function hr.depth (KX _ _ lk) rfl S.co S.gen rfl (PySem.W.codeRec_of KX hcd) (hb _ _ _ _ ?_)
 refine wpAny_newFunctionEnv_cells S.kind hkind λenv he s1 x=>?_
 subst he
 refine⟨lim.keeps x.toInCall.keep,codeAny_func ?_⟩
 obtain⟨t,ht,hq⟩:=hbody A ag s H vs Q E (hr.deeper _) hsp
 have I:Inv (B3 CX P w K mg base N qual scope f aj A ag s H E) [] (DH N vs) H s1:=kG S hr.hd e0 hl r x
 refine BI (ht [] s1 (DH N vs) H _ I hq) (λfl s' hs=>?_) λe s' hs=>hs
 have fin:∀{σ':St}{H':Hp}{v:V}{u:Value},Inv (B3 CX P w K mg base N qual scope f aj A ag s H E) [] σ' H' s'->RelV v u->Q v H'->CE ag P w H s Q u s':=
  λ{σ' H' v u} J rv q=>⟨v,H',J.os,J.bare,J.base,J.hok,rv,q⟩
 cases fl with
 | ret u=>obtain⟨v,σ',H',J,rv,q⟩:=hs;exact fin J rv q
 | next=>obtain⟨σ',H',J,q⟩:=hs;exact fin (v:=V.non) (u:=Value.none) J rfl q
 | brk=>obtain⟨_,_,_,q⟩:=hs;exact False.elim q
 | cont=>obtain⟨_,_,_,q⟩:=hs;exact False.elim q
section
variable {X:Cx}{x:Str}{p pos:Pos}{e:Expr}{es:List Expr}{t:TA}{id T:String}{r:List V->Hp->VK->Prop}
def SO (r:List V->Hp->VK->Prop)(t:TA):TE:=λσ H Q=>t σ H λvs H1=>r vs H1 Q
def Bf (hc:Cj X (.builtin id) r)(hg:Gl X x)(hm:X.mg x=none)(hv:bootBuiltins x=some (.builtin id))(ha:PA X (e::es) t)(hn:x ≠ "__name__" := by decide)(hdb:(x == ("__debug__" : Str))=false:=by decide)
  (he:starEach (e::es) X.env=(false,eval e X.env)::starEach es X.env:=by rfl)(hpl:(backTo pos (starEach es X.env)).any (·.1)=false:=by rfl):PE X (.Call (.Name x p) (e::es) [] pos) (SO r t):=by
 intro aa s σ H Q I h
 refine Fj (FF I hg hm hv ?_ hn hdb)
 exact VR (Ap (ha pos aa s σ H _ I h) λus s1 hp0=>by obtain⟨vs,H1,I1,r1,q1⟩:=hp0;exact hc aa s1 σ H1 vs us Q I1 r1 q1) he hpl
def Cb (hc:Cj X (.type T) r)(hg:Gl X x)(hm:X.mg x=none)(hv:bootBuiltins x=some (.type T))(ha:PA X (e::es) t)(hn:x ≠ "__name__" := by decide)(hdb:(x == ("__debug__" : Str))=false:=by decide)
  (he:starEach (e::es) X.env=(false,eval e X.env)::starEach es X.env:=by rfl)(hpl:(backTo pos (starEach es X.env)).any (·.1)=false:=by rfl):PE X (.Call (.Name x p) (e::es) [] pos) (SO r t):=by
 intro aa s σ H Q I h
 refine Fj (FF I hg hm hv ?_ hn hdb)
 exact Ja (Ap (ha pos aa s σ H _ I h) λus s1 hp0=>by obtain⟨vs,H1,I1,r1,q1⟩:=hp0;exact hc aa s1 σ H1 vs us Q I1 r1 q1) he hpl
end
end L2
namespace HT
open PySem PyProof.Rows
section
open PySem.SeqAt
open PySem.AutoSeq1 (wpAny_loadPart')
open PySem.MeetsSeq PySem.MeetsSeq2 PySem.MeetsSeq3
end
section
variable {prog:Program}{w:World}{A:Around}{E:Value->Shared->Prop}{s:Shared}
def sIx (n d:Nat):Option Int->Nat
 | none=>d
 | some v=>if v<0 then(v+(n:Int)).toNat else min v.toNat n
def sIx_none (n d:Nat):sIx n d none=d:=rfl
end
end HT
namespace L2
open PySem PySem.Spec PyProof.Rows
abbrev TO:=St->Hp->(Option Int->Hp->Prop)->Prop
def PO (X:Cx)(e:Option Expr)(t:TO):Prop:=
 ∀(aa:List (Addr×Obj)) (s:Shared) (σ:St) (H:Hp) (Q:Option Int->Hp->Prop),Inv X aa σ H s->t σ H Q ->
  wpAny (model X.prog X.w) X.A (evalPart e X.env) (λu s'=>∃o H',Inv X aa σ H' s'/\IsPart u o/\Q o H') X.xe s
def WO:TO:=λ_ H Q=>Q none H
def WK (t:TE):TO:=λσ H Q=>t σ H λx H1=>∃i,x=.int i/\Q (some i) H1
section
variable {X:Cx}{e:Expr}{te:TE}{lo hi:Option Expr}{tl th:TO}{pos p2:Pos}
def Ql:PO X none WO:=by intro aa s σ H Q I h;rw[evalPart_none];exact An ⟨none,H,I,.none,h⟩
def Qk (h:PE X e te):PO X (some e) (WK te):=by intro aa s σ H Q I hw;rw[evalPart_some];refine Ap (h aa s σ H _ I hw) λu s1 hp0=>?_;obtain⟨x,H1,I1,r1,q1⟩:=hp0;obtain⟨i,rfl,q⟩:=q1;obtain⟨t,rfl⟩:=r1;exact⟨some i,H1,I1,.int i t,q⟩
def R7 (X:Cx)(r:V->Option Int->Option Int->Hp->VK->Prop):Prop:=
 ∀(aa:List (Addr×Obj)) (s:Shared) (σ:St) (H:Hp) (x:V) (v vl vu:Value) (lo hi:Option Int) (sl:Addr) (Q:VK),Inv X aa σ H s->RelV x v->s.heap.IsSliceOf sl vl vu .none->IsPart vl lo->IsPart vu hi->r x lo hi H Q ->
  ∃T id,typeLookup (.type T) "__getitem__" = pure (some (.builtin id))/\s.TypeIs v T/\wpAny (model X.prog X.w) X.A (getItem v (.ref sl)) (EP X aa σ Q) X.xe s
def WG (r:V->Option Int->Option Int->Hp->VK->Prop)(te:TE)(tl th:TO):TE:=λσ H Q=>te σ H λx H1=>tl σ H1 λl H2=>th σ H2 λu H3=>r x l u H3 Q
def Qs (hr:R7 X r)(he:PE X e te)(hl:PO X lo tl)(hu:PO X hi th):PE X (.Subscript e (.Slice lo hi none p2) pos) (WG r te tl th):=by intro aa s σ H Q I h;refine Subscript_ (Ap (he aa s σ H _ I h) λv s1 hp0=>?_);obtain⟨x,H1,I1,r1,q1⟩:=hp0;refine wpAny_Slice (Ap (hl aa s1 σ H1 _ I1 q1) λvl s2 hp0=>?_);obtain⟨l,H2,I2,pl,q2⟩:=hp0;refine Ap (hu aa s2 σ H2 _ I2 q2) λvu s3 hp1=>?_;obtain⟨u,H3,I3,pu,q3⟩:=hp1;rw[evalPart_none];refine An ?_;have I4:Inv X aa σ H3 { s3 with heap:=s3.heap.push { cls:=.type "slice",data:=.fields #[vl,vu,.none] } }:=I3.kept (t':=s3.toks) λb ob q=>AG _ q;obtain⟨T,id,hT,ht,hg⟩:=hr aa { s3 with heap:=s3.heap.push { cls:=.type "slice",data:=.fields #[vl,vu,.none] } } σ H3 x v vl vu l u s3.heap.objs.size Q I4 r1 (Heap.IsSliceOf.new ..) pl pu q3;show wpAny (model X.prog X.w) X.A (subscriptTail e (.Slice lo hi none p2) v (.ref s3.heap.objs.size)) (EP X aa σ Q) X.xe { s3 with heap:=s3.heap.push { cls:=.type "slice",data:=.fields #[vl,vu,.none] } };exact tail_any (ops:=[.ref s3.heap.objs.size,v]) ht hT hg (by with_unfolding_all rfl)
def IV (xs:List V)(lo hi:Option Int):List V:=(xs.drop (HT.sIx xs.length 0 lo)).take (HT.sIx xs.length xs.length hi-HT.sIx xs.length 0 lo)
def nN (xs:List V)(lo hi:Option Int):(IV xs lo hi).length<=xs.length:=by unfold IV;rw[BO,length_drop];lia
end
def GX (n:Nat)(i:Int):Option Nat:=if 0<=i then(if i<n then some i.toNat else none)else if -(n:Int)<=i then some (i+n).toNat else none
def Ax {α:Type}(xs:List α)(i:Int):Option α:=(GX xs.length i).bind λj=>xs[j]?
def jX (h:GX n i=some j):seqIndex? i n=some j/\j<n/\-(n:Int)<=i/\i<n:=by
 unfold GX at h;by_cases h0:0<=i
 ·rw[AB h0]at h;by_cases h1:i<n
  ·rw[AB h1]at h;have e:i.toNat=j:=BS h;exact⟨by rw[seqIndex_of h0 h1,e],by lia,by lia,h1⟩
  rw[Ao h1]at h;cases h
 rw[Ao h0]at h;by_cases h1:-(n:Int)<=i
 ·rw[AB h1]at h;have e:(i+n).toNat=j:=BS h;exact⟨by rw[seqIndex_neg (by lia) h1,e],by lia,h1,by lia⟩
 rw[Ao h1]at h;cases h
def Rb {α:Type}{xs:List α}{i:Int}{v:α}(h:Ax xs i=some v):∃j,seqIndex? i xs.length=some j/\xs[j]? = some v/\j<xs.length/\-(xs.length:Int)<=i/\i<xs.length:=by
 unfold Ax at h;cases e:GX xs.length i with
 | none=>rw[e]at h;cases h
 | some j=>rw[e]at h;obtain⟨h1,h2,h3,h4⟩:=jX e;exact⟨j,h1,h,h2,h3,h4⟩
def Av {α:Type}{xs:List α}{j:Nat}{v:α}(h:xs[j]? = some v):Ax xs (j:Int)=some v:=by
 have hj:j<xs.length:=(AN.mp h).1;have e:GX xs.length (j:Int)=some j:=by unfold GX;rw[AB (by lia),AB (by lia)];simp
 unfold Ax;rw[e];exact h
def pG (b:Expr):Prop:=∀o i,subscripted b false o i=operate [o,i] (getItem o i)
def Jv (X:Cx)(r:R2):Prop:=
 ∀(value slice:Expr) (aa:List (Addr×Obj)) (s:Shared) (σ:St) (H:Hp) (x y:V) (v u:Value) (Q:VK),Inv X aa σ H s->RelV x v->RelV y u->r x y H Q ->
  subscripted slice false v u=operate [v,u] (getItem v u)->wpAny (model X.prog X.w) X.A (subscriptTail value slice v u) (EP X aa σ Q) X.xe s
def Jt (X:Cx)(id:String)(r:V->List V->Hp->VK->Prop):Prop:=
 ∀(aa:List (Addr×Obj)) (s:Shared) (σ:St) (H:Hp) (x:V) (xs:List V) (v:Value) (us:List Value) (Q:VK),Inv X aa σ H s->RelV x v->Vals xs us->r x xs H Q ->
  wpAny (model X.prog X.w) X.A (call (.builtin id) (v::us)) (EP X aa σ Q) X.xe s
section
variable {X:Cx}{a b:Expr}{ta tb:TE}{pos:Pos}
def As (hr:Jv X r)(ha:PE X a ta)(hb:PE X b tb)(hs:pG b):PE X (.Subscript a b pos) (Mn r ta tb):=by intro aa s σ H Q I h;exact Subscript_ (Ra ha hb I h λv u s2 x y H2 I2 rx ry q=>hr a b aa s2 σ H2 x y v u Q I2 rx ry q (hs _ _))
inductive Qg (K:W.Frag)(x:V)(y:V)(H:Hp)(Q:VK):Prop
 | mk (p:_) (xs:_) (i:_) (v:_) (c0:x=.ref p) (c1:y=.int i) (c2:SqL K H p xs) (c3:Ax xs i=some v) (c4:Q v H):Qg K x y H Q
inductive Qe (K:W.Frag)(x:V)(y:V)(H:Hp)(Q:VK):Prop
 | mk (p:_) (xs:_) (i:_) (v:_) (c0:x=.ref p) (c1:y=.int i) (c2:SqT K H p xs) (c3:Ax xs i=some v) (c4:Q v H):Qe K x y H Q
def YR:R2:=λx y H Q=>∃z i c,x=.str z/\y=.int i/\z.length<=sizeLine/\Ax z.cps.toList i=some c/\Q (.str ⟨#[c]⟩) H
def Dj:Jv X (Qg X.K):=by
 intro value slice aa s σ H x y v u Q I rx ry h hs;obtain⟨p,xs,i,z,rfl,rfl,hq,he,q⟩:=h;cases rx;obtain⟨t,rfl⟩:=ry;obtain⟨its,r,pl,hz⟩:=I.list hq;obtain⟨j,h1,h2,h3,h4,h5⟩:=Rb he;obtain⟨w,ew,rw'⟩:=r.get h2;have hl:=r.length;have hn:=K7;have fin:EP X aa σ Q w s:=⟨z,H,I,rw',q⟩;by_cases h0:0<=i
 ·have hj:i.toNat=j:=by rw[seqIndex_of h0 h5]at h1;exact BS h1
  exact item_listR pl.isList h0 (by lia) (by rw[hj];simpa using ew) fin hs
 have hj:(i+(its.toArray.size:Int)).toNat=j:=by rw[seqIndex_neg (by lia) h4]at h1;rw[Bx,<- hl];exact BS h1
 exact RT (x:=w) pl.isList.typeIs slot_list_getitem.lookup
  (wpAny_getItem_list_neg (Q:=λr s'=>r=w/\EP X aa σ Q r s') pl.isList (by lia) (by rw[Bx] <;> lia) (by lia) (by rw[hj];simpa using ew) ⟨rfl,fin⟩) hs
def AJ:Jv X (Qe X.K):=by
 intro value slice aa s σ H x y v u Q I rx ry h hs;obtain⟨p,xs,i,z,rfl,rfl,hq,he,q⟩:=h;cases rx;obtain⟨t,rfl⟩:=ry;obtain⟨its,r,pl,hz⟩:=I.tuple hq;obtain⟨j,h1,h2,h3,h4,h5⟩:=Rb he;obtain⟨w,ew,rw'⟩:=r.get h2;have hl:=r.length;have hn:=K7;have fin:EP X aa σ Q w s:=⟨z,H,I,rw',q⟩
 exact RT (x:=w) pl.typeIs slot_tuple_getitem.lookup
  (getItem_tuple (j:=j) (Q:=λr s'=>r=w/\EP X aa σ Q r s') pl (by lia) (by lia) (by rw[Bx,<- hl];exact h1) (by simpa using ew) ⟨rfl,fin⟩) hs
def jW:Jv X YR:=by
 intro value slice aa s σ H x y v u Q I rx ry h hs;obtain⟨z,i,c,rfl,rfl,hz,he,q⟩:=h;obtain⟨t,rfl⟩:=rx;obtain⟨t',rfl⟩:=ry;obtain⟨j,h1,h2,h3,h4,h5⟩:=Rb he;have hl:z.cps.toList.length=z.length:=by simp[Str.length]
 rw[hl]at h1 h4 h5;have hn:=K7;exact tail_any (typeIs_str s z t) slot_str_getitem.lookup (getItem_str (c:=c) (by have e1:decide (i < -(2^63:Int))=false:=Cg (by lia);have e2:decide (i≥2^63)=false:=Cg (by lia);rw[e1,e2,Bool.or_false]) (by rw[h1];simpa using h2) ⟨.str ⟨#[c]⟩,H,I.tok _,⟨_,rfl⟩,q⟩) hs
def Xt (lo hi:Option Int)(n:Nat):(sliceBounds lo hi none n).1=((HT.sIx n 0 lo:Nat):Int)/\(sliceBounds lo hi none n).2.1=((HT.sIx n n hi:Nat):Int)/\(sliceBounds lo hi none n).2.2=1:=by
 refine⟨?_,?_,rfl⟩
 ·cases lo with
  | none=>simp[sliceBounds,HT.sIx]
  | some i=>
   simp only[sliceBounds,HT.sIx,Option.getD_none,show(1:Int) > 0 by decide,FN];by_cases h:i<0
   ·simp only[h,FN] <;> lia
   simp only[h,G8] <;> lia
 cases hi with
 | none=>simp[sliceBounds,HT.sIx]
 | some i=>
  simp only[sliceBounds,HT.sIx,Option.getD_none,show(1:Int) > 0 by decide,FN];by_cases h:i<0
  ·simp only[h,FN] <;> lia
  simp only[h,G8] <;> lia
def Xu (its:List Value)(lo hi:Option Int):slicePick its.toArray lo hi none=((its.drop (HT.sIx its.length 0 lo)).take (HT.sIx its.length its.length hi-HT.sIx its.length 0 lo)).toArray:=by obtain⟨h1,h2,h3⟩:=Xt lo hi its.toArray.size;unfold slicePick;rw[h1,h2,h3];simp only[sliceRange_one,pick_run,Bx] <;> rfl
def YM (K:W.Frag):V->Option Int->Option Int->Hp->VK->Prop:=λx lo hi H Q=>∃a xs,x=.ref a/\SqL K H a xs/\∀p,H p=none->Q (.ref p) (upd H p (.lst (IV xs lo hi)))
def Xv:R7 X (YM X.K):=by intro aa s σ H x v vl vu lo hi sl Q I rx hs pl pu h;obtain⟨a,xs,rfl,hx,q⟩:=h;cases rx;obtain⟨its,r,ht,hz⟩:=I.list hx;have hlen:=r.length;refine⟨"list",_,slot_list_getitem.lookup,ht.isList.typeIs,?_⟩;refine wpAny_getItem_list_slice ht.isList hs pl pu .none (by simp) ?_ (by rw[Bx] <;> lia);rw[Xu,<- hlen];refine⟨.ref s.heap.objs.size,_,I.laid (t':=s.toks) (o:=.lst (IV xs lo hi)) (λb ob q=>AG _ q) (Am _) ?_,rfl,q _ (I.hok.fresh (Am _))⟩;exact⟨BV (nN xs lo hi) hz,_,0,(r.drop (HT.sIx xs.length 0 lo)).take (HT.sIx xs.length xs.length hi-HT.sIx xs.length 0 lo),A7 _ rfl⟩
def Ge:V->Bool
 | .non=>true
 | .bl _=>true
 | .int _=>true
 | .str _=>true
 | _=>false
def EL:V->V->Bool
 | .non,.non=>true
 | .bl a,.bl b=>a == b
 | .bl a,.int b=>(if a then 1 else 0) == b
 | .int a,.bl b=>a == (if b then 1 else 0)
 | .int a,.int b=>a == b
 | .str a,.str b=>a == b
 | _,_=>false
def mO (ry:RelV y u)(rx:RelV x v)(fy:Ge y=true)(fx:Ge x=true):SeqAt.EqAt A s u v (EL y x):=by
 cases y with
 | non=>
  cases ry;cases x with
  | non=>cases rx;exact SeqAt.EqAt.same _
  | bl b=>cases rx;exact SeqAt.EqAt.none_bool b
  | int b=>obtain⟨t,rfl⟩:=rx;exact SeqAt.EqAt.none_int b t
  | str b=>obtain⟨t,rfl⟩:=rx;exact SeqAt.EqAt.none_str b t
  | _=>exact absurd (show false=true from fx) B5
 | bl a=>
  cases ry;cases x with
  | non=>cases rx;exact SeqAt.EqAt.bool_none a
  | bl b=>cases rx;exact SeqAt.EqAt.bool_bool a b
  | int b=>obtain⟨t,rfl⟩:=rx;exact SeqAt.EqAt.bool_int a b t
  | str b=>obtain⟨t,rfl⟩:=rx;exact SeqAt.EqAt.bool_str a b t
  | _=>exact absurd (show false=true from fx) B5
 | int a=>
  obtain⟨t',rfl⟩:=ry;cases x with
  | non=>cases rx;exact SeqAt.EqAt.int_none a t'
  | bl b=>cases rx;exact SeqAt.EqAt.int_bool a t' b
  | int b=>obtain⟨t,rfl⟩:=rx;exact SeqAt.EqAt.int_int a t' b t
  | str b=>obtain⟨t,rfl⟩:=rx;exact SeqAt.EqAt.int_str a t' b t
  | _=>exact absurd (show false=true from fx) B5
 | str a=>
  obtain⟨t',rfl⟩:=ry;cases x with
  | non=>cases rx;exact SeqAt.EqAt.str_none a t'
  | bl b=>cases rx;exact SeqAt.EqAt.str_bool a t' b
  | int b=>obtain⟨t,rfl⟩:=rx;exact SeqAt.EqAt.str_int a t' b t
  | str b=>obtain⟨t,rfl⟩:=rx;exact SeqAt.EqAt.str_str a t' b t
  | _=>exact absurd (show false=true from fx) B5
 | _=>exact absurd (show false=true from fy) B5
def FH (x:V)(u:Value):Bool:=match u with
 | .none=>EL .non x
 | .bool b=>EL (.bl b) x
 | .int i _=>EL (.int i) x
 | .str z _=>EL (.str z) x
 | _=>false
def UW (r:RelV y u)(f:Ge y=true):FH x u=EL y x:=by
 cases y with
 | non=>cases r;rfl
 | bl b=>cases r;rfl
 | int i=>obtain⟨t,rfl⟩:=r;rfl
 | str z=>obtain⟨t,rfl⟩:=r;rfl
 | _=>exact absurd (show false=true from f) B5
theorem Rc :∀{xs:List V}{us:List Value},Vals xs us->xs.all Ge=true->us.any (FH x)=xs.any λy=>EL y x
 | _,_,.nil,_=>rfl
 | y::xs,u::us,.cons r t,f=>by rw[List.all_cons,B8]at f;rw[G7,G7,UW r f.1,Rc t f.2]
theorem QF (rx:RelV x v)(fx:Ge x=true):∀{xs:List V}{us:List Value},Vals xs us->xs.all Ge=true->∀u∈us,SeqAt.EqAt A s u v (FH x u)
 | _,_,.nil,_=>λu hu=>by cases hu
 | y::xs,u::us,.cons r t,f=>λu' hu=>by
  rw[List.all_cons,B8]at f;rcases(AK.mp hu)with rfl | hu
  ·rw[UW r f.1];exact mO r rx f.1 fx
  exact QF rx fx t f.2 u' hu
def Ld (x:V)(xs:List V):Bool:=xs.any λy=>EL y x
inductive Tg (K:W.Frag)(neg:Bool)(x:V)(y:V)(H:Hp)(Q:VK):Prop
 | mk (p:_) (xs:_) (c0:y=.ref p) (c1:(SqL K H p xs\/SqT K H p xs)) (c2:Ge x=true) (c3:xs.all Ge=true) (c4:Q (.bl (if neg then !Ld x xs else Ld x xs)) H):Tg K neg x y H Q
def Zy:By X (compareOp .NotIn) (Tg X.K true):=by
 intro aa s σ H x y v u Q I rx ry h;obtain⟨p,xs,rfl,hq,fx,fs,q⟩:=h;cases ry;rcases hq with hq | hq
 ·obtain⟨its,r,pl,hz⟩:=I.list hq;refine SeqAt.notIn_listAt (FH x) pl.isList (λw hw=>QF rx fx r fs w (by simpa using hw)) ⟨.bl _,H,I,rfl,?_⟩;rw[show its.toArray.any (FH x)=its.any (FH x) by simp,Rc r fs];exact q
 obtain⟨its,r,pl,hz⟩:=I.tuple hq;refine SeqAt.notIn_tupleAt (FH x) pl (λw hw=>QF rx fx r fs w (by simpa using hw)) ⟨.bl _,H,I,rfl,?_⟩;rw[show its.toArray.any (FH x)=its.any (FH x) by simp,Rc r fs];exact q
def Gh:Cj X (.type "list") (λxs H Q=>∃p ys,xs=[.ref p]/\(SqL X.K H p ys\/SqT X.K H p ys)/\∀l,H l=none->Q (.ref l) (upd H l (.lst ys))):=by
 intro aa s σ H xs us Q I r h;obtain⟨p,ys,rfl,hq,q⟩:=h;obtain⟨u,rfl,rx⟩:=CV r;cases rx
 have fin:∀(its:List Value),Vals ys its->ys.length<=sizeLine->∀(h':Heap) (c':Nat),(∀b o',s.heap.get? b=some o'->h'.get? b=some o') ->
   h'.get? s.heap.objs.size=some { cls:=.type "list",dict:=none,data:=.seq its.toArray c',slots:=#[] }->EP X aa σ Q (.ref s.heap.objs.size) { s with heap:=h' }:=λits r' hz h' c' kp e=>
  ⟨.ref s.heap.objs.size,_,I.laid (t':=s.toks) kp (Am _) (show ObjOk X.prog X.w _ h' _ (.lst ys) from ⟨hz,its,c',r',e⟩),rfl,q _ (I.hok.fresh (Am _))⟩
 rcases hq with hq | hq
 ·obtain⟨its,r',pl,hz⟩:=I.list hq;have hlen:=r'.length;obtain⟨o,ho,hc,n,hd⟩:=pl.isList;exact call_list_seq p (.inl rfl) ho hc hd (λh' c' kp e=>fin its r' hz h' c' kp e) (by simp only[Bx] <;> lia)
 obtain⟨its,r',pl,hz⟩:=I.tuple hq;have hlen:=r'.length;obtain⟨o,ho,hc,n,hd⟩:=pl;exact call_list_seq p (.inr rfl) ho hc hd (λh' c' kp e=>fin its r' hz h' c' kp e) (by simp only[Bx] <;> lia)
def NR:Cj X (.type "tuple") (λxs H Q=>∃p ys,xs=[.ref p]/\((SqL X.K H p ys/\∀l,H l=none->Q (.ref l) (upd H l (.tup ys)))\/(SqT X.K H p ys/\Q (.ref p) H))):=by
 intro aa s σ H xs us Q I r h;obtain⟨p,ys,rfl,h⟩:=h;obtain⟨u,rfl,rx⟩:=CV r;cases rx;rcases h with⟨hq,q⟩ | ⟨hq,q⟩
 ·obtain⟨its,r',pl,hz⟩:=I.list hq;have hlen:=r'.length;refine call_tuple_list pl.isList (λh' kp=>?_) (by simp only[Bx] <;> lia);have I1:Inv X aa σ H { s with heap:=h' }:=I.kept (t':=s.toks) kp
  have I2:Inv X aa σ (upd H h'.objs.size (.tup ys)) { s with heap:=h'.push { cls:=.type "tuple",data:=.seq its.toArray } }:=
   I1.laid (t':=s.toks) (λb o e=>AG _ e) (Am _) (show ObjOk X.prog X.w _ _ _ (.tup ys) from ⟨hz,its,r',IsTup.new _ _⟩)
  exact⟨.ref h'.objs.size,_,I2,rfl,q _ (I1.hok.fresh (Am _))⟩
 obtain⟨its,r',pl,hz⟩:=I.tuple hq;exact call_tuple_same pl ⟨.ref p,H,I,rfl,q⟩
def ON (K:W.Frag)(T:String)(x:V)(H:Hp):Prop:=match x with
 | .str _=>T = "str"
 | .int _=>T = "int"
 | .ref p=>(T = "list" /\ ∃xs,SqL K H p xs)\/(T = "tuple" /\ ∃o,K.lookup p=some o/\o.cls=.type "tuple" /\ o.dict=none) \/
   (T = "dict" /\ ((∃kvs,H p=some (.dK kvs))\/∃kvs,H p=some (.dT kvs)))\/(T = "set" /\ ∃S n,H p=some (.set S n))
 | _=>False
def Sw (I:Inv X aa σ H s)(r:RelV x v)(ty:ON X.K T x H) :
  s.TypeIs v T/\∀a,v=.ref a->∃ob,s.heap.get? a=some ob/\ob.dict=none:=by
 cases x with
 | str z=>obtain⟨t,rfl⟩:=r;cases (show T = "str" from ty);exact⟨typeIs_str s z t,λ_ e=>nomatch e⟩
 | int i=>obtain⟨t,rfl⟩:=r;cases (show T = "int" from ty);exact⟨typeIs_int s i t,λ_ e=>nomatch e⟩
 | ref p=>
  cases r;rcases ty with⟨rfl,xs,hq⟩ | ⟨rfl,o,hk,hc,hd⟩ | ⟨rfl,hk⟩ | ⟨rfl,S,n,hk⟩
  ·obtain⟨its,_,pl,_⟩:=I.list hq;refine⟨pl.isList.typeIs,λa e=>?_⟩;cases e;obtain⟨o,n,e,c,hd,_⟩:=pl;exact⟨o,e,hd⟩
  ·refine⟨⟨o,I.kIn p o hk,hc⟩,λa e=>?_⟩;cases e;exact⟨o,I.kIn _ o hk,hd⟩
  ·have z:∃o,s.heap.get? p=some o/\o.ExactDict:=by
    rcases hk with⟨kvs,hk⟩ | ⟨kvs,hk⟩
    ·obtain⟨_,_,_,_,o,_,_,e,ex,_⟩:=I.hok p _ hk;exact⟨o,e,ex⟩
    obtain⟨_,_,_,_,o,_,_,e,ex,_⟩:=I.hok p _ hk;exact⟨o,e,ex⟩
   obtain⟨o,e,ex⟩:=z;refine⟨⟨o,e,ex.1⟩,λa e2=>?_⟩;cases e2;exact⟨o,e,ex.2.1⟩
  obtain⟨o,_,_,_,e,ex,_⟩:=I.hok p _ hk;refine⟨⟨o,e,ex.1⟩,λa e2=>?_⟩;cases e2;exact⟨o,e,ex.2.1⟩
 | _=>exact False.elim ty
def Xf (K:W.Frag)(T:String)(r:V->List V->Hp->VK->Prop)(to:TE):TE:=λσ H Q=>to σ H λx H1=>ON K T x H1/\r x [] H1 Q
def Xg (K:W.Frag)(T:String)(r:V->List V->Hp->VK->Prop)(to:TE)(t:TA):TE:=λσ H Q=>to σ H λx H1=>ON K T x H1/\t σ H1 λxs H2=>r x xs H2 Q
variable {o e:Expr}{es:List Expr}{to:TE}{t:TA}{name:Str}{apos cpos:Pos}{T id:String}{r:V->List V->Hp->VK->Prop}
def Nk (pa:PlainAttrs T)(slot:Slot T name id)(hty:typeOf (.builtin id)=pure (.type "method_descriptor"))(hm:Jt X id r)(ho:PE X o to)
  (hbase:attributeBase o name X.env (eval o X.env)=eval o X.env:=by rfl)(hline:(apos.endLine == cpos.line)=true:=by rfl):PE X (.Call (.Attribute o name apos) [] [] cpos) (Xf X.K T r to):=by
 intro aa s σ H Q I h
 refine wpAny_Call_method0_late hbase hline (Ap (ho aa s σ H _ I h) λv s1 hp0=>?_)
 obtain⟨x,H1,I1,r1,ty,q1⟩:=hp0
 obtain⟨h1,h2⟩:=Sw I1 r1 ty
 exact⟨T,id,pa,slot,hty,h1,h2,Ot rfl (PySem.evalArgs_none (hm aa s1 σ H1 x [] v [] Q I1 r1 .nil q1))⟩
def Dq (pa:PlainAttrs T)(slot:Slot T name id)(hty:typeOf (.builtin id)=pure (.type "method_descriptor"))(hm:Jt X id r)(ho:PE X o to)(ha:PA X (e::es) t)
  (hbase:attributeBase o name X.env (eval o X.env)=eval o X.env:=by rfl)
  (hfew:((backTo cpos (starEach (e::es) X.env)).all (λx=>!x.1) && (backToKw cpos (keywordEach [] X.env)).all (λx=>x.1.isSome) && decide ((e::es).length+([]:List Keyword).length+(if ([]:List Keyword).isEmpty then 0 else 1)<30))=true:=by rfl)
  (hline:(apos.endLine == cpos.line)=true:=by rfl)(hs:starEach (e::es) X.env=(false,eval e X.env)::starEach es X.env:=by rfl)(hplain:(backTo cpos (starEach es X.env)).any (·.1)=false:=by rfl) :
  PE X (.Call (.Attribute o name apos) (e::es) [] cpos) (Xg X.K T r to t):=by
 intro aa s σ H Q I h
 refine wpAny_Call_method_late hbase hfew hline rfl (Ap (ho aa s σ H _ I h) λv s1 hp0=>?_)
 obtain⟨x,H1,I1,r1,ty,q1⟩:=hp0
 obtain⟨h1,h2⟩:=Sw I1 r1 ty
 refine⟨T,id,pa,slot,hty,h1,h2,?_⟩
 have hA:=ha cpos aa s1 σ H1 _ I1 q1
 rw[hs]at hA ⊢
 refine Ot (by show(false || (backTo cpos (starEach es X.env)).any (·.1))=false;rw[hplain] <;> rfl) (RM ?_)
 exact Ap hA λus s2 hp0=>by obtain⟨vs,H2,I2,r2,q2⟩:=hp0;exact hm aa s2 σ H2 x vs v us Q I2 r1 r2 q2
end
def VZ (X:Cx)(id:String)(r:V->List V->Hp->VK->Prop):Prop:=
 ∀(aa:List (Addr×Obj)) (s:Shared) (σ:St) (H:Hp) (x:V) (xs:List V) (v:Value) (us:List Value) (Q:VK),Inv X aa σ H s->RelV x v->Vals xs us->r x xs H Q ->
  wpAny (model X.prog X.w) X.A (call (.builtin id) (v::us)) (EP X aa σ Q) X.xe s
theorem Vals.one:∀{x:V}{us:List Value},Vals [x] us->∃u,us=[u]/\RelV x u
 | _,_,.cons r .nil=>⟨_,rfl,r⟩
theorem Vals.zero:∀{us:List Value},Vals [] us->us=[]
 | _,.nil=>rfl
def Vals.dropLast (h:Vals xs us):Vals xs.dropLast us.dropLast:=by
 induction h with
 | nil=>exact .nil
 | cons r t ih=>
  cases t with
  | nil=>exact .nil
  | cons q t'=>exact .cons r ih
def mI {α:Type}(l:List α):l.eraseIdx (l.length-1)=l.dropLast:=by
 induction l with
 | nil=>rfl
 | cons a r ih=>
  cases r with
  | nil=>rfl
  | cons b r=>
   have e:(a::b::r).length-1=((b::r).length-1)+1:=by have h1:(a::b::r).length=r.length+2:=rfl;have h2:(b::r).length=r.length+1:=rfl;lia
   rw[e,List.eraseIdx_cons_succ,ih];all_goals rfl
section
variable {X:Cx}{aa:List (Addr×Obj)}{σ:St}{H:Hp}{s:Shared}{l b:Addr}{xs ys zs:List V}
def Inv.lset {its its':List Value}{n:Nat}{f:Array Value->Array Value}{t':Nat}(I:Inv X aa σ H s)(hH:H l=some (.lst xs))
  (e:s.heap.get? l=some { cls:=.type "list",data:=.seq its.toArray n })(hf:f its.toArray=its'.toArray)(hv:Vals ys its')(hz:ys.length<=sizeLine) :
  Inv X aa σ (upd H l (.lst ys)) { s with heap:=s.heap.update l (Obj.mapSeq f),toks:=t' }:=by
 have q:=PySem.IsL.update e f
 rw[hf]at q
 refine I.write (x:=l) (e:=l) (by rw[hH];exact trivial) (.inl rfl) (λb' u hb hu=>(LZ s.heap (Obj.mapSeq f) (DB hb)).trans hu) ⟨_,q⟩ ?_
 exact⟨hz,its',_,hv,q⟩
def Inv.lnew (I:Inv X aa σ H s)(hv:Vals ys its)(hz:ys.length<=sizeLine) :
  Inv X aa σ (upd H s.heap.objs.size (.lst ys)) { s with heap:=s.heap.push { cls:=.type "list",data:=.seq its.toArray },toks:=t' }:=
 I.laid (λ_ _ q=>AG _ q) (Am _) ⟨hz,its,0,hv,A7 _ rfl⟩
def Inv.fresh (I:Inv X aa σ H s):H s.heap.objs.size=none:=I.hok.fresh (Am _)
def Inv.lstM (I:Inv X aa σ H s)(hH:H l=some (.lst xs)):xs.length<=sizeLine/\∃(its:List Value) (n:Nat),Vals xs its/\xs.length=its.length/\s.heap.get? l=some { cls:=.type "list",data:=.seq its.toArray n }:=by obtain⟨z,its,n,r,e⟩:=I.hok l _ hH;exact⟨z,its,n,r,r.length,e⟩
end
section
variable {X:Cx}
def YW:V->List V->Hp->VK->Prop:=λx vs H Q=>∃l xs y,x=.ref l/\vs=[y]/\H l=some (.lst xs)/\xs.length<sizeLine/\Q .non (upd H l (.lst (xs++[y])))
def Dr:VZ X "list.append" YW:=by intro aa s σ H x vs v us Q I rx rv h;obtain⟨l,xs,y,rfl,rfl,hH,hz,q⟩:=h;cases rx;obtain⟨u,rfl,ru⟩:=rv.one;obtain⟨z,its,n,r,hl,e⟩:=I.lstM hH;refine call_meets Dy ⟨_,e,rfl⟩ F.entry_list_append (F.args_list_append_2 _ _) (PySem.list_append l its.toArray n u (by rw[Bx];lia)) ⟨e,?_⟩;refine⟨.non,_,I.lset (its':=its++[u]) hH e (by simp) (r.append (.cons ru .nil)) ?_,rfl,q⟩;rw[AR,Fh];lia
def YN:V->List V->Hp->VK->Prop:=λx vs H Q=>∃l xs y,x=.ref l/\vs=[]/\H l=some (.lst xs)/\xs[xs.length-1]? = some y/\Q y (upd H l (.lst xs.dropLast))
def hO:VZ X "list.pop" YN:=by
 intro aa s σ H x vs v us Q I rx rv h;obtain⟨l,xs,y,rfl,rfl,hH,hy,q⟩:=h;cases rx;have hus:=rv.zero;subst hus;obtain⟨z,its,n,r,hl,e⟩:=I.lstM hH;obtain⟨u,hu,ru⟩:=r.get hy;have hy':its.toArray[its.toArray.size-1]? = some u:=by show its.toArray[its.length-1]? = some u;rw[<- ET,<- hl];exact hu
 refine call_meets F.slot_list_pop ⟨_,e,rfl⟩ F.entry_list_pop (F.args_list_pop_1 _) (MeetsSeq.list_pop_last l its.toArray n u hy' (by rw[Bx];lia)) ⟨e,?_⟩;refine⟨y,_,I.lset (its':=its.dropLast) hH e ?_ r.dropLast ?_,ru,q⟩
 ·show its.toArray.eraseIdxIfInBounds (its.toArray.size-1)=its.dropLast.toArray;rw[Bx,List.eraseIdxIfInBounds_toArray,mI]
 rw[List.length_dropLast];lia
def YV:R2:=λx y H Q=>∃l b xs zs,x=.ref l/\y=.ref b/\H l=some (.lst xs)/\H b=some (.lst zs)/\xs.length+zs.length<=sizeLine/\∀p,H p=none->Q (.ref p) (upd H p (.lst (xs++zs)))
def Nu:By X (binaryOp .Add) YV:=by
 intro aa s σ H x y v u Q I rx ry h;obtain⟨l,b,xs,zs,rfl,rfl,hH,hB,hz,q⟩:=h;cases rx;cases ry;obtain⟨z,its,n,r,hl,e⟩:=I.lstM hH;obtain⟨z2,its2,n2,r2,hl2,e2⟩:=I.lstM hB;refine PySem.P.add_list e e2 ?_ (by rw[Bx,Bx];lia);have ea:its.toArray++its2.toArray=(its++its2).toArray:=by simp
 rw[ea];exact⟨.ref _,_,I.lnew (t':=s.toks) (r.append r2) (by rw[AR];lia),rfl,q _ I.fresh⟩
end
section
variable {κ:Type} [DecidableEq κ]
def BM (kvs:List (κ×V))(k:κ):Option V:=(kvs.find? λkv=>decide (kv.1=k)).map (·.2)
def Cm (kvs:List (κ×V))(k:κ)(v:V):List (κ×V):=
 if (kvs.any λkv=>decide (kv.1=k))=true then kvs.map (λkv=>if kv.1=k then(kv.1,v)else kv)else kvs++[(k,v)]
def Me {k:κ}(e:p.1=k):BM (p::r) k=some p.2:=by simp[BM,CB,e]
def Mf {k:κ}(e:¬p.1=k):BM (p::r) k=BM r k:=by simp[BM,CB,e]
theorem JE (k:κ):∀kvs:List (κ×V),(kvs.any λkv=>decide (kv.1=k))=(BM kvs k).isSome
 | []=>rfl
 | p::r=>by
  rw[G7];by_cases e:p.1=k
  ·simp only[Me e,Bb e,Bool.true_or,Option.isSome_some]
  rw[Mf e,Cg e,N4];exact JE k r
def QH (kvs:List (κ×V))(k:κ)(v:V):(Cm kvs k v).length<=kvs.length+1:=by
 unfold Cm;split
 ·rw[Al];lia
 rw[AR,CF,length_nil];lia
def HV {k:κ}(v:V)(h:BM kvs k=none):Cm kvs k v=kvs++[(k,v)]:=by unfold Cm;rw[JE,h];exact Ao (by decide)
def RelO.isSome_eq (r:RelO o u):o.isSome=u.isSome:=by
 cases o with
 | none=>cases u with
  | none=>rfl
  | some _=>exact(show False from r).elim
 | some _=>cases u with
  | none=>exact(show False from r).elim
  | some _=>rfl
def RelO.getD (r:RelO o u)(rd:RelV d d'):RelV (o.getD d) (u.getD d'):=by
 cases o with
 | none=>cases u with
  | none=>exact rd
  | some _=>exact(show False from r).elim
 | some _=>cases u with
  | none=>exact(show False from r).elim
  | some _=>exact r
def KV.val (r:KV kvs vs)(k:κ):RelO (BM kvs k) (valueAt vs k):=by
 unfold KV at r;induction r with
 | nil=>exact EA
 | @cons p q ps qs h t ih=>
  obtain⟨h1,h2⟩:=h;by_cases e:p.1=k
  ·have e':q.1=k:=h1.symm.trans e;have b:valueAt (q::qs) k=some q.2:=by simp[valueAt,CB,e']
   rw[Me e,b];exact h2
  have e':¬q.1=k:=λz=>e (h1.trans z);have b:valueAt (q::qs) k=valueAt qs k:=by simp[valueAt,CB,e']
  rw[Mf e,b];exact ih
def KV.any (r:KV kvs vs)(k:κ):(kvs.any λkv=>decide (kv.1=k))=vs.any λkv=>decide (kv.1=k):=by
 unfold KV at r;induction r with
 | nil=>rfl
 | cons h t ih=>rw[G7,G7,ih,h.1]
def KV.repl (r:KV kvs vs)(k:κ) (ry:RelV y u) :
  KV (kvs.map λkv=>if kv.1=k then(kv.1,y)else kv) (vs.map λkv=>if kv.1=k then(kv.1,u)else kv):=by
 unfold KV at r ⊢
 induction r with
 | nil=>exact .nil
 | @cons p q ps qs h t ih=>
  rw[BU,BU];refine .cons ?_ ih;obtain⟨h1,h2⟩:=h;by_cases e:p.1=k
  ·rw[AB e,AB (h1.symm.trans e)];exact⟨h1,ry⟩
  rw[Ao e,Ao (λz=>e (h1.trans z))];exact⟨h1,h2⟩
def KV.put (r:KV kvs vs)(k:κ) (ry:RelV y u):KV (Cm kvs k y) (stored vs k u):=by
 unfold Cm stored;rw[r.any k];by_cases e:(vs.any λkv=>decide (kv.1=k))=true
 ·rw[AB e,AB e];exact r.repl k ry
 rw[Ao e,Ao e];exact Paired.snoc r ⟨rfl,ry⟩
def KV.keys {kvs:List (κ×V)}{vs:List (κ×Value)}(r:KV kvs vs):kvs.map (·.1)=vs.map (·.1):=by
 unfold KV at r;induction r with
 | nil=>rfl
 | cons h t ih=>rw[BU,BU,ih,h.1]
def KV.length (r:KV kvs vs):kvs.length=vs.length:=N6 r
end
def FG {k:Ag} (r:RelV (kV k) u):(BB P w).is k u=true:=by
 cases k with
 | inl i=>obtain⟨t,e⟩:=(show ∃t,u=Value.int i t from r);subst e;exact iE P w i t
 | inr x=>obtain⟨t,e⟩:=(show ∃t,u=Value.str x t from r);subst e;exact iD P w x t
theorem Uj :∀{ks:List Ag}{us:List Value},Vals (ks.map kV) us->ItemsAre (BB P w) ks us
 | [],_,r=>by rw[map_nil]at r;cases r;exact .nil
 | k::ks,_,r=>by
  rw[BU]at r;cases r with
  | cons h t=>exact .cons (FG h) (Uj t)
abbrev KT (H:Hp):List (List Ag×V)->List (List Ag×Addr×Value)->Prop:=Paired λp q=>p.1=q.1/\H q.2.1=some (.tup (p.1.map kV))/\RelV p.2 q.2.2
def KT.val (r:KT H kvs xs)(k:List Ag):RelO (BM kvs k) ((atKey xs k).map (·.2)):=by
 induction r with
 | nil=>exact EA
 | @cons p q ps qs h t ih=>
  obtain⟨h1,_,h2⟩:=h;by_cases e:p.1=k
  ·have e':q.1=k:=h1.symm.trans e;have b:atKey (q::qs) k=some q.2:=by simp[atKey,CB,e']
   rw[Me e,b];exact h2
  have e':¬q.1=k:=λz=>e (h1.trans z);have b:atKey (q::qs) k=atKey qs k:=by simp[atKey,CB,e']
  rw[Mf e,b];exact ih
def KT.repl (r:KT H kvs xs)(k:List Ag) (ry:RelV y u) :
  KT H (kvs.map λkv=>if kv.1=k then(kv.1,y)else kv) (xs.map (putAt k u)):=by
 induction r with
 | nil=>exact .nil
 | @cons p q ps qs h t ih=>
  rw[BU,BU];refine .cons ?_ ih;obtain⟨h1,h2,h3⟩:=h;unfold putAt;by_cases e:p.1=k
  ·rw[AB e,AB (h1.symm.trans e)];exact⟨h1,h2,ry⟩
  rw[Ao e,Ao (λz=>e (h1.trans z))];exact⟨h1,h2,h3⟩
def KT.put (r:KT H kvs xs)(k:List Ag) (hb:H b=some (.tup (k.map kV)))(ry:RelV y u) :
  KT H (Cm kvs k y) (storedH xs k b u):=by
 have e:(kvs.any λkv=>decide (kv.1=k))=(atKey xs k).isSome:=by rw[JE,(r.val k).isSome_eq,isSome_map]
 unfold Cm storedH
 rw[e]
 by_cases q:(atKey xs k).isSome=true
 ·rw[AB q,AB q];exact r.repl k ry
 rw[Ao q,Ao q];exact Paired.snoc r ⟨rfl,hb,ry⟩
def KT.keeps (r:KT H kvs xs)(ht:∀b ys,H b=some (.tup ys)->H' b=some (.tup ys)):KT H' kvs xs:=
 Paired.mapP r λ_ _ z=>⟨z.1,ht _ _ z.2.1,z.2.2⟩
section
variable {P:Program}{w:World}{H:Hp}{h:Heap}{a:Addr}
def Td (ok:HOk P w H h)(e:Rd H a u):ObjOk P w H h a u:=e.ok ok
def Gg (ok:HOk P w H h)(e:Rd H a (.dK kvs)):kvs.length<=sizeLine/\(a == sysModules)=false/\∃vs,KV kvs vs/\h.DictOf (BB P w) a vs:=
 show ObjOk P w H h a (.dK kvs) from Td ok e
def NO (ok:HOk P w H h)(e:H a=some (.dK kvs)):kvs.length<=sizeLine/\(a == sysModules)=false/\∃vs,KV kvs vs/\h.DictOf (BB P w) a vs:=Gg ok (.inl e)
def II {ks:List Ag}(ok:HOk P w H h)(e:H a=some (.tup (ks.map kV))):(tupleKind (BB P w)).is h ks a:=by obtain⟨_,its,r,o,h1,h2,n,h3⟩:=(show ObjOk P w H h a (.tup (ks.map kV)) from ok a _ e);exact⟨o,its.toArray,n,h1,h2,h3,by simpa using Uj r⟩
def GZ (ok:HOk P w H h)(e:Rd H a (.dT kvs)):kvs.length<=sizeLine/\(a == sysModules)=false /\
  ∃xs,KT H kvs xs/\h.DictOfH (tupleKind (BB P w)) a xs:=by
 obtain⟨z,y,xs,r,o,es,ep,h1,h2,h3,h4,h5⟩:=(show ObjOk P w H h a (.dT kvs) from Td ok e)
 refine⟨z,y,xs,r,o,es,ep,h1,h2,h3,h4,λx hx=>?_,h5⟩
 have all:∀{l:List (List Ag×V)}{m:List (List Ag×Addr×Value)},KT H l m->∀x∈m,(tupleKind (BB P w)).is h x.1 x.2.1:=by
  intro l m q;induction q with
  | nil=>intro x hx;exact nomatch hx
  | @cons p q ps qs hq t ih=>
   intro x hx;rcases(AK.mp hx)with e | hx
   ·subst e;exact II ok (by rw[<- hq.1];exact hq.2.1)
   exact ih x hx
 exact all r x hx
def mW (ok:HOk P w H h)(e:H a=some (.dT kvs)):kvs.length<=sizeLine/\(a == sysModules)=false /\
  ∃xs,KT H kvs xs/\h.DictOfH (tupleKind (BB P w)) a xs:=GZ ok (.inl e)
end
def DGet (H:Hp)(a:Addr)(y:V)(r:Option V):Prop:=
 (∃kvs k,Rd H a (.dK kvs)/\y=kV k/\r=BM kvs k)\/∃kvs k b,Rd H a (.dT kvs)/\y=.ref b/\H b=some (.tup (k.map kV))/\r=BM kvs k
def DPut (H:Hp)(a:Addr)(y v:V)(H':Hp):Prop:=
 (∃kvs k,H a=some (.dK kvs)/\y=kV k/\kvs.length<sizeLine/\H'=upd H a (.dK (Cm kvs k v))) \/
 ∃kvs k b,H a=some (.dT kvs)/\y=.ref b/\H b=some (.tup (k.map kV))/\kvs.length<sizeLine/\H'=upd H a (.dT (Cm kvs k v))
theorem DGet.k {k:Ag}(e:H a=some (.dK kvs)):DGet H a (kV k) (BM kvs k):=.inl ⟨kvs,k,.inl e,rfl,rfl⟩
theorem DPut.k {k:Ag} (e:H a=some (.dK kvs))(hl:kvs.length<sizeLine):DPut H a (kV k) v (upd H a (.dK (Cm kvs k v))):=.inl ⟨kvs,k,e,rfl,hl,rfl⟩
section
variable {X:Cx}{aa:List (Addr×Obj)}{σ:St}{H:Hp}{s:Shared}{a:Addr}{y v:V}{u r:Value}{o:Option V}{A:Around}{E:Value->Shared->Prop}
def Inv.big (I:Inv X aa σ H s):sysModules<s.heap.objs.size:=by have h:mainGlobals<s.heap.objs.size:=(I.mod.glob.keeps I.bk).lt;exact G6 (by decide) h
def nK (hu:A.units+1<cLine)(I:Inv X aa σ H s)(g:DGet H a y (some v))(ry:RelV y u)(h:∀w' s',Inv X aa σ H s'->RelV v w'->Q w' s') :
  wpAny (model X.prog X.w) A (getItem (.ref a) u) Q E s:=by
 rcases g with⟨kvs,k,e,ey,l⟩ | ⟨kvs,k,b,e,ey,eb,l⟩
 ·subst ey;obtain⟨z,hd,vs,rel,dd⟩:=Gg I.hok e;obtain⟨w',hw,rw'⟩:=RelO.some_of (v:=v) (o:=valueAt vs k) (by rw[l];exact rel.val k);exact wpAny_getItem_of (FG ry) dd.mapOf hw (h w' _ (I.tok _) rw')
 subst ey
 cases (show u=Value.ref b from ry)
 obtain⟨z,hd,xs,rel,dd⟩:=GZ I.hok e
 obtain⟨w',hw,rw'⟩:=RelO.some_of (v:=v) (o:=(atKey xs k).map (·.2)) (by rw[l];exact rel.val k)
 obtain⟨p,hp,hp2⟩:=CH.mp hw
 refine wpAny_getItem_heap (LW hu) (II I.hok eb) dd hp ?_
 rw[hp2]
 exact h w' _ (I.tok _) rw'
def nJ (hu:A.units+1<cLine)(I:Inv X aa σ H s)(g:DGet H a y o)(ry:RelV y u)(h:∀s',Inv X aa σ H s'->Q (.bool o.isSome) s') :
  wpAny (model X.prog X.w) A (compareOp .In u (.ref a)) Q E s:=by
 rcases g with⟨kvs,k,e,ey,l⟩ | ⟨kvs,k,b,e,ey,eb,l⟩
 ·subst ey;obtain⟨z,hd,vs,rel,dd⟩:=Gg I.hok e;refine wpAny_in_of (FG ry) hd dd.mapOf ?_;rw[<- (rel.val k).isSome_eq,<- l];exact h _ (I.tok _)
 subst ey
 cases (show u=Value.ref b from ry)
 obtain⟨z,hd,xs,rel,dd⟩:=GZ I.hok e
 refine wpAny_in_heap (LW hu) (II I.hok eb) hd dd ?_
 have q:=(rel.val k).isSome_eq
 rw[isSome_map]at q
 rw[<- q,<- l]
 exact h _ (I.tok _)
def nI (hu:A.units+1<cLine)(I:Inv X aa σ H s)(g:DGet H a y o)(ry:RelV y u)(h:∀s',Inv X aa σ H s'->Q (.bool (!o.isSome)) s') :
  wpAny (model X.prog X.w) A (compareOp .NotIn u (.ref a)) Q E s:=by
 rcases g with⟨kvs,k,e,ey,l⟩ | ⟨kvs,k,b,e,ey,eb,l⟩
 ·subst ey;obtain⟨z,hd,vs,rel,dd⟩:=Gg I.hok e;refine wpAny_notIn_of (FG ry) hd dd.mapOf ?_;rw[<- (rel.val k).isSome_eq,<- l];exact h _ (I.tok _)
 subst ey
 cases (show u=Value.ref b from ry)
 obtain⟨z,hd,xs,rel,dd⟩:=GZ I.hok e
 refine wpAny_notIn_heap (LW hu) (II I.hok eb) hd dd ?_
 have q:=(rel.val k).isSome_eq
 rw[isSome_map]at q
 rw[<- q,<- l]
 exact h _ (I.tok _)
def Vd (I:Inv X aa σ H s)(mu:L7 (H a))(hs:Heap.SameBut a s.heap h')(he:∃q,h'.get? a=some q)(new:ObjOk X.prog X.w (upd H a ob) h' a ob) :
  Inv X aa σ (upd H a ob) { s with heap:=h',toks:=t' }:=
 I.write (x:=a) (e:=a) mu (.inl rfl) (λb q hb z=>(hs.2 b hb).trans z) he new
def mY (z:kvs.length<=sizeLine)(hd:(a == sysModules)=false)(rel:KV kvs vs)(dd:h'.DictOf (BB P w) a vs) :
  ObjOk P w H' h' a (.dK kvs):=⟨z,hd,vs,rel,dd⟩
def nH (hu:A.units+1<cLine)(I:Inv X aa σ H s)(g:DPut H a y v H')(ry:RelV y u)(rv:RelV v r)(h:∀s',Inv X aa σ H' s'->Q () s') :
  wpAny (model X.prog X.w) A (setItem (.ref a) u r) Q E s:=by
 rcases g with⟨kvs,k,e,ey,l,eH⟩ | ⟨kvs,k,b,e,ey,eb,l,eH⟩
 ·subst ey eH;obtain⟨z,hd,vs,rel,dd⟩:=NO I.hok e;have hz:vs.length<=sizeLine:=by rw[<- rel.length];exact z
  have hl:(Cm kvs k v).length<=sizeLine:=by have:=QH kvs k v;lia
  refine wpAny_setItem_pairs (hsz:=hz) (FG ry) dd λh' dd' hs=>h _ ?_;have he:∃q,h'.get? a=some q:=let ⟨q,_,_,hq,_⟩:=dd';⟨q,hq⟩;exact Vd I (by rw[e];exact EA) hs he (mY hl hd (rel.put k rv) dd')
 subst ey eH
 cases (show u=Value.ref b from ry)
 obtain⟨z,hd,xs,rel,dd⟩:=mW I.hok e
 have hz:xs.length<=sizeLine:=by rw[<- N6 rel];exact z
 have hl:(Cm kvs k v).length<=sizeLine:=by have:=QH kvs k v;lia
 refine wpAny_setItem_heap (hsz:=hz) (LW hu) (II I.hok eb) dd λh' dd' hs=>h _ ?_
 obtain⟨q,es,ep,hq,h2,h3,h4,_,h5⟩:=dd'
 refine Vd I (by rw[e];exact EA) hs ⟨q,hq⟩ ⟨hl,hd,_,(rel.put k eb rv).keeps λc ys ec=>?_,q,es,ep,hq,h2,h3,h4,h5⟩
 rw[Aj (Bg ec e (λz=>nomatch z))]
 exact ec
end
def VY (i:Expr):Prop:=∀ov iv,subscripted i false ov iv=operate [ov,iv] (getItem ov iv)
def Xl {prog:Program}{w:World}{A:Around}{E:Value->Shared->Prop}{s:Shared}{env:Env}{value slice:Expr}{pos:Pos}{T id:String}{Q:Value->Shared->Prop}
  (hl:typeLookup (.type T) "__getitem__" = pure (some (.builtin id)))(hs:VY slice)
  (h:wpAny (model prog w) A (eval value env) (λo s₁=>wpAny (model prog w) A (eval slice env) (λi s₂=>s₂.TypeIs o T/\wpAny (model prog w) A (getItem o i) Q E s₂) E s₁) E s) :
  wpAny (model prog w) A (eval (.Subscript value slice pos) env) Q E s:=by
 refine Subscript_ (BI h (λo s₁ h₁=>BI h₁ (λi s₂ h₂=>?_) λ_ _ x=>x) λ_ _ x=>x)
 obtain⟨hT,h₂⟩:=h₂
 unfold subscriptTail
 refine Ad ?_
 rw[getitemInPython_of_ne hT.not_modules]
 refine Ad (Ob hT hl ?_)
 have fin:wpAny (model prog w) A (subscripted slice false o i) (λr s₃=>wpAny (model prog w) A (letTemporaryGo value o r >>= λ_=>pure r) Q E s₃) E s₂:=by rw[hs o i];exact wpAny_operating (BI h₂ (λr s₃ h₃=>Ad (wpAny_letTemporaryGo (An h₃))) λ_ _ x=>x)
 first
  | exact An (Ad fin)
  | exact Ad (An (Ad fin))
  | exact Ad fin
def nB (I:Inv X aa σ H s)(g:DGet H a y o):s.TypeIs (.ref a) "dict" := by
 rcases g with⟨kvs,k,e,_,_⟩ | ⟨kvs,k,b,e,_,_,_⟩
 ·obtain⟨_,_,vs,_,dd⟩:=Gg I.hok e;exact dd.typeIs
 obtain⟨_,_,xs,_,dd⟩:=GZ I.hok e;exact dd.typeIs
inductive Ux (Q:VK)(x y:V)(H2:Hp):Prop
 | mk (a:_) (v:_) (c0:x=.ref a) (c1:DGet H2 a y (some v)) (c2:Q v H2):Ux Q x y H2
def Xd (td ty:TE):TE:=λσ H Q=>td σ H λx H1=>ty σ H1 λy H2=>Ux Q x y H2
inductive Us (Q:VK)(x y:V)(H2:Hp):Prop
 | mk (a:_) (o:_) (c0:x=.ref a) (c1:DGet H2 a y o) (c2:Q (.bl o.isSome) H2):Us Q x y H2
def Xb (ty td:TE):TE:=λσ H Q=>ty σ H λy H1=>td σ H1 λx H2=>Us Q x y H2
def W9 (ty td:TE):TE:=λσ H Q=>ty σ H λy H1=>td σ H1 λx H2=>∃a o,x=.ref a/\DGet H2 a y o/\Q (.bl (!o.isSome)) H2
def Yy (td ty tv:TE):TS:=λD σ H=>tv σ H λv H1=>td σ H1 λx H2=>ty σ H2 λy H3=>∃a H4,x=.ref a/\DPut H3 a y v H4/\D.nx σ H4
section
variable {X:Cx}{o i e value:Expr}{pos pos' tpos:Pos}{td ty tv:TE}
def Qx (hu:X.A.units+1<cLine)(ho:PE X o td)(hi:PE X i ty)(hs:VY i):PE X (.Subscript o i pos) (Xd td ty):=by intro aa s σ H Q I h;refine Xl PySem.F.slot_dict_getitem.lookup hs (Ap (ho aa s σ H _ I h) λu s1 hp0=>?_);obtain⟨x,H1,I1,rx,q1⟩:=hp0;refine Ap (hi aa s1 σ H1 _ I1 q1) λiv s2 hp1=>?_;obtain⟨y,H2,I2,ry,a,v,ex,g,q2⟩:=hp1;subst ex;obtain rfl:u=Value.ref a:=rx;exact⟨nB I2 g,nK hu I2 g ry λw' s3 I3 rw'=>⟨v,H2,I3,rw',q2⟩⟩
def Zr (hu:X.A.units+1<cLine)(hi:PE X i ty)(ho:PE X o td):PC X .In i o (Xb ty td):=by intro aa s σ H Q I h;refine Ap (hi aa s σ H _ I h) λiv s1 hp0=>?_;obtain⟨y,H1,I1,ry,q1⟩:=hp0;refine Ap (ho aa s1 σ H1 _ I1 q1) λu s2 hp1=>?_;obtain⟨x,H2,I2,rx,a,ov,ex,g,q2⟩:=hp1;subst ex;obtain rfl:u=Value.ref a:=rx;exact nJ hu I2 g ry λs3 I3=>⟨.bl ov.isSome,H2,I3,rfl,q2⟩
def Qy (hu:X.A.units+1<cLine)(hi:PE X i ty)(ho:PE X o td):PC X .NotIn i o (W9 ty td):=by intro aa s σ H Q I h;refine Ap (hi aa s σ H _ I h) λiv s1 hp0=>?_;obtain⟨y,H1,I1,ry,q1⟩:=hp0;refine Ap (ho aa s1 σ H1 _ I1 q1) λu s2 hp1=>?_;obtain⟨x,H2,I2,rx,a,ov,ex,g,q2⟩:=hp1;subst ex;obtain rfl:u=Value.ref a:=rx;exact nI hu I2 g ry λs3 I3=>⟨.bl (!ov.isSome),H2,I3,rfl,q2⟩
def Kc (hu:X.A.units+1<cLine)(ho:PE X o td)(hi:PE X i ty)(hv:PE X value tv)(hs:swapsWith value (some (.Subscript o i pos')) pos.line X.env=pure false) :
  PS X (.Assign [.Subscript o i pos'] value pos) (Yy td ty tv):=by
 intro aa s σ H D I h
 refine wpAny_Assign_Subscript (Ap (hv aa s σ H _ I h) λr s1 hp0=>?_) hs
 obtain⟨v,H1,I1,rv,q1⟩:=hp0
 refine Ap (ho aa s1 σ H1 _ I1 q1) λu s2 hp1=>?_
 obtain⟨x,H2,I2,rx,q2⟩:=hp1
 refine Ap (hi aa s2 σ H2 _ I2 q2) λiv s3 hp2=>?_
 obtain⟨y,H3,I3,ry,a,H4,ex,g,q3⟩:=hp2
 subst ex
 obtain rfl:u=Value.ref a:=rx
 exact nH hu I3 g ry rv λs4 I4=>⟨σ,H4,I4,q3⟩
end
def mZ (h:Heap)(hb:sysModules<h.objs.size):ObjOk P w H (h.push { cls:=.type "dict",data:=.dict #[] }) h.objs.size (.dK []):=
 ⟨Bk _,G4.mpr (DB (AY hb)),[],.nil,Heap.DictOf.new h⟩
def Xa:TE:=λ_ H Q=>∀p,H p=none->Q (.ref p) (upd H p (.dK []))
section
variable {X:Cx}{pos:Pos}
def Ni:PE X (.Dict [] [] pos) Xa:=λaa s σ H Q I h=>wpAny_Dict_empty ⟨.ref s.heap.objs.size,_,I.laid (a:=s.heap.objs.size) (o:=.dK []) (t':=s.toks) (λ_ _ q=>AG _ q) (Am _) (mZ s.heap I.big),rfl,h _ (I.hok.fresh (Am _))⟩
end
structure M2 (X:Cx)(o:Expr)(m:Str)(apos:Pos)(e f:Expr)(cpos:Pos):Prop where
 base:attributeBase o m X.env (eval o X.env)=eval o X.env
 few:((backTo cpos (starEach [e,f] X.env)).all (λx=>!x.1) && (backToKw cpos (keywordEach [] X.env)).all (λx=>x.1.isSome)
  && decide (([e,f]:List Expr).length+([]:List Keyword).length+(if ([]:List Keyword).isEmpty then 0 else 1)<30))=true
 line:(apos.endLine == cpos.line)=true
 trees:backTo cpos (starEach [e,f] X.env)=[(false,eval e X.env),(false,eval f X.env)]
def V2 (H:Hp)(a:Addr):Prop:=(∃kvs,Rd H a (.dK kvs))\/∃kvs,Rd H a (.dT kvs)
def Um (I:Inv X aa σ H s)(d:V2 H a) :
  s.TypeIs (.ref a) "dict" /\ (∀b,Value.ref a=.ref b->∃ob,s.heap.get? b=some ob/\ob.dict=none)/\(a == sysModules)=false:=by
 rcases d with⟨kvs,e⟩ | ⟨kvs,e⟩
 ·obtain⟨_,hd,vs,_,dd⟩:=Gg I.hok e;refine⟨dd.typeIs,λb q=>?_,hd⟩;cases q;obtain⟨ob,_,_,h1,h2,_⟩:=dd;exact⟨ob,h1,h2.2.1⟩
 obtain⟨_,hd,xs,_,dd⟩:=GZ I.hok e
 refine⟨dd.typeIs,λb q=>?_,hd⟩
 cases q
 obtain⟨ob,_,_,h1,h2,_⟩:=dd
 exact⟨ob,h1,h2.2.1⟩
section
variable {X:Cx}{aa:List (Addr×Obj)}{σ:St}{H:Hp}{s:Shared}{a:Addr}{y d:V}{u r:Value}{o:Option V}{A:Around}{E:Value->Shared->Prop}
def nM (hu:A.units+1<cLine)(I:Inv X aa σ H s)(g:DGet H a y o)(ry:RelV y u)(rd:RelV d r)(h:∀w' s',Inv X aa σ H s'->RelV (o.getD d) w'->Q w' s') :
  wpAny (model X.prog X.w) A (call (.builtin "dict.get") [.ref a,u,r]) Q E s:=by
 rcases g with⟨kvs,k,e,ey,l⟩ | ⟨kvs,k,b,e,ey,eb,l⟩
 ·subst ey;obtain⟨z,hd,vs,rel,dd⟩:=Gg I.hok e;refine N1 RS dd.typeIs PySem.F.entry_dict_get (PySem.F.args_dict_get_3 _ _ _) (meets_dict_get_default (BB X.prog X.w) a (FG ry) hd r) ⟨_,dd.mapOf,h _ _ (I.tok _) ?_⟩;rw[l];exact(rel.val k).getD rd
 subst ey
 cases (show u=Value.ref b from ry)
 obtain⟨z,hd,xs,rel,dd⟩:=GZ I.hok e
 refine N1 RS dd.typeIs PySem.F.entry_dict_get (PySem.F.args_dict_get_3 _ _ _) (meetsH_dict_get_default (tupleKind (BB X.prog X.w)) a b hd r) ⟨LW hu,k,xs,II I.hok eb,dd,h _ _ (I.tok _) ?_⟩
 rw[l]
 exact(rel.val k).getD rd
end
def Xc (td ty tx:TE):TE:=λσ H Q=>td σ H λx H1=>∃a,x=.ref a/\V2 H1 a/\ty σ H1 λy H2=>tx σ H2 λz H3=>∃o,DGet H3 a y o/\Q (o.getD z) H3
section
variable {X:Cx}{o e f:Expr}{apos cpos:Pos}{td ty tx:TE}
def Tt (hu:X.A.units+1<cLine)(ho:PE X o td)(he:PE X e ty)(hf:PE X f tx)(m:M2 X o "get" apos e f cpos):PE X (.Call (.Attribute o "get" apos) [e,f] [] cpos) (Xc td ty tx):=by intro aa s σ H Q I h;refine wpAny_Call_method m.base m.few m.line RX RS PySem.F.type_dict_get (Ap (ho aa s σ H _ I h) λu s1 hp0=>?_);obtain⟨x,H1,I1,rx,a,ex,d,q1⟩:=hp0;subst ex;obtain rfl:u=Value.ref a:=rx;obtain⟨t1,t2,_⟩:=Um I1 d;refine⟨t1,t2,?_⟩;rw[m.trees];refine Ot rfl (RM (Ol (Ap (he aa s1 σ H1 _ I1 q1) λiv s2 ⟨y,H2,I2,ry,q2⟩=>Ol (Ap (hf aa s2 σ H2 _ I2 q2) λfv s3 ⟨z,H3,I3,rz,ov,g,q3⟩=>Rv ?_))));exact nM hu I3 g ry rz λw' s4 I4 rw'=>⟨_,H3,I4,rw',q3⟩
end
end L2
namespace Att
open PySem PySem.W PySem.Calls PyProof.Rows
def kK :∀(ns:List Int) (vs:List Value),WellAll P h vs (ns.map WData.int)->IntsAre vs ns:=by
 intro ns;induction ns with
 | nil=>intro vs w;rw[map_nil]at w;cases w;exact .nil
 | cons n ns ih=>
  intro vs w;rw[BU]at w;cases w with
  | cons a b=>cases a;exact .cons _ _ (ih _ b)
def XN {l:OpenLaw}{n:Nat}(hn:l.most=some n){P:Params}{h:Heap}{args:List WData}{vals:List Value}
  (hpre:l.row.toRowW.claim.pre args=true)(hwl:WellAll P h vals args) :
  ∃a vs ns,vals=[Value.ref a]/\args=[WData.list (ns.map WData.int)]/\h.get? a=some { cls:=.type "list",data:=.seq vs.toArray }/\IntsAre vs ns/\ns.length<=n:=by
 have hsh:WShape.hasAll [] args [.list .int]=true:=(pre_splitW hpre).1
 have hc:l.pre.holds [] { args:=args } = true:=(pre_splitW hpre).2
 obtain⟨d,r,rfl,h1,h2⟩:=hasAllW_cons hsh
 obtain rfl:=hasAllW_nil h2
 obtain⟨xs,rfl,h3⟩:=hasW_list h1
 obtain⟨ns,rfl⟩:=items_int h3
 have hlen:ns.length<=n:=by
  unfold OpenLaw.pre at hc;have h4:(WTm.not (.lt (.lit (.int (n:Int))) (.len (.arg 0)))).holds [] { args:=[.list (ns.map .int)] } = true:=by have h4:=(holds_andW hc).1;rw[hn]at h4;exact h4
  have h5:=condW_of h4 (w_not (w_lt w_lit (w_len_list (w_arg rfl))));rw[Al]at h5;refine le_of_not_lt λq=>?_;have q':(n:Int)<((ns.length:Nat):Int):=by lia
  first
   | (rw[Bb q']at h5;exact absurd h5 (by decide))
   | (simp at h5;lia)
 cases hwl with
 | cons w1 w2=>
  cases w2;cases w1 with
  | list ho hall=>exact⟨_,_,ns,rfl,rfl,ho,kK ns _ hall,hlen⟩
def Y8 (l:OpenLaw)(args:List WData):l.row.toRowW.claim.post args (.bool true) args=true:=
 postW_of (r:=l.row.toRowW) (X:=(true == true))
  (show WShape.has [] (.bool true) .bool=true by first | rfl | decide | simp[WShape.has,WShape.arms,WShape.armsAll])
  (show(WTm.eq .res (.lit (.bool true))).value [] { args:=args,res:=some (.bool true),after:=args } = some (.bool (true == true)) from w_eq_bool (w_res rfl) w_lit) rfl
def attach_call {l:OpenLaw}{n:Nat}{q:Program}{loose:List Str}{XP:(Str->Option Value)->Heap->Prop}{YP:World->Heap->Prop}{d:DefRec}
  (hn:l.most=some n)(hdf:d.params.defaults=[])
  (call:∀(w:World) (s₀ s₁:Shared) (mg mb:Str->Option Value) (fa:Addr) (o:Obj) (pm cd doc:Value) (a:Addr) (vs:List Value) (ns:List Int),Ground q loose [] XP w s₀ mg mb s₁.heap->YP w s₁.heap -> s₁.heap.get? fa=some o->o.data=.func (docDef d.name d.params d.body d.scope pm cd doc)->s₁.heap.CodeRec cd d.name->mg d.name=some (.ref fa) -> s₁.heap.get? a=some { cls:=.type "list",data:=.seq vs.toArray }->IntsAre vs ns->ns.length<=n->s₁.gens=#[] -> codeAny (model l.prog w) callerA (.call (.ref fa) ⟨[.ref a],[]⟩) (λr s'=>r=.ok (.ret (.bool true))/\OldK s₁.heap s'.heap/\s'.os=s₁.os/\AllBare s'.gens) s₁) :
  WalkO q loose XP YP l.row.toRowW d [] (λf vs=>PySem.call f vs):=by
 intro w s₀ s₁ mg mb G Y fa o pm cd doc dV kV ho hd hcd hD hmg hg args vals as hpre hlay hrd hwl hlo
 obtain rfl:dV=.none:=Dflts.none hD hdf
 obtain rfl:kV=.none:=Dflts.noKw hD
 obtain⟨a,vs,ns,rfl,rfl,hobj,hints,hlen⟩:=XN hn hpre hwl
 refine enter_call (Ea (call w s₀ s₁ mg mb fa o pm cd doc a vs ns G Y ho (fd_plain hd) hcd hmg hobj hints hlen hg) λr s' hq=>?_)
 obtain⟨rfl,h2,h3,h4⟩:=hq
 exact⟨.inl ⟨.bool true,.bool true,[],rfl,λ_=>rfl,.bool true,Y8 l _,λ_=>⟨Ru,λ_ hm=>(nomatch hm)⟩⟩,h2,h3,h4⟩
section
variable {prog:Program}{w:World}{A:Around}{E:Value->Shared->Prop}{s:Shared}{K:Frag}
def noObjs (h:Heap):Heap:={ h with objs:=#[] }
def noObjs_get (h:Heap)(b:Addr):(noObjs h).get? b=none:=by
 cases e:(noObjs h).get? b with
 | none=>rfl
 | some o=>exact absurd (AF e) (LJ _)
def ledger (h:Heap)(L d:Addr):List (Addr×Obj):=(List.range h.objs.size).filterMap λa=>if a=L\/a=d then none else(h.get? a).map λo=>(a,o)
def mem_ledger :(a,o)∈ledger h L d↔a≠L/\a≠d/\h.get? a=some o:=by
 unfold ledger;rw[LG];constructor
 ·rintro⟨b,_,e⟩;split at e
  ·cases e
  rename_i hb;obtain⟨o',ho,e'⟩:=CH.mp e;cases e';exact⟨λq=>hb (.inl q),λq=>hb (.inr q),ho⟩
 rintro⟨n1,n2,ho⟩;refine⟨a,DO.mpr (AF ho),?_⟩;rw[Ao (show ¬(a=L\/a=d) from λq=>q.elim n1 n2),ho] <;> rfl
def fr_all (n:h.Ns L m):Fr (noObjs h) L h m:=
 ⟨n,λb o e=>(by rw[noObjs_get]at e;cases e),Bk _⟩
end
end Att
namespace L2
open PySem PySem.Spec PyProof.Rows
theorem Su:∀{vs:List Value}{ns:List Int},IntsAre vs ns->Vals (ns.map V.int) vs
 | _,_,.nil=>.nil
 | _,_,.cons n t h=>.cons ⟨t,rfl⟩ (Su h)
def CZ (s:Stmt)(j:Nat):Stmt:=match s with
 | .ClassDef _ _ _ body _ _ _ _ _ _ _=>body.getD j (.Pass ⟨0,0,0,0⟩)
 | _=>.Pass ⟨0,0,0,0⟩
def Du (s:Stmt):Arguments:=match s with
 | .FunctionDef _ a _ _ _ _ _ _ _ _=>a
 | _=>{ posonlyargs:=[],args:=[],vararg:=none,kwonlyargs:=[],kw_defaults:=[],kwarg:=none,defaults:=[] }
def Cf (s:Stmt):List Stmt:=match s with
 | .FunctionDef _ _ b _ _ _ _ _ _ _=>b
 | _=>[]
def Ak (s:Stmt):Scope:=match s with
 | .FunctionDef _ _ _ _ _ _ sc _ _ _=>sc
 | _=>{ kind:=.function,names:=[],isGenerator:=false,isCoroutine:=false }
abbrev CX0:DD:=λ_ _ _ _ _ _=>False
abbrev E0:XK:=λ_ _ _=>False
def Ai :Eg CX0 X E0:=λ_ _ _ _ _ _ _ h=>h.elim
structure Fun (K:W.Frag)(x qual:Str)(st:Stmt)(f:Addr)(fd:FuncData):Prop where
 ex:∃(oc:Value) (od:Option Addr) (kV doc pm:Value) (an:Option Addr) (aj ct:Value) (osl:Array (Option Value)),
  fd=PySem.W.fnOf x qual (Du st) (Cf st) (Ak st) .none kV doc pm an aj ct/\K.lookup f=some ⟨oc,od,.func fd,osl⟩/\PySem.W.codeIn K aj qual=true
 kp:PySem.W.keepIn K (.ref f)=true
section
variable {P:Program}{w:World}{K:W.Frag}{mg:Str->Option Value}{base:Heap}
def Fun.ok {x qual:Str}{st:Stmt}{f:Addr}{fd:FuncData}{N ps:List Str}{k:Nat}{sp:Sp}(F:Fun K x qual st f fd)(S:Au N ps (Ak st))(len:∀vs H Q E,sp vs H Q E->vs.length=ps.length)
  (hbody:∀(aj:Value) (A:Around) (ag:List Env) (s:Shared) (H:Hp) (vs:List V) (Q:VK) (E:XK),Room k (A.deeper (envOfC qual (Ak st) s.heap.objs.size f aj))->sp vs H Q E -> ∃t,PSs (B3 CX0 P w K mg base N qual (Ak st) f aj A ag s H E).nox (Cf st) t/\t { nx:=λ_ H'=>Q .non H',rt:=Q } (DH N vs) H):FnOk P w K mg base CX0 (k+1) f fd ps sp:=by
 obtain⟨oc,od,kV,doc,pm,an,aj,ct,osl,rfl,lk,hcd⟩:=F.ex
 refine Li lk hcd S len λA ag s H vs Q E hr hsp=>?_
 obtain⟨t,h,q⟩:=hbody aj A ag s H vs Q E hr hsp
 exact⟨t,h.nox,q⟩
def Fun.binds {x qual:Str}{st:Stmt}{f:Addr}{fd:FuncData}{ps:List Str}(F:Fun K x qual st f fd)
  (h:∀(kV doc pm:Value) (an:Option Addr) (aj ct:Value) (us:List Value),us.length=ps.length->bindArgs (PySem.W.fnOf x qual (Du st) (Cf st) (Ak st) .none kV doc pm an aj ct) ⟨us,[]⟩=pure (ps.zip us)):Binds K fd ps []:=by
 obtain⟨oc,od,kV,doc,pm,an,aj,ct,osl,rfl,lk,hcd⟩:=F.ex
 exact .all (h kV doc pm an aj ct)
def IS {x qual:Str}{st:Stmt}{f:Addr}{oc:Value}{od an:Option Addr}{osl:Array (Option Value)}{kV doc pm aj ct:Value}(l:K.lookup f=some ⟨oc,od,.func (PySem.W.fnOf x qual (Du st) (Cf st) (Ak st) .none kV doc pm an aj ct),osl⟩)
  (c:PySem.W.codeIn K aj qual=true)(k:PySem.W.keepIn K (.ref f)=true):Fun K x qual st f (PySem.W.fnOf x qual (Du st) (Cf st) (Ak st) .none kV doc pm an aj ct):=⟨⟨oc,od,kV,doc,pm,an,aj,ct,osl,rfl,l,c⟩,k⟩
end
def Em {k:Nat}(hr:Room k A):A.units+1<cLine:=FQ (Nat.add_le_add_left (by decide:1<=64) _) hr.units
section
variable {X:Cx}
def pv (i:Nat) (hN:X.N[i]? = some x:=by rfl)(hv:R4 X.env.scope x:=by first | exact Or.inl rfl | exact Fm (Or.inl rfl) | exact Fm (Fm rfl))(hd:(x == ("__debug__" : Str))=false:=by decide)
  (hcd:(x == ("__classdict__" : Str))=false:=by decide):PE X (.Name x pos) (Mm i):=Zf hN hv hd hcd
end
def A4 {A B:Prop}(h:B):if false=true then A else B:=by rw[Ao B5];exact h
def BH {A B:Prop}(h:A):if true=true then A else B:=by rw[AB rfl];exact h
def AZ {c A B:Prop}[Decidable c](h1:c->A)(h2:¬c->B):if c then A else B:=by
 by_cases h:c
 ·rw[AB h];exact h1 h
 rw[Ao h];exact h2 h
def Same (H H':Hp):Prop:=∀b o,H b=some o->H' b=some o
def Same.refl (H:Hp):Same H H:=λ_ _ h=>h
def Same.trans (a:Same H H1)(b:Same H1 H2):Same H H2:=λc o h=>b c o (a c o h)
def Same.free (e:Same H H') (h:H' l=Option.none):H l=Option.none:=by
 cases q:H l with
 | none=>rfl
 | some o=>rw[e l o q]at h;cases h
def Same.seq {K:W.Frag}{H H':Hp}{a:Addr}{xs:List V}(e:Same H H')(h:SqL K H a xs):SqL K H' a xs:=by
 rcases h with(h | ⟨o,h⟩) | h
 ·exact .inl (.inl (e _ _ h))
 ·exact .inl (.inr ⟨o,e _ _ h⟩)
 exact .inr h
section
variable {κ:Type} [DecidableEq κ]
def Mg {k:κ} (h:BM kvs k=some v):k∈kvs.map (·.1):=by
 have q:(kvs.any λkv=>decide (kv.1=k))=true:=by rw[JE,h];all_goals rfl
 obtain⟨p,hp,e⟩:=DK.mp q;exact AE.mpr ⟨p,hp,BF e⟩
theorem Nw:∀{l:List κ}{k:κ},l.Nodup->¬k∈l->(l++[k]).Nodup
 | [],k,_,_=>by simp
 | a::r,k,h,hk=>by
  obtain⟨h1,h2⟩:=Ey.mp h;show(a::(r++[k])).Nodup;refine Ey.mpr ⟨λm=>?_,Nw h2 λm=>hk (AK.mpr (Fm m))⟩;rcases(A5.mp m)with q | q
  ·exact h1 q
  exact hk (AK.mpr (Or.inl (AQ.mp q).symm))
end
def Cz (cells:List (Str×Addr)):List (Str×NameKind)->List (Str×Addr)->List (Str×Addr)
 | [],cs=>cs
 | (n,k)::r,cs=>Cz cells r (if k == NameKind.free then(n,(cells.lookup n).getD 0)::cs else cs)
theorem Vk :∀(ns:List (Str×NameKind)) (cs:List (Str×Addr)),(∀y∈ns,y.2=NameKind.free->(env.cells.lookup y.1).isSome=true) ->
  (forIn ns cs λ(p:Str×NameKind) (r:List (Str×Addr))=>if (p.2 == NameKind.free)=true then(do let a <- cellOf env p.1;pure (ForInStep.yield ((p.1,a)::r)):Sem _)else pure (ForInStep.yield r))=(pure (Cz env.cells ns cs):Sem _)
 | [],cs,_=>by simp[Cz]
 | (n,k)::r,cs,h=>by
  have ih:=λcs'=>Vk r cs' λy hy=>h y (Bn _ hy);rw[List.forIn_cons];by_cases hk:k=NameKind.free
  ·subst hk;have hs:=h (n,NameKind.free) Bo rfl;cases e:env.cells.lookup n with
   | none=>rw[e]at hs;cases hs
   | some c=>
    have e1:cellOf env n=pure c:=by unfold cellOf;rw[e]
    have e2:Cz env.cells ((n,NameKind.free)::r) cs=Cz env.cells r ((n,c)::cs):=by simp[Cz,e]
    rw[e2,<- ih ((n,c)::cs)];(simp only[LO,FN]);rw[e1];rfl
  have hb:(k == NameKind.free)=false:=by simpa using hk
  have e2:Cz env.cells ((n,k)::r) cs=Cz env.cells r cs:=by simp[Cz,hb]
  rw[e2,<- ih cs];(simp only[hb,Gm,G8]);rfl
def Vh (h:∀y∈scope.names,y.2=NameKind.free->(env.cells.lookup y.1).isSome=true):closureFor scope env=pure (Cz env.cells scope.names []):=by have e:=Vk (env:=env) scope.names [] h;unfold closureFor;simp only[bind_pure];exact e
theorem Vi :∀{ns:List (Str×NameKind)}{cs:List (Str×Addr)},(∀y∈ns,y.2=NameKind.free->(cells.lookup y.1).isSome=true)->(cs.lookup x=some c->cells.lookup x=some c) ->
  (Cz cells ns cs).lookup x=some c->cells.lookup x=some c
 | [],_,_,h,e=>h e
 | (n,k)::r,cs,hn,h,e=>by
  refine Vi (ns:=r) (λy hy=>hn y (Bn _ hy)) ?_ e;by_cases hk:k=NameKind.free
  ·subst hk;(simp only[LO,FN]);intro q;rw[Gk]at q;by_cases hx:x=n
   ·subst hx;have hs:=hn (x,NameKind.free) Bo rfl;simp only[LO]at q;cases e1:cells.lookup x with
    | none=>rw[e1]at hs;cases hs
    | some d=>rw[e1]at q;exact q
   have hb:(x == n)=false:=by simpa using hx
   rw[hb]at q;exact h q
  have hb:(k == NameKind.free)=false:=by simpa using hk
  (simp only[hb,Gm,G8]);exact h
theorem Vj :∀{ns:List (Str×NameKind)}{cs:List (Str×Addr)},(cs.lookup x).isSome=true->((Cz cells ns cs).lookup x).isSome=true
 | [],_,h=>h
 | (n,k)::r,cs,h=>by
  refine Vj (ns:=r) ?_;split
  ·rw[Gk];split
   ·rfl
   exact h
  exact h
theorem Q5 :∀{ns:List (Str×NameKind)}{cs:List (Str×Addr)},(x,NameKind.free)∈ns->((Cz cells ns cs).lookup x).isSome=true
 | [],_,h=>nomatch h
 | (n,k)::r,cs,h=>by
  rcases(AK.mp h)with e | e
  ·cases e;refine Vj (ns:=r) ?_;simp
  exact Q5 (ns:=r) e
theorem Na {env:Env}{x:Str}{k:NameKind}:∀{ns:List (Str×NameKind)},(∀y∈ns,y.2≠NameKind.cell)->k=NameKind.cell\/k=NameKind.free ->
  (ns.map λ(p:Str×NameKind)=>if (p.2 == NameKind.free && env.scope.kind == .function && env.kindOf p.1 == some .cell)then(p.1,NameKind.cell)else(p.1,p.2)).lookup x=some k->(x,NameKind.free)∈ns
 | [],_,_,e=>by simp at e
 | (n,j)::r,hn,hk,e=>by
  rw[BU]at e;by_cases hx:x=n
  ·subst hx
   have hj:j=NameKind.free:=by
    by_cases hc:(j == NameKind.free && env.scope.kind == .function && env.kindOf x == some .cell)=true
    ·simp only[B8,EB]at hc;exact hc.1.1
    simp only[hc]at e;simp at e;subst e;rcases hk with q | q
    ·exact absurd q (hn (x,j) Bo)
    exact q
   subst hj;exact Bo
  refine Bn _ (Na (env:=env) (λy hy=>hn y (Bn _ hy)) hk ?_);by_cases hc:(j == NameKind.free && env.scope.kind == .function && env.kindOf n == some .cell)=true
  ·simp only[hc,FN]at e;rw[Gk]at e;have hb:(x == n)=false:=by simpa using hx
   rw[hb]at e;exact e
  simp only[hc]at e;simp at e;rw[Gk]at e;have hb:(x == n)=false:=by simpa using hx
  rw[hb]at e;simpa using e
def CY (X:Cx)(N:List Str)(scope:Scope)(C:Addr)(s:Shared)(H:Hp)(fp:List Addr):Cx where
 prog:=X.prog
 w:=X.w
 K:=X.K
 mg:=X.mg
 base:=X.base
 A:=X.A
 N:=N
 s₀:=s
 H₀:=H
 env:=compEnvC scope (Cz X.env.cells scope.names []) C X.env
 ag:=X.stack
 stack:=X.stack
 ex:=fp
 fn:=λ_=>false
 calm:=X.calm
 pn:=[]
 xe:=λ_ _=>False
def Fd (n:Nat)(js:List Nat)(σ:St):St:=replicate n none++js.map λj=>(σ[j]?).getD none
structure LcOk (X:Cx)(N:List Str)(sc scope:Scope)(own:List Str)(fr:List Str)(js:List Nat):Prop where
 around:X.env.scope=sc
 names:N=own++fr
 kind:scope.kind=.function
 okind:sc.kind=.function
 nocell:∀y∈scope.names,y.2≠NameKind.cell
 free:∀y∈scope.names,y.2=NameKind.free->sc.names.lookup y.1=some NameKind.cell
 loc:∀y∈scope.names,y.2=NameKind.local->scope.names.lookup y.1=some NameKind.local
 at':js.map (λj=>X.N[j]?)=fr.map some
 cap:∀x∈fr,sc.names.lookup x=some NameKind.cell/\scope.names.lookup x=some NameKind.free
theorem Tb {env:Env}{x:Str}(hk:env.scope.kind=.function)(hx:env.kindOf x=some NameKind.cell):∀{ns:List (Str×NameKind)},ns.lookup x=some NameKind.free ->
  (ns.map λ(p:Str×NameKind)=>if (p.2 == NameKind.free && env.scope.kind == .function && env.kindOf p.1 == some .cell)then(p.1,NameKind.cell)else(p.1,p.2)).lookup x=some NameKind.cell
 | [],e=>by simp at e
 | (n,j)::r,e=>by
  rw[BU];rw[Gk]at e;by_cases hn:x=n
  ·subst hn;simp only[LO]at e;cases e;have hc:(NameKind.free == NameKind.free && env.scope.kind == .function && env.kindOf x == some .cell)=true:=by rw[hk,hx];rfl
   simp only[hc,FN];rw[Gk];simp
  have hb:(x == n)=false:=by simpa using hn
  rw[hb]at e;have ih:=Tb hk hx (ns:=r) e;by_cases hc:(j == NameKind.free && env.scope.kind == .function && env.kindOf n == some .cell)=true
  ·simp only[hc,FN];rw[Gk,hb];exact ih
  rw[Ao hc,Gk,hb];exact ih
def LcOk.cellAt (L:LcOk X N sc scope own fr js)(ok:X.Ok):∀y∈scope.names,y.2=NameKind.free->(X.env.cells.lookup y.1).isSome=true:=λy hy hf=>by obtain⟨c,e⟩:=ok.has y.1 (.inl (show X.env.scope.names.lookup y.1=_ by rw[L.around];exact L.free y hy hf));rw[e];rfl
def LcOk.sub (L:LcOk X N sc scope own fr js)(ok:X.Ok) (e:(Cz X.env.cells scope.names []).lookup x=some c):X.env.cells.lookup x=some c:=
 Vi (L.cellAt ok) (λz=>by simp at z) e
def LcOk.len (L:LcOk X N sc scope own fr js):js.length=fr.length:=by have:=BY List.length L.at';simpa using this
theorem iZ (L:LcOk X N sc scope own fr js)(I:Inv X aa σ H s)(hf:∀b∈fp,FpOk X aa H b)
  (ho:∀b∈fp,b<s.heap.objs.size) (hC:s.heap.objs.size<=C):(CY X N scope C s H fp).Ok where
 mod:=I.mod
 kind:=L.kind
 glob:=I.ok.glob
 blt:=I.ok.blt
 above:=hC
 inj:=λx y c e1 e2=>I.ok.inj x y c (L.sub I.ok e1) (L.sub I.ok e2)
 has:=λx hx=>by
  have hm:(x,NameKind.free)∈scope.names:=by
   rcases hx with q | q
   ·exact Na L.nocell (.inl rfl) q
   exact Na L.nocell (.inr rfl) q
  have:=Q5 (cells:=X.env.cells) (cs:=[]) hm;cases e:(Cz X.env.cells scope.names []).lookup x with
  | none=>rw[e]at this;cases this
  | some c=>exact⟨c,e⟩
 cab:=λ_ _ z _=>nomatch z
 hd:=I.ok.hd
 frames:=I.ok.frames
 stk:=.inl rfl
 exf:=λb hb=>⟨AY (BJ (ho b hb) hC),λx c e=>(hf b hb).2.2.2.2.1 x c (L.sub I.ok e)⟩
 bs:=I.bs
 bsz:=BV I.ok.bsz I.sz
 noex:=λb o e hb=>by
  rcases(hf b hb).2.2.2.1 with q | q
  ·exact I.ok.noex b o e q
  exact absurd (BJ (AF (I.ok.bs b o e).1) q) (C7 _)
 exfs:=λb hb hs=>by
  rcases AK.mp (I.stkSub b hs)with q | q
  ·exact(hf b hb).2.1 q
  exact(hf b hb).2.2.1 q
 funs:=I.stack
 frf:=I.stkFree
def getD_none (h:o.getD none=some v):o=some (some v):=by
 cases o with
 | none=>cases h
 | some u=>cases u with
  | none=>cases h
  | some w=>cases h;rfl
def nQ (e:(Fd n js σ)[i]? = some (some v)):∃k j,i=n+k/\js[k]? = some j/\σ[j]? = some (some v):=by
 unfold Fd at e;by_cases hi:i<n
 ·rw[Cr (by simpa using hi)]at e;rw[Ry]at e;split at e <;> cases e
 rw[Ci (by simpa using hi)]at e;simp only[Od,AV]at e;cases q:js[i-n]? with
 | none=>rw[q]at e;cases e
 | some j=>rw[q]at e;exact⟨i-n,j,by lia,q,getD_none (BS e)⟩
def iW (L:LcOk X N sc scope own fr js)(I:Inv X aa σ H s)(hf:∀b∈fp,FpOk X aa H b)
  (ho:∀b∈fp,b<s.heap.objs.size) {tk:Nat}(hn:h'.Ns (s.heap.objs.size+1) m)(hk:∀b o,s.heap.get? b=some o->h'.get? b=some o)
  (hl:h'.get? s.heap.objs.size=some { cls:=.type "list",data:=.seq ([]:List Value).toArray }) :
  Inv (CY X N scope (s.heap.objs.size+1) s H fp) [] (Fd own.length js σ) (upd H s.heap.objs.size (.lst [])) { s with heap:=h',toks:=tk }:=by
 have fresh:∀a,s.heap.objs.size<=a->H a=none:=λa ha=>I.hok.fresh ha
 have cellAt:∀x c,(Cz X.env.cells scope.names []).lookup x=some c->∃v,s.heap.IsCell c v:=λx c e=>I.cell x c (L.sub I.ok e)
 refine⟨iZ L I hf ho (Ef _),rfl,I.bare,Un.laid hk (Am _) (fresh _ (Am _)),⟨m,hn,λi x v e1 e2 e3=>?_⟩,λx c e=>?_,?_,λx c e=>?_,λp hp=>?_,I.hok.laid hk (Am _) ?_,?_⟩
 ·obtain⟨k,j,rfl,hj,hv⟩:=nQ e2;have hN:(own++fr)[own.length+k]? = some x:=by have e1':N[own.length+k]? = some x:=e1;rw[L.names]at e1';exact e1'
  rw[Ci (by lia),RW]at hN;have hx:x∈fr:=Bt hN;have hjx:X.N[j]? = some x:=by have:=BY (λl=>l[k]?) L.at';simp only[AV,hj,hN,map_some]at this;exact BS this
  obtain⟨kc',kr'⟩:=L.cap x hx;have kc:X.env.kindOf x=some NameKind.cell:=by show X.env.scope.names.lookup x=_;rw[L.around];exact kc'
  have kr:(relabel scope X.env).names.lookup x=some NameKind.cell:=Tb (by rw[L.around];exact L.okind) kc kr';obtain⟨m0,_,hl0⟩:=I.loc;obtain⟨u,r,l⟩:=hl0 j x v hjx hv (.inr (.inl kc));refine⟨u,r,.inr ⟨.inl kr,?_⟩⟩;rcases l with⟨kk,_⟩ | ⟨_,c,hc,z⟩
  ·rw[kc]at kk;cases kk
  have hs:((Cz X.env.cells scope.names []).lookup x).isSome=true:=Q5 (Na L.nocell (.inl rfl) kr);cases e:(Cz X.env.cells scope.names []).lookup x with
  | none=>rw[e]at hs;cases hs
  | some d=>have ed:=L.sub I.ok e;rw[hc]at ed;cases ed;obtain⟨o,ho',hd⟩:=z;exact⟨c,e,o,hk c o ho',hd⟩
 ·obtain⟨v,o,ho',hd⟩:=cellAt x c e;exact⟨v,o,hk c o ho',hd⟩
 ·show upd H s.heap.objs.size _ (s.heap.objs.size+1)=none;rw[Aj (Nat.succ_ne_self _)];exact fresh _ (Ef _)
 ·obtain⟨v,o,ho',hd⟩:=cellAt x c e;rw[Aj (AY (AF ho'))];exact I.freeC x c (L.sub I.ok e)
 ·exact nomatch hp
 ·exact⟨Bk _,[],0,.nil,hl⟩
 show(Fd own.length js σ).length=N.length
 rw[L.names]
 simp[Fd,L.len]
def L6 (X:Cx)(ifs:List Expr)(t:TT):Prop:=
 ∀(aa:List (Addr×Obj)) (s:Shared) (σ:St) (H:Hp) (Q:Bool->Hp->Prop),Inv X aa σ H s->t σ H Q ->
  wpAny (model X.prog X.w) X.A (forIn ifs true λc r=>if r=true then do let ok <- isTrue c X.env (eval c X.env);pure (ForInStep.yield ok)else pure (ForInStep.yield r)) (TP X aa σ Q) X.xe s
def SE:TT:=λ_ H Q=>Q true H
def Dd :L6 X [] SE:=λ_ _ _ H _ I h=>wpAny_tests_nil ⟨H,I,h⟩
def Fw (h:PT X c t):L6 X [c] t:=λaa s σ H Q I q=>wpAny_tests_one (h aa s σ H Q I q)
def iX (J:Nat->Shared->Prop)
  (turn:∀n s,J n s->wpAny (model prog w) A (pyNext it) (λr s1=>match r with
   | none=>R (.ok .next) s1
   | some v=>wpAny (model prog w) A (letOwnedTupleGo tg it v) (λ_ s2=>wpAny (model prog w) A (assign tg env v) (λ_ s3=>
     wpAny (model prog w) A (forIn ifs true λc r=>if r=true then do let ok <- isTrue c env (eval c env);pure (ForInStep.yield ok)else pure (ForInStep.yield r)) (λok s4=>
      if ok=true then wpAny (model prog w) A (eval elt env) (λx s5=>wpAny (model prog w) A (call (.builtin "list.append") [acc,x]) (λ_ s6=>∃m,m<n/\J m s6) (λ_ _=>False) s5) (λ_ _=>False) s4
      else ∃m,m<n/\J m s4) (λ_ _=>False) s3) (λ_ _=>False) s2) (λ_ _=>False) s1) (λ_ _=>False) s)
  (n:Nat)(h:J n s):codeAny (model prog w) A (.compLoop (.ListComp elt [⟨tg,iter,ifs,0⟩] scope pos) 0 it acc env) R s:=by
 refine codeAny_loop rfl J (λn s hJ=>?_) n h
 show wpAny _ A ((compTurn (.ListComp elt [⟨tg,iter,ifs,0⟩] scope pos) 0 it acc env).onRaise (λx=>do noteFrame x env;theTreesLotGoes x)) _ _ s
 refine wpAny_noted ?_
 rw[compTurn_list]
 refine Ad (N3 (Ad (BI (turn n s hJ) (λr s1 h1=>?_) λ_ _ f=>f.elim)))
 cases r with
 | none=>exact An h1
 | some v=>
  refine Ad (BI h1 (λ_ s2 h2=>Ad (BI h2 (λ_ s3 h3=>Ad (BI h3 (λok s4 h4=>?_) λ_ _ f=>f.elim)) λ_ _ f=>f.elim)) λ_ _ f=>f.elim);cases ok with
  | false=>exact An ⟨rfl,h4⟩
  | true=>exact Ad (Ad (BI h4 (λx s5 h5=>Ad (BI h5 (λ_ s6 h6=>An (An ⟨rfl,h6⟩)) λ_ _ f=>f.elim)) λ_ _ f=>f.elim))
def Hq (J:It)(D:Addr)(σ0:St)(g:TG)(tc:TT)(te:TE)(fin:Hp->Prop)(W:Nat->Nat->List V->Hp->Prop):Prop:=
 ∀i m ys H,W i m ys H->(J.stop i H/\fin H)\/(J.go i H/\∃N:List V->Hp->Prop,(∀ys' H',N ys' H'->∃m',m'<m/\W (i+1) m' ys' H') /\ ∀x H1,J.yld i H x H1->g x σ0 H1 λσ2 H2=>(σ2.length=σ0.length/\∀(i:Nat) v,σ0[i]? = some (some v)->σ2[i]? = some (some v)) /\ tc σ2 H2 λb H3=>if b=true then te σ2 H3 λy H4=>∃zs,H4 D=some (.lst zs)/\zs.length<sizeLine/\N (zs++[y]) (upd H4 D (.lst (zs++[y])))else N ys H3)
def T8 {X:Cx}{N:List Str}{sc scope:Scope}{own fr:List Str}{js:List Nat}{aa:List (Addr×Obj)}{σ:St}{H:Hp}{s:Shared}{fp:List Addr}{tg iter elt:Expr}{ifs:List Expr}{pos:Pos}{J:It}{it:Addr}{tn:Nat->Heap->Prop}
  {g:TG}{tc:TT}{te:TE}{RR:Value->Addr->Result->Shared->Prop}{E:Value->Shared->Prop}{fin:Addr->Hp->Prop}
  (L:LcOk X N sc scope own fr js)(hc:X.calm=true)(I:Inv X aa σ H s)(T:FS X.prog X.w X.K tg J fp it tn)(st:tn 0 s.heap)(hf:∀b∈fp,FpOk X aa H b)
  (hg:∀C s H fp,PG (CY X N scope C s H fp) tg g)(hi:∀C s H fp,L6 (CY X N scope C s H fp) ifs tc)(he:∀C s H fp,PE (CY X N scope C s H fp) elt te)
  (h:∀D,H D=none->∃W:Nat->Nat->List V->Hp->Prop,(∃m,W 0 m [] (upd H D (.lst [])))/\Hq J D (Fd own.length js σ) g tc te (fin D) W)
  (hRR:∀D C s' H',(∃m,s'.heap.Ns C m)->Inv X aa σ H' s'->FpOk X aa H' C->fin D H'->RR (.ref D) C (.ok .next) s') :
  wpAny (model X.prog X.w) X.A (newList []) (λacc s3=>wpAny (model X.prog X.w) X.A (newFunctionEnv scope X.env.globals (Cz X.env.cells scope.names []) [] X.env.qual none .none (some X.env)) (λcenv s4=>codeAny (model X.prog X.w) X.A (.compStart (.ListComp elt [⟨tg,iter,ifs,0⟩] scope pos) 0 (.ref it) acc { cenv with scope:=relabel scope X.env }) (RR acc cenv.locals) s4) E s3) E s:=by
 have hlt:∀b∈fp,b<s.heap.objs.size:=λb hb=>by obtain⟨o,e,_⟩:=T.obj 0 _ st b hb;exact AF e
 refine Hi (wpAny_newFunctionEnv L.nocell (λ_ z=>nomatch z) (λh1 n1 b1=>?_) L.kind)
 dsimp only at n1 b1 ⊢
 have hsz:(s.heap.push { cls:=.type "list",dict:=none,data:=.seq ([]:List Value).toArray }).objs.size=s.heap.objs.size+1:=Eb ..
 rw[hsz]at n1 b1
 rw[hsz]
 have kept:∀b o,s.heap.get? b=some o->h1.get? b=some o:=λb o e=>b1.extBut b o (AY (Ff (AF e))) (AG _ (AG _ e))
 have isl:h1.get? s.heap.objs.size=some { cls:=.type "list",data:=.seq ([]:List Value).toArray }:=b1.extBut _ _ (AY (Fo _)) (AG _ (A7 _ rfl))
 have IY:=iW (tk:=s.toks+([]:List (Str×Value)).length) L I hf hlt n1 kept isl
 have fresh:H s.heap.objs.size=none:=I.hok.fresh (Am _)
 obtain⟨W,⟨m0,w0⟩,turn⟩:=h s.heap.objs.size fresh
 have stat:∀{H':Hp},(∀b∈fp,H' b=none)->∀b∈fp,FpOk (CY X N scope (s.heap.objs.size+1) s H fp) [] H' b:=λhn b hb=>
  ⟨hn b hb,AY (Ff (hlt b hb)),λz=>by
   rcases AK.mp (I.stkSub b z)with q | q
   ·exact(hf b hb).2.1 q
   exact(hf b hb).2.2.1 q,.inl hb,λx c e=>(hf b hb).2.2.2.2.1 x c (L.sub I.ok e),λ_ z=>nomatch z⟩
 have st1:tn 0 h1:=T.keep 0 _ _ st λb _ o e=>kept b o e
 have loop:∀s2:Shared,s2={ s with heap:=h1,toks:=s.toks+([]:List (Str×Value)).length } ->
   codeAny (model X.prog X.w) X.A (.compLoop (.ListComp elt [⟨tg,iter,ifs,0⟩] scope pos) 0 (.ref it) (.ref s.heap.objs.size) (CY X N scope (s.heap.objs.size+1) s H fp).env) (RR (.ref s.heap.objs.size) (s.heap.objs.size+1)) s2:=by
  rintro s2 rfl
  refine iX (λn s'=>∃i ys H',Inv (CY X N scope (s.heap.objs.size+1) s H fp) [] (Fd own.length js σ) H' s'/\tn i s'.heap/\(∀b∈fp,H' b=none)/\W i n ys H') ?_ m0
   ⟨0,[],_,IY,st1,λb hb=>by rw[Aj (AY (hlt b hb))];exact(hf b hb).1,w0⟩
  rintro n s3 ⟨i,ys,H3,I3,st3,fr3,w3⟩
  rcases turn i n ys H3 w3 with⟨stop,qn⟩ | ⟨go,Nx,hN,step⟩
  ·refine Ap (T.done (CY X N scope (s.heap.objs.size+1) s H fp) rfl rfl rfl hc i [] s3 _ H3 _ I3 (stat fr3) st3 stop) λr s4 hp0=>?_
   obtain⟨hr,I4⟩:=hp0
   subst hr
   have IX:Inv X aa σ H3 s4:=I.call' (ch:=fp) I4.os I4.base I4.hok I4.bare λb hb=>⟨(hf b hb).2.2.2.1,(hf b hb).2.1,(hf b hb).2.2.2.2.1,(hf b hb).2.2.2.2.2⟩
   obtain⟨m,hm,_⟩:=I4.loc
   exact hRR _ _ s4 H3 ⟨m,hm⟩ IX (I.fpOk (Ef _) I4.free) qn
  refine Ap (T.item (CY X N scope (s.heap.objs.size+1) s H fp) rfl rfl rfl hc i [] s3 _ H3 _ I3 (stat fr3) st3 go) λr s4 hp0=>?_
  obtain⟨u,hr,h4⟩:=hp0
  subst hr
  refine Ap h4 λ_ s5 hp0=>?_
  obtain⟨x,H5,I5,r5,y5,st5,fr5⟩:=hp0
  have I5':=I5.pinned (stat fr5) (T.obj _ _ st5)
  refine Ap (hg _ _ _ _ _ s5 _ H5 x u _ I5' r5 (step x H5 y5)) λ_ s6 hp0=>?_
  obtain⟨σ6,H6,I6,⟨hl6,hs6⟩,q6⟩:=hp0
  have next:∀{s7:Shared}{H7:Hp}{zs:List V},Inv (CY X N scope (s.heap.objs.size+1) s H fp) ([]++Ke fp s5.heap) σ6 H7 s7->Nx zs H7 ->
    ∃m,m<n/\∃i ys H',Inv (CY X N scope (s.heap.objs.size+1) s H fp) [] (Fd own.length js σ) H' s7/\tn i s7.heap/\(∀b∈fp,H' b=none)/\W i m ys H':=λ{s7 H7 zs} I7 n7=>by
   obtain⟨m',hm,w7⟩:=hN zs H7 n7
   refine⟨m',hm,i+1,zs,H7,I7.unpinned.weak hl6.symm hs6,T.keep _ _ _ st5 λb hb o e=>(I7.pin (b,o) (C8 _ (C8 _ (Nz hb e)))).1,λb hb=>?_,w7⟩
   obtain⟨o,e,d⟩:=T.obj _ _ st5 b hb
   exact(I7.pin (b,o) (C8 _ (C8 _ (Nz hb e)))).2.1
  refine Ap (hi _ _ _ _ _ s6 σ6 H6 _ I6 q6) λok s7 hp0=>?_
  obtain⟨H7,I7,q7⟩:=hp0
  cases ok with
  | false=>
   rw[Ao B5]at q7
   exact next I7 q7
  | true=>
   rw[AB rfl]at q7
   rw[AB rfl]
   refine Ap (he _ _ _ _ _ s7 σ6 H7 _ I7 q7) λy s8 hp0=>?_
   obtain⟨v8,H8,I8,r8,zs,hz,hzl,q8⟩:=hp0
   refine Ap (Dr _ s8 σ6 H8 (.ref s.heap.objs.size) [v8] _ [y] (λ_ H9=>Nx (zs++[v8]) H9) I8 rfl (.cons r8 .nil) ⟨_,zs,v8,rfl,rfl,hz,hzl,q8⟩) λ_ s9 hp0=>?_
   obtain⟨_,H9,I9,_,q9⟩:=hp0
   exact next I9 q9
 exact codeAny_compStart_list (loop _ rfl) (T.self X.A 0 _ _ _ st1 (loop _ rfl))
def tLc (wi:TI)(n:Nat)(js:List Nat)(g:TG)(tc:TT)(te:TE):TE:=λσ H Q=>wi σ H λJ H1=>∀D,H1 D=none ->
 ∃W:Nat->Nat->List V->Hp->Prop,(∃m,W 0 m [] (upd H1 D (.lst [])))/\Hq J D (Fd n js σ) g tc te (λH2=>Q (.ref D) H2) W
def CK 
  (L:LcOk X N sc scope own fr js)(hc:X.calm=true)(hI:PI X tg iter wi)
  (hg:∀C s H fp,PG (CY X N scope C s H fp) tg g)(hi:∀C s H fp,L6 (CY X N scope C s H fp) ifs tc)(he:∀C s H fp,PE (CY X N scope C s H fp) elt te)
  (hs:∀x,foldedSetIterable iter X.env x=pure x:=by intro _;rfl):PE X (.ListComp elt [⟨tg,iter,ifs,0⟩] scope pos) (tLc wi own.length js g tc te):=by
 intro aa s σ H Q I h
 rw[eval_ListComp]
 refine wpAny_comprehension_free (use:=none) rfl hs (Vh (L.cellAt I.ok)) L.kind L.loc ?_
 refine Ap (hI aa s σ H _ I h) λv s1 h1=>Ap h1 λitv s2 h2=>?_
 obtain⟨it,fp,tn,J,H2,e,I2,T,st,f2,q⟩:=h2
 subst e
 refine T8 (RR:=λacc C=>compPost (model X.prog X.w) X.A X.xe none (EP X aa σ Q) acc C) (fin:=λD H'=>Q (.ref D) H') L hc I2 T st f2 hg hi he q ?_
 intro D C s' H' hm IX fC q'
 obtain⟨m,hm⟩:=hm
 obtain⟨f0,f1,_,f3,f4,f5⟩:=fC
 exact⟨m,hm,λh' sb=>⟨.ref D,H',IX.turned (t':=s'.toks) (λb o hb e=>(sb.2 b hb).trans e) f0 f1 f3 f4 f5,rfl,q'⟩⟩
def WX (i:Nat)(wi:TI)(n:Nat)(js:List Nat)(g:TG)(tc:TT)(te:TE):TS:=λE σ H=>wi σ H λJ H1=>∀D,H1 D=none ->
 ∃W:Nat->Nat->List V->Hp->Prop,(∃m,W 0 m [] (upd H1 D (.lst [])))/\Hq J D (Fd n js σ) g tc te (λH2=>E.nx (σ.set i (some (.ref D))) H2) W
def HW 
  (hN:X.N.Nodup)(hy:X.N[i]? = some y)(hl:X.env.scope.names.lookup y=some .local)
  (L:LcOk X N sc scope own fr js)(hc:X.calm=true)(hI:PI X tg iter wi)
  (hg:∀C s H fp,PG (CY X N scope C s H fp) tg g)(hi:∀C s H fp,L6 (CY X N scope C s H fp) ifs tc)(he:∀C s H fp,PE (CY X N scope C s H fp) elt te)
  (hw:swapsWith (.ListComp elt [⟨tg,iter,ifs,0⟩] scope pos) (some (.Name y py)) spos.line X.env=pure true:=by rfl)
  (hs:∀x,foldedSetIterable iter X.env x=pure x:=by intro _;rfl):PS X (.Assign [.Name y py] (.ListComp elt [⟨tg,iter,ifs,0⟩] scope pos) spos) (WX i wi own.length js g tc te):=by
 intro aa s σ H E I h
 rw[exec_Assign_Name_used _ _ _ _ hw]
 (refine Ad (N3 (Ad ?_)))
 show wpAny _ X.A (do let _ <- comprehension (.ListComp elt [⟨tg,iter,ifs,0⟩] scope pos) scope X.env _ (newList []) false (eval iter X.env) (some (assign (.Name y py) X.env))) _ _ s
 refine Ad (BI (wpAny_comprehension_free (use:=some (assign (.Name y py) X.env)) (Q:=λ_ s'=>SP X aa E .next s') rfl hs (Vh (L.cellAt I.ok)) L.kind L.loc ?_) (λ_ s' q=>An (An q)) λ_ _ e=>e)
 refine Ap (hI aa s σ H _ I h) λv s1 h1=>Ap h1 λitv s2 h2=>?_
 obtain⟨it,fp,tn,J,H2,e,I2,T,st,f2,q⟩:=h2
 subst e
 refine T8 (RR:=λacc C=>compPost (model X.prog X.w) X.A X.xe (some (assign (.Name y py) X.env)) (λ_ s'=>SP X aa E .next s') acc C) (fin:=λD H'=>E.nx (σ.set i (some (.ref D))) H') L hc I2 T st f2 hg hi he q ?_
 intro D C s' H' hm IX fC q'
 obtain⟨m,hm⟩:=hm
 obtain⟨f0,f1,_,f3,f4,f5⟩:=fC
 show wpAny _ X.A (assign (.Name y py) X.env (.ref D)) _ _ s'
 refine wpAny_assign_Name (SV IX hN hy (.inl hl) (v:=.ref D) rfl (λs3 I3 ha=>?_) (.inr hl))
 obtain⟨a,sb,ha⟩:=ha
 have hCa:C≠a:=by
  rcases ha with z | z
  ·rw[z];exact f1
  exact λq=>f4 y a z q.symm
 refine⟨m,hm.sameBut sb hCa,λh' sb'=>⟨_,H',I3.turned (t':=s3.toks) (λb o hb e=>(sb'.2 b hb).trans e) f0 f1 f3 f4 f5,q'⟩⟩
section
variable {X:Cx}
def Vt:Cj X (.builtin "isinstance") (λxs H Q=>∃i T,xs=[.int i,.ty T]/\((T = "int" /\ Q (.bl true) H)\/(T = "bool" /\ Q (.bl false) H))):=by
 intro aa s σ H xs us Q I r h;obtain⟨i,T,rfl,h⟩:=h;obtain⟨u1,u2,rfl,⟨t,rfl⟩,r2⟩:=Fq r;cases r2;rcases h with⟨rfl,q⟩ | ⟨rfl,q⟩
 ·exact PySem.IsiPair.int_int ⟨.bl true,H,I,rfl,q⟩
 exact PySem.IsiPair.int_bool ⟨.bl false,H,I.tok _,rfl,q⟩
end
mutual
inductive RdV (H:Hp):V->PyData->Prop
 | non:RdV H .non .none
 | int (i:Int):RdV H (.int i) (.int i)
 | str (x:Str):RdV H (.str x) (.str x)
 | tup {a:Addr}{xs:List V}{ds:List PyData}:H a=some (.tup xs)->RdVs H xs ds->RdV H (.ref a) (.tuple ds)
inductive RdVs (H:Hp):List V->List PyData->Prop
 | nil:RdVs H [] []
 | cons {x:V}{d:PyData}{xs:List V}{ds:List PyData}:RdV H x d->RdVs H xs ds->RdVs H (x::xs) (d::ds)
end
mutual
theorem RdV.reads (ok:HOk P w H h):∀{x:V}{d:PyData}{u:Value},RdV H x d->RelV x u->∃as,Reads h u d as
 | _,_,_,.non,r=>by cases r;exact⟨_,.none⟩
 | _,_,_,.int i,r=>by obtain⟨t,rfl⟩:=r;exact⟨_,.int i t⟩
 | _,_,_,.str x,r=>by obtain⟨t,rfl⟩:=r;exact⟨_,.str x t⟩
 | _,_,_,.tup (a:=a) e rs,r=>by cases r;obtain⟨z,its,rv,o,ho,hc,n,hd⟩:=ok a _ e;obtain⟨as,ra⟩:=RdVs.reads ok rs rv;exact⟨as,.tuple ho hc hd (by simpa using ra)⟩
theorem RdVs.reads (ok:HOk P w H h):∀{xs:List V}{ds:List PyData}{us:List Value},RdVs H xs ds->Vals xs us->∃as,ReadsAll h us ds as
 | _,_,_,.nil,r=>by cases r;exact⟨_,.nil⟩
 | _,_,_,.cons a b,r=>by
  cases r with
  | cons r1 r2=>obtain⟨as,h1⟩:=RdV.reads ok a r1;obtain⟨bs,h2⟩:=RdVs.reads ok b r2;exact⟨_,.cons h1 h2⟩
end
section
variable {X:Cx}
def YT (neg:Bool):R2:=λx y H Q=>∃d e,RdV H x d/\RdV H y e/\PySem.SeqAt.shaped d=true/\PySem.SeqAt.shaped e=true/\Q (.bl (neg ^^ PyData.eqv d e)) H
def ZA (hu:X.A.units+64<cLine):By X (compareOp .Eq) (YT false):=by intro aa s σ H x y v u Q I rx ry h;obtain⟨d,e,r1,r2,h1,h2,q⟩:=h;obtain⟨as,a⟩:=r1.reads I.hok rx;obtain⟨bs,b⟩:=r2.reads I.hok ry;rw[Bool.false_xor]at q;exact VQ a b h1 h2 hu ⟨.bl _,H,I,rfl,q⟩
end
end L2
namespace ZT
open PySem PyProof.Rows
section
variable {prog:Program}{w:World}{A:Around}{E:Value->Shared->Prop}{s:Shared}
def next_item {k:Nat} (hp:s.heap.IsTupleIter p t k)(ht:s.heap.IsTuple t items)(hv:items[k]? = some v)
  (q:∀h',h'.IsTupleIter p t (k+1)->Heap.SameBut p s.heap h'->Q v { s with heap:=h' }):wpAny (model prog w) A (Builtin.SmallTypes.nextOf (.ref p)) Q E s:=by
 obtain⟨o,ho,c1,c2⟩:=id hp
 obtain⟨ot,hot,_,nt,dt⟩:=ht
 (unfold Builtin.SmallTypes.nextOf)
 refine Ad (Ov (name:=Str.ofString "__next__") hp.typeIs Oy (Fg Oy hp.typeIs F.entry_tuple_iterator_next ?_ (F.args_tuple_iterator_next_1 _)))
 show wpAny _ _ (field (.ref p) 0 >>= _) _ _ s
 refine Ad (Lw ho c2 (x:=.ref t) rfl ?_)
 (show wpAny _ _ (if (Value.ref t == Value.none)=true then _ else _) _ _ s)
 rw[Ao (by exact B5)]
 show wpAny _ _ (field (.ref p) 1 >>= _) _ _ s
 refine Ad (Lw ho c2 (x:=.int k 0) rfl ?_)
 (show wpAny _ _ (seqItems? (.ref t) >>= _) _ _ s)
 refine Ad (Jh hot dt ?_)
 simp only[A1,hv]
 refine Ad (wpAny_setField ho c2 (by simp) (An ⟨v,rfl,An (q _ ?_ (G3 ..))⟩))
 refine⟨_,G5 _ ho (Obj.isFreed_of_fields (Obj.data_mapFields c2 _)),(Obj.cls_mapFields ..).trans c1,?_⟩
 rw[Obj.data_mapFields c2]
 simp[rawInt]
def next_end {k:Nat} (hh:A.handled=none)(hp:s.heap.IsTupleIter p t k)(ht:s.heap.IsTuple t items)(hv:items[k]? = none)
  (q:∀h' e,Heap.ExtBut p s.heap h'->(∃o,h'.get? e=some o/\o.cls=.type "StopIteration")->E (.ref e) { s with heap:=h' }):wpAny (model prog w) A (Builtin.SmallTypes.nextOf (.ref p)) Q E s:=by
 obtain⟨o,ho,c1,c2⟩:=id hp
 obtain⟨ot,hot,_,nt,dt⟩:=ht
 (unfold Builtin.SmallTypes.nextOf)
 refine Ad (Ov (name:=Str.ofString "__next__") hp.typeIs Oy (Fg Oy hp.typeIs F.entry_tuple_iterator_next ?_ (F.args_tuple_iterator_next_1 _)))
 show wpAny _ _ (field (.ref p) 0 >>= _) _ _ s
 refine Ad (Lw ho c2 (x:=.ref t) rfl ?_)
 (show wpAny _ _ (if (Value.ref t == Value.none)=true then _ else _) _ _ s)
 rw[Ao (by exact B5)]
 show wpAny _ _ (field (.ref p) 1 >>= _) _ _ s
 refine Ad (Lw ho c2 (x:=.int k 0) rfl ?_)
 (show wpAny _ _ (seqItems? (.ref t) >>= _) _ _ s)
 refine Ad (Jh hot dt ?_)
 simp only[A1,hv]
 refine Ad (Ls (Ad (wpAny_setField ho c2 (by simp) ?_)))
 (show wpAny _ _ (newExc (.type "StopIteration") [] >>= _) _ _ _)
 refine Ad ?_
 simp only[newExc,newTuple]
 (refine Ad (Hi ?_ (by size_fits)))
 (refine Ad (m:=firstArgMember _ _) (wpAny_of_eq (a:=Value.none) (by first | rfl | (simp only[firstArgMember];rfl)) ?_))
 (refine Hi ?_ (by size_fits))
 simp only[raiseNew]
 (refine Ad (wpAny_handled ?_))
 (first | rw[show A.in1.handled=none from hh] | rw[hh])
 (refine Ad (An (wpAny_throw ?_)))
 exact q _ _ (((G3 ..).extBut.push _).push _) ⟨_,A7 _ rfl,rfl⟩
end
abbrev zI (t:Addr):Obj:={ cls:=.type "tuple_iterator",data:=.fields #[.ref t,.int 0 0] }
end ZT
namespace L2
open PySem PySem.Spec PyProof.Rows
section
variable {X:Cx}{aa:List (Addr×Obj)}{σ:St}{H:Hp}{s:Shared}{h':Heap}
def FpOk.not {ch:List Addr}(hf:∀b∈ch,FpOk X aa H b){b:Addr}{o:HO}(e:H b=some o):b∉ch:=λz=>by have:=(hf b z).1;rw[e]at this;cases this
def Inv.fpT (I:Inv X aa σ H s)(ht:SqT X.K H t zs)(f:FpOk X aa H t):False:=by
 rcases ht with hr | ⟨o,_,_,hk,_⟩
 ·rcases hr with hr | ⟨o,hr⟩
  ·rw[f.1]at hr;cases hr
  rw[f.1]at hr;cases hr
 have e:=I.mod.kin t o hk;rcases f.2.2.2.1 with q | q
 ·exact I.ok.noex t o e q
 exact absurd (BJ (AF (I.ok.bs t o e).1) q) (C7 _)
def Inv.stepL {t':Nat}{ch:List Addr}(I:Inv X aa σ H s)(hf:∀b∈ch,FpOk X aa H b)(k:∀b o,b∉ch->s.heap.get? b=some o->h'.get? b=some o):Inv X aa σ H { s with heap:=h',toks:=t' }:=by
 refine I.step (g':=s.gens) (d':=s.drawn) (ch:=ch) (λb hb=>⟨(hf b hb).2.2.2.1,(hf b hb).2.1,(hf b hb).2.2.2.2.1,(hf b hb).2.2.2.2.2⟩) (λb o _ _ hc e _=>k b o hc e) (λb o _ _ hc e _=>⟨o.slots,k b o hc e⟩) (λ_ _ _ _ n=>n)
  (λb o hc e=>⟨o,k b o hc e⟩) (λ_ _ e=>e) (λ_ _ _ e=>e) (λb ps e=>⟨#[],by rw[e];simp⟩) (λm hm=>?_) (λb u e=>?_) I.bare
 ·obtain⟨o,es,ep,ho,r⟩:=hm;exact⟨o,es,ep,k _ o (λz=>(hf _ z).2.1 rfl) ho,r⟩
 refine(I.hok b u e).stay (λc v hc q=>k c v ?_ q) (λ_ q=>q) λ_ _ q=>q;rcases hc with z | z
 ·rw[z];exact FpOk.not hf e
 exact FpOk.not hf z
def Inv.stepN {t':Nat}{ch:List Addr}{ob:HO}(I:Inv X aa σ H s)(hf:∀b∈ch,FpOk X aa H b)(k:∀b o,b∉ch->s.heap.get? b=some o->h'.get? b=some o)
  (new:ObjOk X.prog X.w (upd H s.heap.objs.size ob) h' s.heap.objs.size ob):Inv X aa σ (upd H s.heap.objs.size ob) { s with heap:=h',toks:=t' }:=by
 have fr:H s.heap.objs.size=none:=I.hok.fresh (Am _)
 have fz:FpOk X aa H s.heap.objs.size:=I.fpOk (Am _) fr
 have hf':∀b∈s.heap.objs.size::ch,FpOk X aa H b:=λb hb=>by
  rcases(AK.mp hb)with e | e
  ·rw[e];exact fz
  exact hf b e
 have k':∀b o,b∉s.heap.objs.size::ch->s.heap.get? b=some o->h'.get? b=some o:=λb o hb e=>k b o (λz=>hb (Bn _ z)) e
 have ne:∀b o,s.heap.get? b=some o->b≠s.heap.objs.size:=λb o e=>AY (AF e)
 refine I.step (g':=s.gens) (d':=s.drawn) (ch:=s.heap.objs.size::ch) (λb hb=>⟨(hf' b hb).2.2.2.1,(hf' b hb).2.1,(hf' b hb).2.2.2.2.1,(hf' b hb).2.2.2.2.2⟩) (λb o _ _ hc e _=>k' b o hc e) (λb o _ _ hc e _=>⟨o.slots,k' b o hc e⟩)
  (λb o _ e n=>by rw[Aj (ne b o e)];exact n) (λb o hc e=>⟨o,k' b o hc e⟩) (λb xs e=>by rw[Aj (AM e fr)];exact e) (λb o xs e=>by rw[Aj (AM e fr)];exact e)
  (λb ps e=>⟨#[],by rw[Aj (AM e fr),e];simp⟩) (λm hm=>?_) (λb u e=>?_) I.bare
 ·obtain⟨o,es,ep,ho,r⟩:=hm;exact⟨o,es,ep,k _ o (λz=>(hf _ z).2.1 rfl) ho,r⟩
 by_cases hb:b=s.heap.objs.size
 ·subst hb;rw[Ae]at e;cases e;exact new
 rw[Aj hb]at e
 refine(I.hok b u e).stay (λc v hc q=>k c v ?_ q) (λc q=>by rw[Aj (AM q fr)];exact q) λc xs q=>by rw[Aj (AM q fr)];exact q
 rcases hc with z | z
 ·rw[z];exact FpOk.not hf e
 exact FpOk.not hf z
end
def Same.new (h:H l=none):Same H (upd H l o):=λb u e=>by rw[Aj (AM e h)];exact e
def Same.put (s:Same H H')(h:H l=none):Same H (upd H' l o):=λb u e=>by rw[Aj (AM e h)];exact s b u e
structure Df (K:W.Frag)(mg:Str->Option Value)(x:Str)(st:Stmt)(ps:List Str)(f:Addr)(fd:FuncData):Prop where
 F:Fun K x x st f fd
 m:mg x=some (.ref f)
 b:Binds K fd ps []
def Cd (Pv:Nat->List V->Hp->Prop)(h0:Pv 0 [] (upd H0 D (.lst [])))
  (go:∀i ys H,i<n->Pv i ys H->J.go i H)(stop:∀ys H,Pv n ys H->J.stop n H)
  (hs:∀i ys H x H1,i<n->Pv i ys H->J.yld i H x H1->tc (some x::ρ) H1 λb H3=>if b=true then te (some x::ρ) H3 λy H4=>∃zs,H4 D=some (.lst zs)/\zs.length<sizeLine/\Pv (i+1) (zs++[y]) (upd H4 D (.lst (zs++[y])))else Pv (i+1) ys H3)
  (hd:∀ys H,Pv n ys H->fin H):∃W:Nat->Nat->List V->Hp->Prop,(∃m,W 0 m [] (upd H0 D (.lst [])))/\Hq J D (none::ρ) (EJ 0) tc te fin W:=by
 refine⟨λi m ys H=>m=n-i/\i<=n/\Pv i ys H,⟨n,rfl,Bk _,h0⟩,?_⟩
 rintro i m ys H ⟨rfl,hi,p⟩
 by_cases hlt:i<n
 ·refine .inr ⟨go i ys H hlt p,Pv (i+1),λys' H' p'=>⟨n-(i+1),by lia,rfl,hlt,p'⟩,λx H1 y=>⟨⟨rfl,λj v e=>?_⟩,hs i ys H x H1 hlt p y⟩⟩;cases j with
  | zero=>cases e
  | succ j=>exact e
 have e:i=n:=by lia
 subst e
 exact .inl ⟨stop ys H p,hd ys H p⟩
def CW {σ:St}{H:Hp}{A B:Hp->Prop}(h:A H):SE σ H λb H3=>if b=true then A H3 else B H3:=by
 show if true=true then A H else B H
 rw[AB rfl];exact h
def Xk :(some x::some y::ρ:St).length=(none::none::ρ:St).length/\∀(i:Nat) v,(none::none::ρ:St)[i]? = some (some v)->(some x::some y::ρ:St)[i]? = some (some v):=
 ⟨rfl,λj v e=>by
  match j,e with
  | 0,e=>cases e
  | 1,e=>cases e
  | j+2,e=>exact e⟩
section
variable {X:Cx}
def Ui (K:W.Frag)(h:X.K=K):Jv X (Qg K):=by subst h;exact Dj
def El (K:W.Frag)(h:X.K=K):Jv X (Qe K):=by subst h;exact AJ
def nR (K:W.Frag)(h:X.K=K):Cj X (.type "tuple") (λxs H Q=>∃p ys,xs=[.ref p]/\((SqL K H p ys/\∀l,H l=none->Q (.ref l) (upd H l (.tup ys)))\/(SqT K H p ys/\Q (.ref p) H))):=by subst h;exact NR
def Le (K:W.Frag)(h:X.K=K)(hp:PG X e (IM X.K n t)):PG X e (IM K n t):=by subst h;exact hp
end
def Lq:bootBuiltins "tuple" = some (.type "tuple"):=by decide +kernel
def oM:bootBuiltins "int" = some (.type "int"):=by decide +kernel
def Vw:bootBuiltins "bool" = some (.type "bool"):=by decide +kernel
def Eo:bootBuiltins "isinstance" = some (.builtin "isinstance"):=by decide +kernel
end L2
namespace Tx
open PySem L2 PyProof.Rows
open PySem.PyData (strOk)
def Z3 (h:∀c∈x.cps.toList,c<0x110000):strOk x=true:=by unfold strOk;rw[Array.all_eq_true'];intro c hc;exact Bb (h c (by simpa using hc))
end Tx
namespace Rk
open PySem
def cs (x:Str):List Nat:=x.cps.toList
def Lp (x y:Str):cs (x++y)=cs x++cs y:=by show(x.cps++y.cps).toList=_;rw[Array.toList_append];rfl
def Vf (h:cs x=cs y):x=y:=by
 cases x with | mk a=>
 cases y with | mk b=>
 have:a=b:=LN.mp h;rw[this]
def NP (x:Str):(cs x).length=x.length:=by show x.cps.toList.length=x.cps.size;exact DM
end Rk
namespace Rk
open PySem PyProof.Rows L2 Tx
theorem Ur (x:Str):∀ys:List Str,Ld (.str x) (ys.map V.str)=decide (x∈ys)
 | []=>rfl
 | y::ys=>by
  show(EL (.str y) (.str x) || Ld (.str x) (ys.map V.str))=_;rw[Ur x ys];by_cases h:y=x
  ·subst h;simp[EL]
  have h':¬x=y:=λe=>h e.symm;simp[EL,h,h']
end Rk
namespace Rk
open PySem PySem.Spec PyProof.Rows L2 Tx
end Rk
namespace SK
open PySem PyProof.Rows
def dd {κ:Type}[DecidableEq κ](val:Nat->κ):Nat->List κ
 | 0=>[]
 | i+1=>if val i∈dd val i then dd val i else dd val i++[val i]
section
variable {κ:Type} [DecidableEq κ] {val:Nat->κ}
theorem dd_le:∀i:Nat,(dd val i).length<=i
 | 0=>Am _
 | i+1=>by
  have ih:=dd_le i;show(if val i∈dd val i then dd val i else dd val i++[val i]).length<=i+1;split
  ·lia
  rw[AR];show(dd val i).length+1<=i+1;lia
theorem Q4:∀{i:Nat}{x:κ},x∈dd val i->∃j,j<i/\x=val j
 | 0,_,h=>nomatch h
 | i+1,x,h=>by
  have h':x∈(if val i∈dd val i then dd val i else dd val i++[val i]):=h;split at h'
  ·obtain⟨j,hj,e⟩:=Q4 h';exact⟨j,by lia,e⟩
  rcases A5.mp h' with z | z
  ·obtain⟨j,hj,e⟩:=Q4 z;exact⟨j,by lia,e⟩
  exact⟨i,by lia,AQ.mp z⟩
theorem dd_full (inj:∀i j,i<n->j<n->val i=val j->i=j):∀i:Nat,i<=n->(dd val i).length=i
 | 0,_=>rfl
 | i+1,h=>by
  have ih:=dd_full inj i (by lia);show(if val i∈dd val i then dd val i else dd val i++[val i]).length=i+1;rw[Ao,AR,ih]
  ·rfl
  intro z;obtain⟨j,hj,e⟩:=Q4 z;have:=inj i j (by lia) (by lia) e;lia
def dd_step (i:Nat)(x:κ):decide (x∈dd val (i+1))=(decide (x∈dd val i) || decide (x=val i)):=by
 show decide (x∈(if val i∈dd val i then dd val i else dd val i++[val i]))=_;by_cases h:val i∈dd val i
 ·rw[AB h];by_cases e:x=val i
  ·subst e;simp[h]
  simp[e]
 rw[Ao h];simp[A5]
def dd_size (i:Nat):(dd val (i+1)).length=if decide (val i∈dd val i)=true then(dd val i).length else(dd val i).length+1:=by
 show(if val i∈dd val i then dd val i else dd val i++[val i]).length=_;by_cases h:val i∈dd val i
 ·rw[AB h,AB (Bb h)]
 rw[Ao h,Ao (by simpa using h),AR];rfl
end
section
variable {prog:Program}{w:World}{κ:Type} [DecidableEq κ] {knd:KeyKind prog w κ}{A:Around}{R:Result->Shared->Prop}{I:Addr}{fp wr:List Addr}{G:Array GenState->Array GenState->Prop}{n:Nat}{P:Nat->Value->Prop}{St:Nat->Shared->Prop}
def kept {S:Addr}{h h':Heap}{f:κ->Bool}{m:Nat}(q:h.SetOf knd S f m)(e:∀o,h.get? S=some o->h'.get? S=some o):h'.SetOf knd S f m:=by obtain⟨o,es,ep,t,ho,r⟩:=q;exact⟨o,es,ep,t,e o ho,r⟩
def NQ {S:Addr}{h:Heap}{f g:κ->Bool}{m k:Nat}(q:h.SetOf knd S f m)(e:∀x,f x=g x)(em:m=k):h.SetOf knd S g k:=by have:f=g:=funext e;subst this em;exact q
def QU (W:WalksS prog w A.in1 I fp wr G n P St)(S:Addr)(nS:S∉fp)(val:Nat->κ)(hv:∀i v,P i v->knd.is (val i) v=true/\v.scannable=true)(hb:n+1<scanBound) :
  ∀(k i:Nat) (s:Shared),n-i=k->i<=n->St i s->s.heap.SetOf knd S (λx=>decide (x∈dd val i)) (dd val i).length ->
   (∀s',Moved (S::wr) G s s'->s'.heap.SetOf knd S (λx=>decide (x∈dd val n)) (dd val n).length->R (.ok (.ret .none)) s') ->
   (codeAny (model prog w) A (.builtin "set.update.loop" ⟨[.ref S,.ref I],[]⟩) R s):=by
 have nw:S∉wr:=λh=>nS (W.sub _ h)
 have sub:∀b∈wr,b∈S::wr:=λb z=>Bn _ z
 intro k
 induction k with
 | zero=>
  intro i s hk hi st hS fin;obtain rfl:i=n:=by lia
  refine ES NW ?_;rw[FL Jb _];refine Ad (m:=pyNext (.ref I)) (W.done s _ _ st λs1 hm=>?_);exact An (fin s1 (hm.mono sub) (kept hS λo e=>hm.heap S o nw e))
 | succ k ih=>
  intro i s hk hi st hS fin;have lt:i<n:=by lia
  refine ES NW ?_;rw[FL Jb _];refine Ad (m:=pyNext (.ref I)) (W.item i s _ _ lt st λv s1 hP st1 hm=>?_);obtain⟨key,sc⟩:=hv i v hP;refine Ad (m:=holding [v] (setAdd S v)) (Dl ?_);unfold setAdd;refine Dl (Ad (knd.pyHash (k:=val i) key ?_));have room:(dd val i).length+1<scanBound:=by have:=dd_le (val:=val) i;lia
  refine wpAny_setAddHashed_of (knd:=knd) (s:={ s1 with toks:=s1.toks+1 }) key sc (kept hS λo e=>hm.heap S o nw e) room λh2 sb hS2=>?_;have hS3:h2.SetOf knd S (λx=>decide (x∈dd val (i+1))) (dd val (i+1)).length:=NQ hS2 (λx=>(dd_step i x).symm) (dd_size i).symm;have oth:∀b o,b≠S->s1.heap.get? b=some o->h2.get? b=some o:=λb o z e=>(sb.2 b z).trans e;refine An ⟨FP Jb _,ih (i+1) _ (by lia) lt (W.frame _ s1 h2 (s1.toks+1) st1 (Ef _) λb hb o e=>oth b o (λz=>nS (z ▸ hb)) e) hS3 λs2 hm2 q=>?_⟩;refine fin s2 (Moved.trans W.gtrans ((hm.mono sub).then_heap (Ef _) λb o hb e=>oth b o (λz=>hb (z ▸ Bo)) e) hm2) q
end
section
variable {prog:Program}{w:World}{κ:Type} [DecidableEq κ] {knd:KeyKind prog w κ}{A:Around}{E:Value->Shared->Prop}{s:Shared}
abbrev CM (led:Bool):Obj:={ cls:=.type "set",dict:=none,data:=.set #[] 0 (.fresh 0 0 led) }
set_option maxHeartbeats 3300000 in
def make {val:Nat->κ} (hh:A.handled=none)(hl:s.heap.IsList l items)(hv:∀i v,items[i]? = some v->knd.is (val i) v=true/\v.scannable=true)(hb:items.size+1<scanBound)
  (q:∀(h':Heap) (tk:Nat),h'.SetOf knd s.heap.objs.size (λx=>decide (x∈dd val items.size)) (dd val items.size).length->(∀b o,s.heap.get? b=some o->h'.get? b=some o)->Q (.ref s.heap.objs.size) { s with heap:=h',toks:=tk }) :
  (wpAny (model prog w) A (call (.type "set") [.ref l]) Q E s):=by
 obtain⟨c,tl,hmro⟩:=Dm.mro
 have hmade:=Dm.made
 have hsub:=Dm.sub
 refine Ez (Oa (show wpAny _ _ (callAny (.type "set") _) _ _ _ from ?_))
 refine An ⟨Oj _ (by decide +kernel),ES PySem.F.entry_type_call ?_⟩
 (rw[Around.under_plain (weight_type_call_type "set" [.ref l] []) rfl])
 have h1:=Dm.notType
 have h2:=Dm.canCreate
 have hct:=PySem.F.typeCall_set_1 (.ref l)
 (repeat (any_goals (first | assumption | wp_step)))
 refine Ea (code_set_new_1 (.ref l) (E:=E) (Q₁:=λob s1=>∃led:Bool,ob=.ref s.heap.objs.size/\s1={ s with heap:=s.heap.push { cls:=.type "set",dict:=none,data:=.set #[] 0 (.fresh 0 0 led) } }) λled=>⟨led,rfl,rfl⟩) λr s1 hr=>?_
 cases r with
 | error e=>exact hr
 | ok fl=>
  cases fl with
  | ret ob=>
   obtain⟨led,rfl,rfl⟩:=hr;have hS:(s.heap.push (CM led)).get? s.heap.objs.size=some (CM led):=A7 _ rfl;have hT:Shared.TypeIs { s with heap:=s.heap.push (CM led) } (.ref s.heap.objs.size) "set" := ⟨_,hS,rfl⟩;have hli:=Dm.init.lookup;have hbi:=Dm.init.bind (.ref s.heap.objs.size);(repeat (any_goals (first | assumption | wp_step)));refine Ea (Jq (R:=wants (λr s2=>r=.none/\∃h' tk,s2={ s with heap:=h',toks:=tk }/\h'.SetOf knd s.heap.objs.size (λx=>decide (x∈dd val items.size)) (dd val items.size).length /\ (∀b o,s.heap.get? b=some o->h'.get? b=some o)) E) Dm.init.plain PySem.F.entry_set_init (check_set_init_1 hT ?_)) λr2 s2 hr2=>?_
   ·obtain⟨⟨ocls,odict,odata,oslots⟩,hol,hcl,nl,hdl⟩:=hl;simp only at hcl hdl;subst hcl hdl;have hol':(s.heap.push (CM led)).get? l=some { cls:=.type "list",dict:=odict,data:=.seq items nl,slots:=oslots }:=AG _ hol;have x1:=PySem.F.sub_list_set;have x2:=VN;have x3:(Value.type "list" == Value.type "dict")=false:=by decide
    have hl1:(s.heap.push (CM led)).IsList l items:=⟨_,hol',rfl,nl,rfl⟩;(unfold Builtin.«set.__init__» noKeywords Builtin.Frozenset.updateFrom);generalize hPI:pyIter=PI;wp_walk;subst hPI;(refine Jn hl1 ?_);(refine Ad (wpAny_runValue ?_));have lt:l<s.heap.objs.size:=AF hol;have sz:(s.heap.push (CM led)).objs.size=s.heap.objs.size+1:=Eb ..;(have hh3:A.in1.in1.in1.handled=none:=by simp[hh]);have ne1:l≠(s.heap.push (CM led)).objs.size:=by rw[sz];exact AY (Ff lt)
    have nS:s.heap.objs.size∉[(s.heap.push (CM led)).objs.size,l]:=by rw[sz];simp only[AK,Bw,Bv,Fk];exact⟨AY (Fo _),Dk lt⟩
    refine QU (knd:=knd) ((Walks.list hh3 _ l ne1 items).toS) s.heap.objs.size nS val hv hb (items.size-0) 0 _ (by lia) (Bk _) ⟨⟨_,A7 _ rfl,rfl,rfl⟩,hl1.push _⟩ ?_ λs3 hm q3=>?_
    ·have g:=AG ({ cls:=.type "list_iterator",data:=.fields #[.ref l,.int 0 0] }:Obj) hS;exact NQ ((PyProof.Rows.setObjOf_fresh (knd:=knd) led).setOf g (by unfold scanBound;lia)) (λx=>by simp[dd]) rfl
    obtain⟨h3,g3,d3,tk3,os3⟩:=s3;obtain⟨m1,m2,m3,m4,m5⟩:=hm;have eg:g3=s.gens:=m2;have ed:d3=s.drawn:=m3;have es:os3=s.os:=m4;subst eg ed es;refine An (An ⟨rfl,h3,tk3,rfl,q3,λb o e=>m1 b o ?_ (AG _ (AG _ e))⟩);have lb:b<s.heap.objs.size:=AF e;rw[sz];simp only[AK,Bw,Bv,Fk];exact⟨AY lb,AY (Ff lb)⟩
   cases r2 with
   | error e=>exact hr2
   | ok fl2=>
    cases fl2 with
    | ret r=>obtain⟨rfl,h',tk,rfl,a1,a2⟩:=hr2;(repeat (any_goals (first | assumption | wp_step)));exact q _ _ a1 a2
    | _=>exact hr2.elim
  | _=>exact hr.elim
end
end SK
namespace L2
open PySem PySem.Spec PyProof.Rows
section
variable {X:Cx}
def oB (hc:X.calm=true):Cj X (.builtin "all") (λxs H Q=>∃(p:Addr) (bs:List Bool),xs=[.ref p]/\SqL X.K H p (bs.map V.bl)/\Q (.bl (bs.all λb=>b)) H):=by
 intro aa s σ H xs us Q I r h;obtain⟨p,bs,rfl,hp,q⟩:=h;obtain⟨u,rfl,ru⟩:=CV r;cases ru;obtain⟨its,rv,pl,hz⟩:=I.list hp;have hlen:=rv.length;rw[Al]at hlen;have hlt:p<s.heap.objs.size:=by obtain⟨o,n,e,_⟩:=pl;exact AF e
 refine call_all_walk (Jn pl.isList ⟨s.heap.objs.size,_,_,_,_,_,λi=>bs.getD i true,rfl,Walks.list (show X.A.in1.handled=none from I.ok.hd hc) _ p (AY hlt) its.toArray,⟨⟨_,A7 _ rfl,rfl,rfl⟩,pl.isList.push _⟩,λi v s2 Q2 E2 hP hQ=>?_,λh' tk hk=>?_⟩)
 ·have hi:its[i]? = some v:=by simpa using hP
  have hib:i<bs.length:=by have:=(AN.mp hi).1;lia
  obtain⟨u',hu',ru⟩:=rv.get (i:=i) (x:=.bl bs[i]) (by simp[hib]);rw[hi]at hu';cases hu';cases ru;refine Fi ?_;have e:bs.getD i true=bs[i]:=by simp[List.getD,hib]
  rw[<- e];exact hQ
 refine⟨.bl _,H,I.kept (t':=tk) (λb o e=>hk b o ?_ (AG _ e)),rfl,?_⟩
 ·intro z;rw[AQ]at z;exact absurd (AF e) (by rw[z];exact C7 _)
 have e:(List.range its.toArray.size).all (λi=>bs.getD i true)=bs.all λb=>b:=by
  rw[Bx,<- hlen];(rw[CT,He,He]);constructor
  ·intro a b hb;(obtain⟨i,hi,rfl⟩:=List.getElem_of_mem hb);have:=a i (DO.mpr hi);simpa [List.getD,hi] using this
  intro a i hi;(have hi':=DO.mp hi);have:=a bs[i] (CQ hi');simpa [List.getD,hi'] using this
 rw[e];exact q
def JN (P:Program)(w:World)(a:Addr)(n:Nat):HO:=.ext λh=>∃S,h.SetOf (BB P w) a S n
def BX (ks:List Ag)(i:Nat):Ag:=ks.getD i (.inl 0)
def Vq (hc:X.calm=true):Cj X (.type "set") (λxs H Q=>∃p ks,xs=[.ref p]/\SqL X.K H p (ks.map kV)/\ks.length<=1000/\∀a,H a=none->Q (.ref a) (upd H a (JN X.prog X.w a (SK.dd (BX ks) ks.length).length))):=by
 intro aa s σ H xs us Q I r h;obtain⟨p,ks,rfl,hp,hk,q⟩:=h;obtain⟨u,rfl,ru⟩:=CV r;cases ru;obtain⟨its,rv,pl,hz⟩:=I.list hp;have hlen:=rv.length;rw[Al]at hlen;refine SK.make (knd:=BB X.prog X.w) (val:=BX ks) (I.ok.hd hc) pl.isList (λi v hv=>?_) (by rw[Bx];unfold scanBound;lia) λh' tk hS kp=>?_
 ·have hi:its[i]? = some v:=by simpa using hv
  have hib:i<ks.length:=by have:=(AN.mp hi).1;lia
  obtain⟨u',hu',ru⟩:=rv.get (i:=i) (x:=kV ks[i]) (by simp[hib]);rw[hi]at hu';cases hu';have e:BX ks i=ks[i]:=by simp[BX,List.getD,hib]
  rw[e];refine⟨FG ru,?_⟩;cases hkk:ks[i]with
  | inl j=>rw[hkk]at ru;obtain⟨t,rfl⟩:=ru;rfl
  | inr y=>rw[hkk]at ru;obtain⟨t,rfl⟩:=ru;rfl
 have es:its.toArray.size=ks.length:=by simp[hlen]
 rw[es]at hS;refine⟨.ref _,_,I.laid (a:=s.heap.objs.size) (o:=JN X.prog X.w s.heap.objs.size (SK.dd (BX ks) ks.length).length) kp (Am _) ⟨⟨_,hS⟩,?_,λh1 h2 f1 e=>?_⟩,rfl,q _ (I.hok.fresh (Am _))⟩
 ·obtain⟨o,_,_,_,e,_⟩:=hS;exact⟨o,e⟩
 obtain⟨S,z⟩:=f1;exact⟨S,SK.kept z e⟩
def Vr:Cj X (.builtin "len") (λxs H Q=>∃a n,xs=[.ref a]/\H a=some (JN X.prog X.w a n)/\Q (.int n) H):=by intro aa s σ H xs us Q I r h;obtain⟨a,n,rfl,ha,q⟩:=h;obtain⟨u,rfl,ru⟩:=CV r;cases ru;obtain⟨⟨S,o,es,ep,t,ho,ex,hd,_,_,hb,hf,hn⟩,_,_⟩:=I.hok a _ ha;refine call_len_set ho ex hd hf (by unfold scanBound at hb;lia) ⟨.int n,H,I.tok _,⟨_,by rw[hn]⟩,q⟩
end
def V1 (x:Str):It:=⟨λi _=>i<x.cps.size,λi H v H'=>H'=H/\∃c,x.cps[i]? = some c/\v=.str ⟨#[c]⟩,λi _=>x.cps.size<=i⟩
theorem Wp {P:Program}{w:World}{K:W.Frag}{tg:Expr}(it:Addr)(x:Str)(t:Tok):FS P w K tg (V1 x) [it] it (λi h=>h.IsStrIter it "str_ascii_iterator" x t i) where
 mem:=by simp
 obj:=λi h st b hb=>by
  have e:b=it:=by simpa using hb
  subst e;obtain⟨o,e,c,d⟩:=st;exact⟨o,e,λv z=>by rw[d]at z;cases z⟩
 keep:=λi h h' st k=>by obtain⟨o,e,r⟩:=st;exact⟨o,k it (by simp) o e,r⟩
 item:=by intro X hP hw hK hc i aa s σ H E I hf st hg;subst hP hw hK;obtain⟨f0,f1,f2,f3,f4,f5⟩:=hf it (by simp);have hi:i<x.cps.size:=hg;refine wpAny_pyNext_ascii_item st (c:=x.cps[i]) (by simp[hi]) λh' st' sb=>?_;have I1:Inv X aa σ H { s with heap:=h',toks:=s.toks+1 }:=I.turned (λb o hb e=>(sb.2 b hb).trans e) f0 f1 f3 f4 f5;obtain⟨o,e,c,d⟩:=id st';exact⟨_,rfl,Lf (s:={ s with heap:=h',toks:=s.toks+1 }) e c d (by decide) ⟨.str ⟨#[x.cps[i]]⟩,H,I1,⟨_,rfl⟩,⟨rfl,_,by simp[hi],rfl⟩,st',λb hb=>(hf b hb).1⟩⟩
 done:=by intro X hP hw hK hc i aa s σ H E I hf st hg;subst hP hw hK;obtain⟨f0,f1,f2,f3,f4,f5⟩:=hf it (by simp);have hi:x.cps.size<=i:=hg;exact wpAny_pyNext_ascii_end (I.ok.hd hc) st (by simp[hi]) λh' eb=>⟨rfl,I.turned (t':=s.toks) (λb o hb e=>eb b o hb e) f0 f1 f3 f4 f5⟩
 self:=λ_ _ _ _ _ st h=>wpAny_pyIter_striter_ascii st h
def kP (tl:TE):TI:=λσ H R=>tl σ H λv H1=>∃x,v=.str x/\x.cps.all (· < 128)=true/\R (V1 x) H1
def Zc (hl:PE X l tl):PI X tg l (kP tl):=by
 intro aa s σ H R I h;refine Ap (hl aa s σ H _ I h) λv s1 hp0=>?_;obtain⟨y,H1,I1,r1,q1⟩:=hp0;obtain⟨x,e,ha,q⟩:=q1;subst e;obtain⟨t,rfl⟩:=r1;refine wpAny_pyIter_ascii ha ⟨s1.heap.objs.size,[s1.heap.objs.size],_,_,H1,rfl,I1.kept (t':=s1.toks) λb o e=>AG _ e,Wp _ x t,⟨_,A7 _ rfl,rfl,rfl⟩,λb hb=>?_,q⟩;have e:b=s1.heap.objs.size:=by simpa using hb
 subst e;exact I1.fpOk (Am _) (I1.hok.fresh (Am _))
end L2
namespace ZN
open PySem PyProof.Rows
end ZN
namespace L2
open PySem PySem.Spec PyProof.Rows
theorem KV.get2:∀{kvs:List (Ag×V)}{vs:List (Ag×Value)}{i:Nat}{k:Ag}{v:V},KV kvs vs->kvs[i]? = some (k,v)->∃u,vs[i]? = some (k,u)/\RelV v u
 | _,_,_,_,_,.nil,e=>by simp at e
 | _,_,0,_,_,.cons (b:=p) r _,e=>by simp at e;subst e;obtain⟨e1,e2⟩:=r;obtain⟨p1,p2⟩:=p;cases e1;exact⟨p2,rfl,e2⟩
 | _,_,i+1,_,_,.cons _ t,e=>by obtain⟨v,h1,h2⟩:=KV.get2 (i:=i) t (by simpa using e);exact⟨v,by simpa using h1,h2⟩
section
variable {X:Cx}
def Inv.freeze (I:Inv X aa σ H s)(ha:H a=some (.dK kvs))(ho:s.heap.get? a=some o):Inv X aa σ (upd H a (.frz o (.dK kvs))) s:=by
 have hne:∀b,H b=none->b≠a:=λb e z=>by rw[z,ha]at e;cases e
 have keep:∀b u,H b=some u->u≠.dK kvs->upd H a (.frz o (.dK kvs)) b=some u:=λb u e d=>by rw[Aj (Bg e ha d)];exact e
 have st:Inv X aa σ (upd H a (.frz o (.dK kvs))) { s with heap:=s.heap,gens:=s.gens,drawn:=s.drawn,toks:=s.toks }:=by
  refine I.step (g':=s.gens) (t':=s.toks) (d':=s.drawn) (ch:=[]) (λb hb=>nomatch hb) (λb o _ _ _ e _=>e) (λb o _ _ _ e _=>⟨o.slots,e⟩) (λb o _ e n=>by rw[Aj (hne b n)];exact n) (λb o _ e=>⟨o,e⟩)
   (λb xs e=>keep b _ e (by intro z;cases z)) (λb o u e=>keep b _ e (by intro z;cases z)) (λb ps e=>⟨#[],by rw[keep b _ e (by intro z;cases z)];simp⟩) (λm hm=>hm) (λb u e=>?_) I.bare
  by_cases hb:b=a
  ·subst hb;rw[Ae]at e;cases e;exact⟨ho,I.hok _ _ ha⟩
  rw[Aj hb]at e;exact(I.hok b u e).stay (λc v _ q=>q) (λc q=>keep c _ q (by intro z;cases z)) λc xs q=>keep c _ q (by intro z;cases z)
 exact st
end
def U5 (I:Inv X aa σ H s)(ha:H a=some (.frz o (.dK kvs)))(hd:o.data=.dict es ep) :
  ∃vs,KV kvs vs/\s.heap.DictAt (BB X.prog X.w) a vs ep:=by
 obtain⟨ho,hz,hm,vs,hkv,o',es',ep',ho',ex,hd',r⟩:=I.hok a _ ha
 rw[ho]at ho'
 cases ho'
 rw[hd]at hd'
 cases hd'
 exact⟨vs,hkv,o,es,ho,ex,hd,r⟩
def Nb (h:I0 u=some v):RelV v u:=by
 cases u with
 | none=>cases h;rfl
 | bool b=>cases h;rfl
 | int i t=>cases h;exact⟨t,rfl⟩
 | str x t=>cases h;exact⟨t,rfl⟩
 | bytes b t=>cases h;exact⟨t,rfl⟩
 | float b t=>cases h;exact⟨t,rfl⟩
 | ref a=>cases h;rfl
 | type n=>cases h;rfl
 | _=>cases h
section
variable {X:Cx}
def UZ (x:Str):Str.empty++x=x:=by
 cases x with | mk a=>
 show Str.mk (#[]++a)=Str.mk a;rw[Array.empty_append]
theorem SU:∀{ys:List Str}{us:List Value},Vals (ys.map V.str) us->StrsAre us ys
 | [],_,h=>by cases h;exact .nil
 | y::ys,_,h=>by
  cases h with
  | cons r t=>obtain⟨tk,rfl⟩:=r;exact .cons y tk (SU t)
def hU:Jt X "str.join" (λx xs H Q=>∃a p ys,x=.str a/\xs=[.ref p]/\SqL X.K H p (ys.map V.str)/\(ys.map (·.length)).sum+ys.length*a.length<=16777216/\Q (.str (Txt.join a ys)) H):=by intro aa s σ H x xs v us Q I rx rv h;obtain⟨a,p,ys,rfl,rfl,hp,hz,q⟩:=h;obtain⟨t,rfl⟩:=rx;obtain⟨u,rfl,ru⟩:=CV rv;cases ru;obtain⟨its,r,pl,_⟩:=I.list hp;exact join_list pl.isList (by simpa using SU r) hz λt' k=>⟨.str _,H,I.tok k,⟨t',rfl⟩,q⟩
def nY:Cj X (.builtin "isinstance") (λxs H Q=>∃x,xs=[.str x,.ty "str"]/\Q (.bl true) H):=by intro aa s σ H xs us Q I r h;obtain⟨x,rfl,q⟩:=h;obtain⟨u1,u2,rfl,⟨t,rfl⟩,r2⟩:=Fq r;cases r2;exact PySem.IsiPair.str_str ⟨.bl true,H,I,rfl,q⟩
end
def EO:bootBuiltins "list" = some (.type "list"):=by decide +kernel
def Lr:bootBuiltins "set" = some (.type "set"):=by decide +kernel
def oH:bootBuiltins "str" = some (.type "str"):=by decide +kernel
def oQ:bootBuiltins "all" = some (.builtin "all"):=by decide +kernel
end L2
namespace ZN
open PySem PyProof.Rows
end ZN
namespace L2
open PySem PySem.Spec PyProof.Rows
end L2
namespace ZN
open PySem PyProof.Rows
end ZN
namespace L2
open PySem PySem.Spec PyProof.Rows
section
variable {X:Cx}
theorem So:∀{ys:List Str}{us:List Value},StrsAre us ys->Vals (ys.map V.str) us
 | _,_,.nil=>.nil
 | _,_,.cons y tk t=>.cons ⟨tk,rfl⟩ (So t)
def NT:bootBuiltins "sorted" = some (.builtin "sorted"):=by decide +kernel
end
end L2
namespace L2
open PySem PySem.Spec PyProof.Rows PySem.W
section
variable {P:Program}{w:World}
def ObjOk.there (x:ObjOk P w H h a o):∃ob,h.get? a=some ob:=by
 cases o with
 | lst xs=>obtain⟨_,_,_,_,e⟩:=x;exact⟨_,e⟩
 | tup xs=>obtain⟨_,_,_,ob,e,_⟩:=x;exact⟨_,e⟩
 | dK kvs=>obtain⟨_,_,_,_,o,_,_,e,_⟩:=x;exact⟨_,e⟩
 | dT kvs=>obtain⟨_,_,_,_,o,_,_,e,_⟩:=x;exact⟨_,e⟩
 | set S n=>obtain⟨o,_,_,_,e,_⟩:=x;exact⟨_,e⟩
 | ins C dx fs=>obtain⟨_,_,_,e,_⟩:=x;exact⟨_,e⟩
 | own y=>exact x
 | xd fs=>obtain⟨_,⟨_,_,_,e,_⟩,_⟩:=x;exact⟨_,e⟩
 | rng lo hi=>obtain⟨_,_,_,e⟩:=x;exact⟨_,e⟩
 | frz ob u=>obtain⟨e,_⟩:=x;exact⟨_,e⟩
 | tbl ps=>exact⟨_,x⟩
 | met f y=>exact⟨_,x⟩
 | ext φ=>obtain⟨_,e,_⟩:=x;exact e
structure Hj (P:Program)(w:World)(ag:List Env)(H:Hp)(s:Shared)(a:Addr)(H':Hp)(B:Heap)(s':Shared):Prop where
 os:s'.os=s.os
 bare:AllBare s'.gens
 un:Un (frs ag) [] H H' s.heap s'.heap
 hok:HOk P w H' s'.heap
 funs:s'.heap.FunFrames B ag
 new:H' a=none
 fresh:s.heap.get? a=none
 k1:∀b o,s.heap.get? b=some o->H b=none->b∉frs ag->B.get? b=some o
 k2:∀c v,H' c≠none->s'.heap.get? c=some v->B.get? c=some v
 k3:∀b o,s.heap.get? b=some o->b∉frs ag->∃o',B.get? b=some o'
def CXe (P:Program)(w:World):DD:=λag H s E e s'=>∃(a C t:Addr) (H':Hp) (B:Heap),e=.ref a/\Hj P w ag H s a H' B s'/\Heap.FlyingW B ag a (.ref C) (.ref t) s'.heap/\E e (some C) H'
def IT (I:Inv X aa σ H s)(hex:X.ex=[])(hst:X.stack=env::ag)(hout:X.ag=ag)(hf:env.frame=some X.env.locals)
  (F:Hj X.prog X.w X.stack H s a H' B s') (hfl:Heap.FlyingW B ag a (.ref C) (.ref t) h')(ups:s'.heap.UpToSlots h'):Hj X.prog X.w ag X.H₀ X.s₀ a H' B { s' with heap:=h' }:=by
 subst hout
 have hsub:∀b,b∈X.fs->b∈frs X.stack:=λb hb=>by rw[hst];unfold frs;rw[FR,hf];exact Bn _ hb
 have hmem:∀b,b∈frs X.stack->b=X.env.locals\/b∈X.fs:=λb hb=>by rw[hst]at hb;unfold frs at hb;rw[FR,hf]at hb;exact AK.mp hb
 have hold:∀b o,X.s₀.heap.get? b=some o->b≠X.env.locals:=λb o e z=>by have h1:=AF e;rw[z]at h1;exact absurd (BJ h1 I.ok.above) (C7 _)
 have nex:∀b:Addr,b∉X.ex:=λb z=>by rw[hex]at z;cases z
 have hout2:∀b o,X.s₀.heap.get? b=some o->b∉X.fs->b∉frs X.stack:=λb o e hb z=>by
  rcases hmem b z with q | q
  ·exact hold b o e q
  exact hb q
 have k1:∀b o,X.s₀.heap.get? b=some o->X.H₀ b=none->b∉X.fs->B.get? b=some o:=λb o e n hb=>F.k1 b o (I.base.keep b o e n hb (nex b)) (I.base.free b o e n (nex b)) (hout2 b o e hb)
 have hok:HOk X.prog X.w H' h':=λb u e=>(F.hok b u e).stay (λc v hc q=>hfl.1 c v (F.k2 c v (by
  rcases hc with z | z
  ·rw[z,e];intro z;cases z
  rw[z];intro z;cases z) q)) (λ_ q=>q) λ_ _ q=>q
 have slot:∀b o,X.s₀.heap.get? b=some o->X.H₀ b=none->b∈X.fs->∃sl,h'.get? b=some { o with slots:=sl }:=λb o e n hb=>by obtain⟨sl,e1⟩:=I.base.slot b o e n hb (nex b);obtain⟨sl2,e2⟩:=F.un.slot b _ e1 (I.base.free b o e n (nex b)) (hsub b hb) (by simp);obtain⟨_,o',ho',hd⟩:=F.funs.mem (hsub b hb);rw[e2]at ho';cases ho';obtain⟨sl3,e3⟩:=ups b _ e2 hd;exact⟨sl3,e3⟩
 have free:∀b o,X.s₀.heap.get? b=some o->X.H₀ b=none->H' b=none:=λb o e n=>by obtain⟨sl,e1⟩:=I.base.any e n (nex b);exact F.un.free b _ e1 (I.base.free b o e n (nex b)) (by simp)
 have there:∀b o,X.s₀.heap.get? b=some o->∃o',h'.get? b=some o':=λb o e=>by
  by_cases hb:b∈X.fs
  ·have n:=I.ok.frf b hb;obtain⟨sl,q⟩:=slot b o e n hb;exact⟨_,q⟩
  obtain⟨o1,e1⟩:=I.base.there b o e (nex b);obtain⟨o2,e2⟩:=F.k3 b o1 e1 (hout2 b o e hb);exact⟨o2,hfl.1 b o2 e2⟩
 refine⟨F.os.trans I.os,F.bare,⟨λb o e n hb _=>hfl.1 b o (k1 b o e n hb),λb o e n hb _=>slot b o e n hb,λb o e n _=>free b o e n,λb o e _=>there b o e,λb xs q=>F.un.tups b xs (I.base.tups b xs q),λb o u q=>F.un.frzs b o u (I.base.frzs b o u q),λb ps q=>?_⟩,hok,hfl.2.2.1,F.new,?_,k1,λc v hc q=>?_,λb o e hb=>?_⟩
 ·obtain⟨m1,q1⟩:=I.base.tbls b ps q;obtain⟨m2,q2⟩:=F.un.tbls b _ q1;exact⟨m1++m2,by rw[q2,Array.append_assoc]⟩
 ·cases z:X.s₀.heap.get? a with
  | none=>rfl
  | some o=>obtain⟨o',e'⟩:=I.base.there a o z (nex a);rw[F.fresh]at e';cases e'
 ·cases hu:H' c with
  | none=>exact absurd hu hc
  | some u=>obtain⟨v',hv'⟩:=(F.hok c u hu).there;have hB:=F.k2 c v' hc hv';have q':h'.get? c=some v:=q;rw[hfl.1 c v' hB]at q';cases q';exact hB
 obtain⟨o1,e1⟩:=I.base.there b o e (nex b)
 exact F.k3 b o1 e1 (hout2 b o e hb)
def Ib {P:Program}{w:World}{K:W.Frag}{mg:Str->Option Value}{base:Heap}{N:List Str}{qual:Str}{scope:Scope}{f:Addr}{cd:Value}{A:Around}{ag:List Env}{s0:Shared}{H0:Hp}{E:XK} :
  Eg (CXe P w) (B3 (CXe P w) P w K mg base N qual scope f cd A ag s0 H0 E) E:=by
 intro aa σ H s e s' I h
 obtain⟨a,C,t,H',B,rfl,F,hfl,q⟩:=h
 exact wpAny_leaves_onW I.ok.frames rfl hfl λh' hfl' ups=>⟨a,C,t,H',B,rfl,IT I rfl rfl rfl rfl F hfl' ups,hfl',q⟩
def pK (h:Heap)(C:Addr)(bmB:List Value)(newId:String)(bm:List Value):Prop:=
 ∃(N:Addr) (nm qn:Str) (bs:List Value) (hdct:Bool) (sn:List Str) (sub:List Value) (ab:Bool) (col:Option Bool) (dd:Option Addr) (k0 k1 k2 k3 k5:Option Value) (mN:Str->Option Value),
  h.get? C=some (excClassObj nm qn C N bs bm hdct sn sub ab col dd k0 k1 k2 k3 k5 newId)/\h.Ns N mN/\mN "__init__" = none/\OwnTail h bmB bm
def Tw {K:Frag}{h:Heap}{C:Addr}{bmB:List Value}{newId:String}(X:K.In h)(g:excIn K C bmB newId=true):∃bm,pK h C bmB newId bm:=by
 unfold excIn at g;split at g
 ·rename_i dict0 cls0 slots0 at0;split at g
  ·rename_i first0 tail0 a0 a1 a2 a3 new0 a5 mro0 list0;have g':=g;simp only[B8,EB,Jg]at g';obtain⟨⟨⟨⟨⟨r1,r2⟩,r3⟩,r4⟩,r5⟩,r6⟩:=g';subst r1 r2;obtain⟨c1,c2,c3,c4,c5,c6,c7,c8,c9,c10,c11⟩:=cls0;dsimp only at mro0 r3 r5 r6;subst mro0 r3;have slots1:slots0=#[a0,a1,a2,a3,some (.builtin new0),a5]:=LN.mp list0;subst slots1;exact⟨tail0,c4,c1,c5,c2,c6,c7,c8,c9,c10,dict0,a0,a1,a2,a3,a5,_,X _ _ at0,.of_isNs (isNs_of_in X r5),nsMap_none_of_in X r5 r6,tail_of_in X r4⟩
  cases g
 cases g
abbrev Fe:List Value:=[.type "ValueError",.type "Exception",.type "BaseException",.type "object"]
def WJ (t:TA)(E:XK)(C:Addr):TS:=λ_ σ H=>t σ H λvs H1=>vs.length<=1000/\∀a,H1 a=none->E (.ref a) (some C) H1
def Qj {P:Program}{w:World}{K:W.Frag}{mg:Str->Option Value}{base:Heap}{N:List Str}{qual:Str}{scope:Scope}{f:Addr}{cd:Value}{A:Around}{ag:List Env}{s0:Shared}{H0:Hp}{E:XK}{C:Addr}{x:Str}{np cpos pos:Pos}{e₀:Expr}{es:List Expr}{t:TA}
  (ow:excIn K C Fe "ValueError.__new__" = true)(hg:Gl (B3 (CXe P w) P w K mg base N qual scope f cd A ag s0 H0 E) x)(hm:mg x=some (.ref C))(ha:PA (B3 (CXe P w) P w K mg base N qual scope f cd A ag s0 H0 E) (e₀::es) t)
  (he:starEach (e₀::es) (envOfC qual scope s0.heap.objs.size f cd)=(false,eval e₀ (envOfC qual scope s0.heap.objs.size f cd))::starEach es (envOfC qual scope s0.heap.objs.size f cd):=by rfl)
  (hpl:(backTo cpos (starEach es (envOfC qual scope s0.heap.objs.size f cd))).any (·.1)=false:=by rfl)(hdb:(x == ("__debug__" : Str))=false:=by decide) :
  PS (B3 (CXe P w) P w K mg base N qual scope f cd A ag s0 H0 E) (.Raise (some (.Call (.Name x np) (e₀::es) [] cpos)) none pos) (WJ t E C):=by
 intro aa s σ H D I hw
 obtain⟨bm,NN,nm,qn,bs,hdct,sn,sub,ab,col,dd,k0,k1,k2,k3,k5,mN,hC,hN,hni,TL⟩:=Tw I.ok.mod.kin ow
 refine wpAny_Raise_call_subT (C:=C) (nm:=nm) (q:=qn) (N:=NN) (bs:=bs) (bm:=bm) (hdct:=hdct) (sn:=sn) (sub:=sub) (ab:=ab) (col:=col) (dd:=dd) (k0:=k0) (k1:=k1) (k2:=k2) (k3:=k3) (k5:=k5)
  Gi (mN:=mN) (TL.hasType Gi.hasBase) (I.ok.hd rfl) ?_ hni (Ek I hg hm ⟨rfl,?_⟩ hdb)
 ·show(backTo cpos (starEach (e₀::es) (envOfC qual scope s0.heap.objs.size f cd))).any (·.1)=false;rw[he];show(false || (backTo cpos (starEach es (envOfC qual scope s0.heap.objs.size f cd))).any (·.1))=false;rw[hpl];rfl
 have h0:=ha cpos aa s σ H _ I hw
 show wpAny (model P w) _ (evalArgs (.ref C) true (backTo cpos (starEach (e₀::es) (envOfC qual scope s0.heap.objs.size f cd))) []) _ _ s
 have h1:wpAny (model P w) (A.deeper (envOfC qual scope s0.heap.objs.size f cd)) (spliced (backTo cpos (starEach (e₀::es) (envOfC qual scope s0.heap.objs.size f cd)))) _ _ s:=h0
 rw[he]at h1 ⊢
 refine RM (BI h1 (λus s2 hp0=>?_) λ_ _ y=>y)
 obtain⟨vs,H1,I1,r,hz,q⟩:=hp0
 have hus:=r.length
 have ak:sizeLine=16777216:=AL
 refine⟨rfl,by show us.length<=sizeLine;lia,I1.bk _ _ hC,hN.keeps I1.bk,TL.keeps I1.bk,λh' e hx=>?_⟩
 have hin:∀env∈(envOfC qual scope s0.heap.objs.size f cd::ag),∀b,env.frame=some b->b∈frs (envOfC qual scope s0.heap.objs.size f cd::ag):=λenv hm b hb=>LG.mpr ⟨env,hm,hb⟩
 have funs:s2.heap.FunFrames (hideAll s2.heap (frs (envOfC qual scope s0.heap.objs.size f cd::ag))) (envOfC qual scope s0.heap.objs.size f cd::ag):=funFrames_hide I1.stack hin
 have hfree:=I1.stkFree
 have hnew:H1 e=none:=by
  cases z:H1 e with
  | none=>rfl
  | some u=>obtain⟨ob,q⟩:=(I1.hok e u z).there;rw[hx.new]at q;cases q
 refine wpAny_leaves_madeW I1.ok.frames rfl (λb o q=>of_hideAll _ q) funs hx λh'' t' hfl htup hnt ups=>?_
 refine⟨e,C,t',H1,_,rfl,IT (s':={ s2 with heap:=h' }) I1 rfl rfl rfl rfl ⟨rfl,I1.bare,Un.kept hx.keeps,I1.hok.kept hx.keeps,funs.of_keeps (λb o hb _=>⟨o,hx.keeps b o hb,rfl⟩),hnew,hx.new,λb o q _ hb=>LC _ q hb,λc v hc q=>?_,λb o q hb=>⟨o,LC _ q hb⟩⟩ hfl ups,hfl,q e hnew⟩
 cases z:H1 c with
 | none=>exact absurd z hc
 | some u=>obtain⟨ob,q2⟩:=(I1.hok c u z).there;have q3:h'.get? c=some v:=q;rw[hx.keeps c ob q2]at q3;cases q3;exact LC _ q2 λhb=>by have:=hfree c hb;rw[z]at this;cases this
end
abbrev Cx.at' (X:Cx)(pn:List (Addr×Obj))(xe:Value->Shared->Prop):Cx:={ X with pn:=pn,xe:=xe }
abbrev Cx.held (X:Cx)(a:Addr)(xe:Value->Shared->Prop):Cx:={ X with A:=X.A.mark (some (.ref a)),calm:=false,xe:=xe }
section
variable {X:Cx}{aa:List (Addr×Obj)}{σ:St}{H:Hp}{s:Shared}
def Inv.at' (I:Inv X aa σ H s)(xe:Value->Shared->Prop):Inv (X.at' (X.pn++aa) xe) [] σ H s:=
 ⟨⟨I.ok.mod,I.ok.kind,I.ok.glob,I.ok.blt,I.ok.above,I.ok.inj,I.ok.has,I.ok.cab,I.ok.hd,I.ok.frames,I.ok.stk,I.ok.exf,I.ok.bs,I.ok.bsz,I.ok.noex,I.ok.exfs,I.ok.funs,I.ok.frf⟩,I.os,I.bare,I.base,I.loc,I.cell,I.free,I.freeC,λp hp=>I.pin p (by rw[BR]at hp;exact hp),I.hok,I.len⟩
def Inv.unat (ok:X.Ok)(I:Inv (X.at' (X.pn++aa) xe) pins' σ H s):Inv X aa σ H s:=
 ⟨ok,I.os,I.bare,I.base,I.loc,I.cell,I.free,I.freeC,λp hp=>I.pin p (Ec _ hp),I.hok,I.len⟩
def Inv.held (I:Inv X aa σ H s)(a:Addr)(xe:Value->Shared->Prop):Inv (X.held a xe) aa σ H s:=
 ⟨⟨I.ok.mod,I.ok.kind,I.ok.glob,I.ok.blt,I.ok.above,I.ok.inj,I.ok.has,I.ok.cab,(λz=>nomatch z),I.ok.frames,I.ok.stk,I.ok.exf,I.ok.bs,I.ok.bsz,I.ok.noex,I.ok.exfs,I.ok.funs,I.ok.frf⟩,I.os,I.bare,I.base,I.loc,I.cell,I.free,I.freeC,I.pin,I.hok,I.len⟩
def Inv.unheld (ok:X.Ok)(I:Inv (X.held a xe) aa σ H s):Inv X aa σ H s:=
 ⟨ok,I.os,I.bare,I.base,I.loc,I.cell,I.free,I.freeC,I.pin,I.hok,I.len⟩
def Mh (I:Inv X aa σ H s)(hN:X.N.Nodup)(hi:X.N[i]? = some x)(hk:X.env.kindOf x=some .local)
  (h:∀s',Inv X aa (σ.set i none) H s'->Q () s'):wpAny M A (do bindName X.env x .none;unbindBehindTheSuite X.env x pos) Q E s:=by
 obtain⟨m,hn,hl⟩:=id I.loc
 have hcls:(X.env.scope.kind == .class || (X.env.scope.kind == .module && X.env.locals != X.env.globals))=false:=by rw[I.ok.kind];rfl
 have hiσ:i<σ.length:=by rw[I.len];exact(AN.mp hi).1
 have cne:=I.cne
 refine wpAny_nameGoes_keeps hk hn hcls λh' v hn' hs=>?_
 obtain⟨oL,_,_,hoL,_⟩:=id hn
 have old:∀b o,X.s₀.heap.get? b=some o->b≠X.env.locals:=λb o e=>AY (BJ (AF e) I.ok.above)
 have hok:HOk X.prog X.w H h':=λb ob e=>(I.hok b ob e).stay (λc w' hc q=>(hs.2 c (λz=>by
  subst z;have hfree:=I.free;rcases hc with rfl | hc
  ·rw[hfree]at e;cases e
  rw[hfree]at hc;cases hc)).trans q) (λ_ q=>q) λ_ _ q=>q
 refine h { s with heap:=h',toks:=s.toks+1 } ⟨I.ok,I.os,I.bare,⟨λb o e n hb hx=>(hs.2 b (old b o e)).trans (I.base.keep b o e n hb hx),λb o e n hb hx=>?_,I.base.free,λb o e hx=>?_,I.base.tups,I.base.frzs,I.base.tbls⟩,⟨_,hn',λj y v' e1 e2 e3=>?_⟩,λy c e=>?_,I.free,I.freeC,λp hp=>?_,hok,by simpa using I.len⟩
 ·obtain⟨sl,e1⟩:=I.base.slot b o e n hb hx;exact⟨sl,(hs.2 b (old b o e)).trans e1⟩
 ·obtain⟨o',e1⟩:=I.base.there b o e hx;exact⟨o',(hs.2 b (old b o e)).trans e1⟩
 ·by_cases hj:j=i
  ·subst hj;rw[RU hiσ]at e2;cases e2
  rw[RN (DB hj)]at e2;obtain⟨u',r',q⟩:=hl j y v' e1 e2 e3;refine⟨u',r',?_⟩;rcases q with⟨k,e⟩ | ⟨k,c,e,z⟩
  ·refine .inl ⟨k,?_⟩;have ne:y≠x:=λe=>hj (QE hN e1 (e ▸ hi));simp[ne,e]
  exact .inr ⟨k,c,e,z.sameBut hs (cne y c e)⟩
 ·obtain⟨w',z⟩:=I.cell y c e;exact⟨w',z.sameBut hs (cne y c e)⟩
 obtain⟨e,n,ne,nf,d⟩:=I.pin p hp
 exact⟨(hs.2 p.1 ne).trans e,n,ne,nf,d⟩
end
def QT (F:Hj P w ag H s a H' B s')(hfree:∀b∈frs ag,H b=none)(k:B.StaysIn h')(ups:s'.heap.UpToSlots h') :
  Un (frs ag) [] H H' s.heap h'/\HOk P w H' h':=by
 have slot:∀b o,s.heap.get? b=some o->H b=none->b∈frs ag->∃sl,h'.get? b=some { o with slots:=sl }:=λb o e n hb=>by obtain⟨sl2,e2⟩:=F.un.slot b _ e n hb (by simp);obtain⟨_,o',ho',hd⟩:=F.funs.mem hb;rw[e2]at ho';cases ho';obtain⟨sl3,e3⟩:=ups b _ e2 hd;exact⟨sl3,e3⟩
 refine⟨⟨λb o e n hb _=>k b o (F.k1 b o e n hb),λb o e n hb _=>slot b o e n hb,F.un.free,λb o e _=>?_,F.un.tups,F.un.frzs,F.un.tbls⟩,λb u e=>(F.hok b u e).stay (λc v hc q=>k c v (F.k2 c v (by
  rcases hc with z | z
  ·rw[z,e];intro z;cases z
  rw[z];intro z;cases z) q)) (λ_ q=>q) λ_ _ q=>q⟩
 by_cases hb:b∈frs ag
 ·obtain⟨sl,q⟩:=slot b o e (hfree b hb) hb;exact⟨_,q⟩
 obtain⟨o2,e2⟩:=F.k3 b o e hb
 exact⟨o2,k b o2 e2⟩
def mroIn (K:Frag)(C G:Addr):Bool:=match K.lookup C with
 | some ⟨_,_,.cls cd,_⟩=>(cd.mro.drop 1).contains (.ref G)
 | _=>false
section
variable {X:Cx}
def Qv (he:PE X e te)(ha:a.length<=1000) :
  PE X (.JoinedStr [.Constant (.str a) j p,.FormattedValue e 114 none p2] pos) (λσ H Q=>te σ H λv H1=>∃x,v=.str x/\(reprText x).length<=100000/\Q (.str (a++reprText x)) H1):=by
 intro aa s σ H Q I h
 have hs:sizeLine=16777216:=AL
 refine JoinedStr_many (LI (Ap (A0 (X:=X) (x:=a) (j:=j) (pos:=p) aa s σ H (λv H1=>v=.str a/\H1=H) I ⟨rfl,rfl⟩) λu s1 hp0=>?_))
 obtain⟨v,H1,I1,r1,e1,e2⟩:=hp0
 subst e1 e2
 obtain⟨t,rfl⟩:=r1
 have l1:(Str.empty++a).length<=sizeLine:=by rw[UZ];lia
 refine⟨l1,LI (wpAny_FormattedValue_repr (Ap (he aa s1 σ H1 _ I1 h) λu2 s2 hp0=>?_))⟩
 obtain⟨v2,H2,I2,r2,x,e3,lx,q⟩:=hp0
 subst e3
 obtain⟨t2,rfl⟩:=r2
 have la:(a++reprText x).length=a.length+(reprText x).length:=by show(a.cps++(reprText x).cps).size=_;rw[Array.size_append];rfl
 refine wpAny_pyReprObj_str ?_ (by lia)
 refine formatField_str (λt' tk=>?_) (by lia)
 have e4:Str.empty++a++reprText x=a++reprText x:=by rw[UZ]
 refine⟨by rw[e4];lia,joinParts_nil ⟨.str (a++reprText x),H2,(I2.tok _),⟨_,by rw[e4]⟩,q⟩ (by rw[e4];lia)⟩
def nZ:Cj X (.builtin "isinstance") (λxs H Q=>∃a ys,xs=[.ref a,.ty "list"]/\H a=some (.lst ys)/\Q (.bl true) H):=by intro aa s σ H xs us Q I r h;obtain⟨a,ys,rfl,ha,q⟩:=h;obtain⟨u1,u2,rfl,r1,r2⟩:=Fq r;cases r1;cases r2;obtain⟨z2,its2,n2,r2,ho⟩:=I.hok a _ ha;exact PySem.IsiPair.list_list ho rfl ⟨.bl true,H,I,rfl,q⟩
def oA:Cj X (.builtin "isinstance") (λxs H Q=>∃b,xs=[.bl b,.ty "bool"]/\Q (.bl true) H):=by intro aa s σ H xs us Q I r h;obtain⟨b,rfl,q⟩:=h;obtain⟨u1,u2,rfl,r1,r2⟩:=Fq r;cases r1;cases r2;exact PySem.IsiPair.bool_bool ⟨.bl true,H,I,rfl,q⟩
def Fun.okE {P:Program}{w:World}{K:W.Frag}{mg:Str->Option Value}{base:Heap}{x qual:Str}{st:Stmt}{f:Addr}{fd:FuncData}{N ps:List Str}{k:Nat}{sp:Sp}(F:Fun K x qual st f fd)(S:Au N ps (Ak st))(len:∀vs H Q E,sp vs H Q E->vs.length=ps.length)
  (hbody:∀(aj:Value) (A:Around) (ag:List Env) (s:Shared) (H:Hp) (vs:List V) (Q:VK) (E:XK),Room k (A.deeper (envOfC qual (Ak st) s.heap.objs.size f aj))->sp vs H Q E -> ∃t,PSs (B3 (CXe P w) P w K mg base N qual (Ak st) f aj A ag s H E) (Cf st) t/\t { nx:=λ_ H'=>Q .non H',rt:=Q } (DH N vs) H):FnOk P w K mg base (CXe P w) (k+1) f fd ps sp:=by
 obtain⟨oc,od,kV,doc,pm,an,aj,ct,osl,rfl,lk,hcd⟩:=F.ex
 exact Li lk hcd S len λA ag s H vs Q E hr hsp=>hbody aj A ag s H vs Q E hr hsp
def GH :Eg (CXe P w) X E0:=λ_ _ _ _ _ _ _ ⟨_,_,_,_,_,_,_,_,q⟩=>q.elim
end
end L2
namespace L2
open PySem PySem.Spec PyProof.Rows
end L2
namespace SK
end SK
namespace L2
open PySem
def S1 {ps:List Str}(h:ps.Nodup):(SK.dd (BX (ps.map (Sum.inr:Str->Ag))) (ps.map (Sum.inr:Str->Ag)).length).length=ps.length:=by
 have hk:(ps.map (Sum.inr:Str->Ag)).length=ps.length:=Al ..;rw[SK.dd_full (n:=ps.length) (λi j hi hj e=>?_) _ (by lia),hk];have ei:BX (ps.map (Sum.inr:Str->Ag)) i=Sum.inr ps[i]:=by simp[BX,List.getD,hi]
 have ej:BX (ps.map (Sum.inr:Str->Ag)) j=Sum.inr ps[j]:=by simp[BX,List.getD,hj]
 rw[ei,ej]at e;exact(Ly h).mp (Et e)
end L2
namespace HT
open PySem PySem.Spec PyProof.Rows
end HT
namespace L2
open PySem PySem.Spec PyProof.Rows
section
variable {X:Cx}
def Te (ok:HOk P w H h) (e:H a=some (.lst us))(r:RdVs H us ds):∃as,Reads h (.ref a) (.list ds) as:=by obtain⟨z,its,n,rv,ho⟩:=ok a _ e;obtain⟨as,ra⟩:=RdVs.reads ok r rv;exact⟨_,.list ho rfl rfl (by simpa using ra)⟩
end
end L2
namespace ZT
open PySem PyProof.Rows
end ZT
namespace F17
open PySem
end F17
namespace L2
open PySem PySem.Spec PyProof.Rows
section
variable {X:Cx}{aa:List (Addr×Obj)}{σ:St}{H:Hp}{s:Shared}
def Inv.trackF (I:Inv X aa σ H s)(hf:FpOk X aa H S)(new:ObjOk X.prog X.w (upd H S ob) s.heap S ob):Inv X aa σ (upd H S ob) s:=by
 refine I.step (H':=upd H S ob) (h':=s.heap) (g':=s.gens) (t':=s.toks) (d':=s.drawn) (ch:=[S]) (λb hb=>?_) (λb o _ _ _ e _=>e) (λb o _ _ _ e _=>⟨o.slots,e⟩) (λb o hc _ n=>?_) (λb o _ e=>⟨o,e⟩)
  (λb xs e=>by rw[Aj (AM e hf.1)];exact e) (λb o xs e=>by rw[Aj (AM e hf.1)];exact e) (λb ps e=>⟨#[],by rw[Aj (AM e hf.1),e];simp⟩) (λm hm=>hm) (λb u e=>?_) I.bare
 ·rw[AQ]at hb;subst hb;exact⟨hf.2.2.2.1,hf.2.1,hf.2.2.2.2.1,hf.2.2.2.2.2⟩
 ·rw[Aj (λz=>hc (AQ.mpr z))];exact n
 by_cases hb:b=S
 ·subst hb;rw[Ae]at e;cases e;exact new
 rw[Aj hb]at e;exact(I.hok b u e).stay (λc v _ q=>q) (λc q=>by rw[Aj (AM q hf.1)];exact q) λc xs q=>by rw[Aj (AM q hf.1)];exact q
def PV (h:H r=none):Same H (upd H r o):=λb u e=>by rw[Aj (AM e h)];exact e
end
end L2
namespace SG
open PySem
def Rs (xs:Array Nat):Prop:=∀(i j:Nat) (a b:Nat),i<j->xs[i]? = some a->xs[j]? = some b->a<b
def XM (r:Rs xs)(v:Nat):∀(f lo hi:Nat),hi-lo<=f->lo<=hi->hi<=xs.size->(∀(i a:Nat),i<lo->xs[i]? = some a->a<v)->(∀(i a:Nat),hi<=i->xs[i]? = some a->v<=a) ->
  SetTable.below.go xs v f lo hi<=xs.size/\(∀(i a:Nat),i<SetTable.below.go xs v f lo hi->xs[i]? = some a->a<v)/\(∀(i a:Nat),SetTable.below.go xs v f lo hi<=i->xs[i]? = some a->v<=a):=by
 intro f
 induction f with
 | zero=>
  intro lo hi h1 h2 h3 l u;have e:lo=hi:=by lia
  subst e;exact⟨h3,l,u⟩
 | succ f ih=>
  intro lo hi h1 h2 h3 l u;unfold SetTable.below.go;split
  ·rename_i lt;have hm:(lo+hi) / 2<xs.size:=by lia
   have eg:xs.getD ((lo+hi) / 2) v=xs[(lo+hi) / 2]:=by simp[Array.getD,hm]
   have e2:xs[(lo+hi) / 2]? = some xs[(lo+hi) / 2]:=FM hm;dsimp only;rw[eg];split
   ·rename_i c;refine ih _ _ (by lia) (by lia) h3 (λi a hi9 e=>?_) u;rcases Gj i ((lo+hi) / 2)with z | z
    ·exact G6 (r i _ a _ z e e2) c
    have z2:i=(lo+hi) / 2:=by lia
    subst z2;rw[e2]at e;cases e;exact c
   rename_i c;refine ih _ _ (by lia) (by lia) (by lia) l (λi a hi9 e=>?_);rcases Gj ((lo+hi) / 2) i with z | z
   ·exact G9 (FQ (le_of_not_lt c) (r _ i _ a z e2 e))
   have z2:i=(lo+hi) / 2:=by lia
   subst z2;rw[e2]at e;cases e;exact le_of_not_lt c
  rename_i c;have e:lo=hi:=by lia
  subst e;exact⟨h3,l,u⟩
def place (r:Rs xs)(v:Nat):SetTable.below xs v<=xs.size/\(∀(i a:Nat),i<SetTable.below xs v->xs[i]? = some a->a<v)/\(∀(i a:Nat),SetTable.below xs v<=i->xs[i]? = some a->v<=a):=
 XM r v xs.size 0 xs.size (by lia) (Bk _) (Am _) (λi a h=>by lia) (λi a h e=>by have:=(Ox.mp e).1;lia)
def Y9 (r:Rs xs){k:Nat}(hk:k<=xs.size)(l:∀(i a:Nat),i<k->xs[i]? = some a->a<v)(u:∀(i a:Nat),k<=i->xs[i]? = some a->v<=a):SetTable.below xs v=k:=by
 obtain⟨h1,h2,h3⟩:=place r v;rcases Nat.lt_trichotomy (SetTable.below xs v) k with z | z | z
 ·have hb:SetTable.below xs v<xs.size:=by lia
  have e:=FM hb;have a1:=l _ _ z e;have a2:=h3 _ _ (Am _) e;lia
 ·exact z
 have hb:k<xs.size:=by lia
 have e:=FM hb;have a1:=h2 _ _ z e;have a2:=u _ _ (Am _) e;lia
def IL {α:Type}(xs:Array α){p:Nat}(hp:p<=xs.size)(x:α)(i:Nat):(SetTable.insertAt xs p x)[i]? = if i<p then xs[i]? else if i=p then some x else xs[i-1]?:=by
 have h:(SetTable.insertAt xs p x).toList=xs.toList.take p++x::xs.toList.drop p:=by rw[SetTable.toList_insertAt]
 rw[<- ET,h,<- ET,<- ET];have hl:(xs.toList.take p).length=p:=by rw[BO,DM];lia
 split
 ·rename_i c;rw[Cr (by lia),List.getElem?_take,AB c]
 rename_i c;rw[Ci (by lia),hl];split
 ·rename_i c2;subst c2;simp
 rename_i c2;obtain⟨d,rfl⟩:∃d,i=p+(d+1):=⟨i-p-1,by lia⟩;rw[show p+(d+1)-p=d+1 by lia,List.getElem?_cons_succ,List.getElem?_drop];congr 1
def YF (r:Rs xs) (hn:¬xs[SetTable.below xs v]? = some v):Rs (SetTable.insertAt xs (SetTable.below xs v) v):=by
 obtain⟨h1,h2,h3⟩:=place r v
 have h4:∀(i a:Nat),SetTable.below xs v<=i->xs[i]? = some a->v<a:=by
  intro i a hi e;rcases Gj v a with z | z
  ·exact z
  have e2:=h3 i a hi e;have e3:a=v:=by lia
  subst e3;rcases Nat.eq_or_lt_of_le hi with q | q
  ·rw[q]at hn;exact absurd e hn
  have hb:SetTable.below xs a<xs.size:=by have:=(Ox.mp e).1;lia
  have e4:=FM hb;have e5:=r _ _ _ _ q e4 e;have e6:=h3 _ _ (Am _) e4;lia
 intro i j a b hij ea eb;rw[IL _ h1]at ea eb;split at ea
 ·rename_i c1;split at eb
  ·exact r i j a b hij ea eb
  split at eb
  ·cases eb;exact h2 i a c1 ea
  exact r i (j-1) a b (by lia) ea eb
 split at ea
 ·cases ea;split at eb
  ·lia
  split at eb
  ·lia
  exact h4 (j-1) b (by lia) eb
 split at eb
 ·lia
 split at eb
 ·lia
 exact r (i-1) (j-1) a b (by lia) ea eb
def S6 {l:List Nat}(h:l.Pairwise (· < ·)):Rs l.toArray:=by intro i j a b hij ea eb;rw[Rh]at ea eb;obtain⟨hi,rfl⟩:=AN.mp ea;obtain⟨hj,rfl⟩:=AN.mp eb;exact pairwise_iff_getElem.mp h i j hi hj hij
def S5 (n:Nat):Rs (Array.range n):=by
 have:Array.range n=(List.range n).toArray:=by simp
 rw[this];exact S6 Rt
def YE:Rs #[]:=λi j a b _ e=>by simp at e
structure Tk (t t':SetTable):Prop where
 rs:Rs t'.place
 led:t'.led=t.led
def OR (t:SetTable)(n:Nat):Tk t (t.standIn n):=⟨S5 n,rfl⟩
def lE :∀(n:Nat) (p:SetTable.Probe) (j:Nat) (d:Option Nat),(∀v,p.dummy=some v->¬t.place[SetTable.below t.place v]? = some v)->SetTable.probe.go t f h n p=some (.empty j d) ->
  ¬t.place[SetTable.below t.place (d.getD j)]? = some (d.getD j):=by
 intro n
 induction n with
 | zero=>intro p j d _ e;cases e
 | succ n ih=>
  intro p j d hd e;unfold SetTable.probe.go at e;split at e
  ·rename_i hs;cases e;cases hpd:p.dummy with
   | some v=>exact hd v hpd
   | none=>show ¬t.place[SetTable.below t.place p.j]? = some p.j;intro z;unfold SetTable.slot at hs;simp[z]at hs
  ·rename_i hs;refine ih _ j d (λv hv=>?_) e;have e3:v=p.j:=by unfold SetTable.advance at hv;split at hv <;> simp at hv <;> exact hv.symm
   subst e3;intro z;unfold SetTable.slot at hs;simp[z]at hs
  split at e
  ·cases e
  refine ih _ j d (λv hv=>hd v ?_) e;unfold SetTable.advance at hv;split at hv <;> simpa using hv
def jA (r:Rs t.place)(es:Array (Int×Value))(h:Int)(x:Value):Tk t (layNew t es h x).2.1:=by
 unfold layNew;split
 ·rename_i slot wd hf;unfold SetTable.freeSlot at hf;split at hf
  ·rename_i j d hp;have hn:=lE _ _ j d (λv hv=>by unfold SetTable.probeStart at hv;simp at hv) hp;cases hf;show Tk t ((t.put (d.getD j)).1.orStandIn _);unfold SetTable.orStandIn;split
   ·exact⟨YF r hn,rfl⟩
   exact⟨S5 _,rfl⟩
  cases hf
 exact OR t _
def YI (es:Array (Int×Value))(m:Nat):Tk t (relayAll t es m).2.1:=by
 unfold relayAll;split
 ·rename_i t' order e;unfold SetTable.relaid SetTable.laid at e;cases ho:SetTable.layClean (SetTable.sizeAbove m-1) (es.map (·.1))with
  | none=>rw[ho]at e;cases e
  | some owner=>
   rw[ho]at e;have e2:some _=some (t',order):=e;cases e2;dsimp only;split
   ·refine⟨?_,rfl⟩;dsimp only;refine S6 ?_
    have hsub:∀l:List Nat,(List.map (λx=>x.1) (l.filterMap λj=>(owner.getD j none).map (j,·))).Sublist l:=by
     intro l;induction l with
     | nil=>exact List.Sublist.slnil
     | cons a r ih=>
      rw[FR];cases hh:owner.getD a none with
      | none=>exact List.Sublist.cons _ ih
      | some v=>exact List.Sublist.cons₂ _ ih
    exact List.Pairwise.sublist (hsub _) Rt
   exact OR t _
 exact OR t _
theorem perm_of {κ:Type}[DecidableEq κ]:∀{l m:List κ},l.Nodup->(∀x∈l,x∈m)->m.length<=l.length->m.Perm l
 | [],m,_,_,h=>by
  cases m with
  | nil=>exact LH _
  | cons a r=>simp at h
 | a::l,m,nd,sub,h=>by (obtain⟨n1,n2⟩:=Ey.mp nd);have ha:=sub a Bo;have p1:=List.perm_cons_erase ha;have p2:(m.erase a).Perm l:=perm_of n2 (λx hx=>(List.mem_erase_of_ne (λ(e:x=a)=>n1 (e ▸ hx))).mpr (sub x (Bn _ hx))) (by have:=p1.length_eq;rw[CF]at this h;lia);exact p1.trans (p2.cons a)
structure Gd (w:World)(t:SetTable):Prop where
 rs:Rs t.place
 led:t.led=!w.params.followText "set-order"
def Gd.tk (g:Gd w t)(k:Tk t r):Gd w r:=⟨k.rs,k.led.trans g.led⟩
abbrev DW (es:Array (Int×Value))(ep:Nat)(t:SetTable):Obj:={ cls:=.type "set",dict:=none,data:=.set es ep t,slots:=#[] }
section
variable {prog:Program}{w:World}{κ:Type} [DecidableEq κ] (knd:KeyKind prog w κ)
structure R9 (S:κ->Bool)(n:Nat)(es:Array (Int×Value))(t:SetTable):Prop where
 el:ElemsOf knd es.toList
 me:∀k,S k=true↔∃e∈es.toList,knd.is k e.2=true
 bd:es.size<scanBound
 ft:t.fits es.size=true
 sz:es.size=n
 gd:Gd w t
def SetG (h:Heap)(b:Addr)(S:κ->Bool)(n:Nat):Prop:=∃es ep t,h.get? b=some (DW es ep t)/\R9 knd S n es t
variable {knd}{A:Around}{E:Value->Shared->Prop}{s:Shared}
def Ti {h:Heap}{b:Addr}{es us:Array (Int×Value)}{ep:Nat}{t r:SetTable}(ho:h.get? b=some (DW es ep t)):(h.update b (Obj.putSet us r)).get? b=some (DW us (ep+1) r):=
 G5 (Obj.putSet us r) ho rfl
def after {g:Bool->Sem Unit}(hg:∀(c:Bool) (z:Shared) (F:Unit->Shared->Prop),F () z->wpAny (model prog w) A (g c) F E z){b:Addr}{es us:Array (Int×Value)}{ep:Nat}{t r:SetTable}
  (ho:s.heap.get? b=some (DW es ep t)){S:κ->Bool}(q:R9 knd S us.size us r){wd:Bool}{Rr:Option Bool->Shared->Prop}
  (fin:∀h',Heap.SameBut b s.heap h'->SetG knd h' b S us.size->Rr (some true) { s with heap:=h' }) :
  wpAny (model prog w) A (do
   storeSet b us r
   if (!wd && r.tooFull)=true then do
     g (relayAll r us (SetTable.grown us.size)).2.2
     storeSet b (relayAll r us (SetTable.grown us.size)).1 (relayAll r us (SetTable.grown us.size)).2.1
     pure (some true)
    else pure (some true)) Rr E s:=by
 refine Ad (wpAny_storeSet_of ho rfl ?_ (fits_of_scanBound q.bd))
 have o1:=Ti (us:=us) (r:=r) ho
 have b1:=G3 s.heap b (Obj.putSet us r)
 split
 ·have pm:=relayAll_perm r us (SetTable.grown us.size);have fr:=relayAll_fits r us (SetTable.grown us.size);have tk:=YI (t:=r) us (SetTable.grown us.size);generalize relayAll r us (SetTable.grown us.size)=Z at pm fr tk ⊢;obtain⟨ys,t3,gv⟩:=Z;dsimp only at pm fr tk ⊢;have hz:ys.size=us.size:=by rw[<- DM,pm.length_eq,DM]
  have bd2:ys.size<scanBound:=by rw[hz];exact q.bd
  refine Ad (hg _ _ _ (Ad (wpAny_storeSet_of o1 rfl (An (fin _ (b1.trans (G3 _ b _)) ⟨ys,_,t3,Ti o1,q.el.perm pm,λk=>(q.me k).trans ⟨?_,?_⟩,bd2,fr,hz,q.gd.tk tk⟩)) (fits_of_scanBound bd2))))
  ·rintro⟨e,he,z⟩;exact⟨e,pm.mem_iff.mpr he,z⟩
  rintro⟨e,he,z⟩;exact⟨e,pm.mem_iff.mp he,z⟩
 exact An (fin _ b1 ⟨us,_,r,o1,q⟩)
def oY {k:κ} (key:knd.is k x=true)(sc:x.scannable=true)(g:SetG knd s.heap b S n)(room:n+1<scanBound)
  (fin:∀h',Heap.SameBut b s.heap h'->SetG knd h' b (λy=>S y || decide (y=k)) (if S k then n else n+1)->Q (!S k) { s with heap:=h' }) :
  wpAny (model prog w) A (setAddHashed b x (knd.hash k)) Q E s:=by
 obtain⟨es,ep,t,ho,i⟩:=g
 (unfold setAddHashed setAddHashedIn)
 refine Dl (Ad (LU ho rfl i.ft ?_))
 dsimp only
 rw[byScan_of sc i.bd i.el]
 simp only[↓reduceIte]
 unfold setAddByScan
 refine Ad (Ad (Ls (Ad (wpAny_setScan_of key ho rfl i.ft i.el ?_))))
 cases hfi:List.findIdx? (λe=>knd.is k e.2) es.toList with
 | some j=>
  dsimp only;obtain⟨hj,pj,_⟩:=List.findIdx?_eq_some_iff_getElem.mp hfi;have yes:S k=true:=(i.me k).mpr ⟨_,CQ hj,pj⟩;have z:=fin s.heap (Heap.SameBut.refl b s.heap) ⟨es,ep,t,ho,i.el,λy=>?_,i.bd,i.ft,by rw[yes];exact i.sz,i.gd⟩
  ·rw[yes]at z;(exact An (An z))
  rw[<- i.me y,Bool.or_eq_true,CI];exact⟨λc=>c.elim id λe=>e ▸ yes,.inl⟩
 | none=>
  dsimp only;have no:S k=false:=by refine Bool.eq_false_iff.mpr λc=>?_;obtain⟨e,he,pe⟩:=(i.me k).mp c;exact Bool.noConfusion ((List.findIdx?_eq_none_iff.mp hfi e he).symm.trans pe)
  have quiet:∀(c:Bool) (z:Shared) (F:Unit->Shared->Prop),F () z->wpAny (model prog w) A (match c with | true=>rule "set.scan.the-table-gave-way" | false=>pure ()) F E z:=λc z F f=>by
   cases c
   ·exact An f
   exact Ls f
  have pm:=layNew_perm t es (knd.hash k) x;have fr:=layNew_fits t es (knd.hash k) x;have tk:=jA i.gd.rs es (knd.hash k) x;generalize layNew t es (knd.hash k) x=Z at pm fr tk ⊢;obtain⟨us,t1,wd,gv⟩:=Z;dsimp only at pm fr tk ⊢;rw[Array.toList_push]at pm;have hz:us.size=n+1:=by rw[<- DM,pm.length_eq,AR,DM,i.sz];rfl
  refine Ad (quiet _ _ _ ?_);have iu:∀r:SetTable,r.fits us.size=true->Gd w r->R9 knd (λy=>S y || decide (y=k)) us.size us r:=λr h1 h2=>⟨(i.el.push key sc).perm pm,mem_push_iff key i.me pm,by lia,h1,rfl,h2⟩;have last:∀h',Heap.SameBut b s.heap h'->SetG knd h' b (λy=>S y || decide (y=k)) us.size->Q true { s with heap:=h' }:=λh' c1 c2=>by have z:=fin h' c1;rw[no]at z;rw[hz]at c2;exact z c2
  split
  ·refine Ad ?_;rw[hashByValue_scannable 8 sc];refine An (after (knd:=knd) quiet ho (iu _ ?_ ?_) λh' c1 c2=>An (last h' c1 c2))
   ·split
    ·exact fr
    exact SetTable.fits_plain_off fr
   split
   ·exact i.gd.tk tk
   exact⟨tk.rs,tk.led.trans i.gd.led⟩
  refine Ad (An (?_:_));simp only[↓reduceIte];exact after (knd:=knd) quiet ho (iu _ fr (i.gd.tk tk)) λh' c1 c2=>An (last h' c1 c2)
end
end SG
namespace SG
open PySem
open Sem (wp)
def sl_next:Slot "set_iterator" "__next__" "set_iterator.__next__" := .of (owner := "set_iterator") (n := "__next__") (by rw[Jl,Js];kernel_rfl)
 (by decide +kernel) (by decide +kernel) (by decide +kernel) (by first | exact .inl (by decide +kernel) | exact .inr (by decide +kernel))
 (by rw[N8];kernel_rfl)
def UX:entryFor table "set_iterator.__next__" = some Builtin.«set_iterator.__next__»:=entryFor_of_fast (by kernel_rfl)
def VE (v:Value):argsOk "set_iterator.__next__" ⟨[v],[]⟩:=by unfold argsOk;kernel_rfl
def mQ:entryFor table "set.__iter__" = some Builtin.«frozenset.__iter__»:=entryFor_alias (id' := "frozenset.__iter__") (by kernel_rfl) rfl (by decide +kernel) (by kernel_rfl)
section
variable {prog:Program}{w:World}{A:Around}{E:Value->Shared->Prop}{s:Shared}
def Wh (h0:n≠0)(q:∀i d,i<n->Q i { s with drawn:=d }):wpAny M A (choose src n) Q E s:=λΓ p _=>by show wp M Γ (.choose src n .pure) _ _ p s;rw[Sem.wp_choose];exact⟨h0,q _ _ (mod_lt _ (Nat.pos_of_ne_zero h0))⟩
theorem QY {α:Type}:∀{l:List α}{i:Nat}(h:i<l.length),(l[i]::l.eraseIdx i).Perm l
 | [],i,h=>nomatch h
 | a::r,0,_=>LH _
 | a::r,i+1,h=>((List.Perm.swap a _ _).symm.symm).trans ((QY (l:=r) (i:=i) (Nat.lt_of_succ_lt_succ h)).cons a)
theorem U0 {M:Model}{α:Type}:∀(n:Nat) (xs:List α),xs.length=n->∀(s:Shared) (Q:List α->Shared->Prop),(∀ys d,ys.Perm xs->Q ys { s with drawn:=d })->wpAny M A (drawOrder n xs) Q E s
 | 0,xs,h,s,Q,q=>by obtain rfl:=Oi.mp h;exact An (q [] s.drawn (LH _))
 | n+1,[],h,_,_,_=>by cases h
 | n+1,x::xs,h,s,Q,q=>by show wpAny M A (choose .order (x::xs).length >>= _) _ _ _;refine Ad (Wh (by simp) λi d hi=>?_);have e:(x::xs)[i]? = some (x::xs)[i]:=AC hi;rw[e];dsimp only;refine Ad (U0 n _ (by rw[VM hi,h];rfl) _ _ λys d2 p=>An (q _ d2 ?_));refine(p.cons _).trans ?_;exact QY hi
abbrev IG (f:Value)(i:Nat)(b:Addr)(n ep:Nat):Obj:={ cls:=.type "set_iterator",dict:=none,data:=.fields #[f,.int i 0,.ref b,.int n 0,.int ep 0],slots:=#[] }
abbrev Nv (ps:List Nat):Obj:={ cls:=.type "tuple",dict:=none,data:=.seq (ps.map λ(i:Nat)=>rawInt i).toArray 0,slots:=#[] }
def Gy (t:SetTable):Nat->Nat
 | 0=>0
 | k+1=>t.place.getD k 0+1
theorem Ts {α:Type}(f:Nat->Nat):∀(n k:Nat) (xs:List α) (out:Array α),xs.length=n->(pickOrder.go f n k xs out).toList.Perm (out.toList++xs)
 | 0,k,xs,out,h=>by obtain rfl:=Oi.mp h;rw[BR];exact LH _
 | n+1,k,xs,out,h=>by have hi:f k % xs.length<xs.length:=mod_lt _ (by lia);unfold pickOrder.go;rw[AC hi];dsimp only;refine(Ts f n (k+1) _ _ (by rw[VM hi,h];rfl)).trans ?_;rw[Array.toList_push,Fn];exact(QY hi).append_left _
def Tr {α:Type}(f:Nat->Nat)(xs:Array α):(pickOrder f xs).toList.Perm xs.toList:=by have:=Ts f xs.size 0 xs.toList #[] (by simp);rw[List.nil_append]at this;exact this
inductive Way (w:World)(b:Addr)(es:Array (Int×Value))(ep:Nat)(t:SetTable):(Nat->Value)->List (Addr×Obj)->List Value->Prop
 | text:w.params.followText "set-order" = true->Way w b es ep t (λ_=>.int 0 0) [] ((pickOrder (w.params.setOrder b ep) es).toList.map (·.2))
 | slots:w.params.followText "set-order" = false->(!t.plain && decide (es.size > 1))=false->Way w b es ep t (λi=>.int (Gy t i) 0) [] (es.toList.map (·.2))
 | drawn (T:Addr) (ps:List Nat):w.params.followText "set-order" = false->ps.Perm (List.range es.size)->Way w b es ep t (λ_=>.ref T) [(T,Nv ps)] (ps.map λi=>((es[i]?).map (·.2)).getD .none)
def Way.perm (y:Way w b es ep t f nw ys):ys.Perm (es.toList.map (·.2)):=by
 cases y with
 | text _=>exact(Tr _ es).map _
 | slots _ _=>exact LH _
 | drawn T ps _ h=>refine(h.map _).trans (List.Perm.of_eq ?_);refine ext_getElem (by simp) λi h1 h2=>?_;rw[Al,Dw]at h1;simp[h1]
def Mo (ho:s.heap.get? b=some (DW es ep t))(ft:t.fits es.size=true) :
  (w.params.followText "set-order" = true->Q (((pickOrder (w.params.setOrder b ep) es)[i]?).map λe=>(e.2,slot)) s) ->
  (w.params.followText "set-order" = false->(!t.plain && decide (es.size > 1))=false/\t.led=true/\Q (match es[SetTable.below t.place slot]?,t.place[SetTable.below t.place slot]? with | some (_,x),some j=>some (x,j+1) | _,_=>none) s) ->
  wpAny (model prog w) A (setNext b slot i ep) Q E s:=by
 intro h1 h2
 unfold setNext
 refine Ad (LU ho rfl ft ?_)
 dsimp only
 unfold setsByText
 (refine Ad (Ad (LK (An ?_))))
 cases hb:w.params.followText "set-order" with
 | true=>have e:(model prog w).w.params.followText "set-order" = true:=hb;simp only[e,↓reduceIte];(simp only[Rq,Gm,↓reduceIte]);refine Ad ?_;unfold setWalk setsByText;refine Ad (LU ho rfl ft ?_);dsimp only;(refine Ad (Ad (LK (An ?_))));simp only[e,↓reduceIte];exact Ad (LK (An (An (h1 hb))))
 | false=>
  have e:(model prog w).w.params.followText "set-order" = false:=hb;obtain⟨a1,a2,a3⟩:=h2 hb;simp only[e,Gm,↓reduceIte];split
  ·rename_i c;have c2:(!t.plain && decide (es.size > 1))=true:=c;rw[a1]at c2;cases c2
  refine Ad ?_;show wpAny _ _ (if (!t.led && !es.isEmpty)=true then unsupported "set:maker-not-led" else pure PUnit.unit) _ _ _;rw[a2];exact An (An a3)
def SX (r:Rs t.place) (h:i<=t.place.size):SetTable.below t.place (Gy t i)=i:=by
 refine Y9 r h (λj a hj e=>?_) (λj a hj e=>?_)
 ·cases i with
  | zero=>lia
  | succ k=>
   have hk:k<t.place.size:=h;have ek:t.place[k]? = some t.place[k]:=FM hk;have e3:Gy t (k+1)=t.place[k]+1:=by show t.place.getD k 0+1=_;simp[Array.getD,hk]
   rw[e3];rcases Gj j k with z | z
   ·exact Ff (r j k _ _ z e ek)
   obtain rfl:j=k:=by lia
   rw[ek]at e;cases e;exact Fo _
 cases i with
 | zero=>exact Bk _
 | succ k=>
  have hk:k<t.place.size:=h;have ek:t.place[k]? = some t.place[k]:=FM hk;have e3:Gy t (k+1)=t.place[k]+1:=by show t.place.getD k 0+1=_;simp[Array.getD,hk]
  rw[e3];exact r k j _ _ hj ek e
def Xn {α:Type}{Q:α->Shared->Prop}(hh:A.handled=none)(q:∀h' e,(∀b o,s.heap.get? b=some o->h'.get? b=some o)->(∃o,h'.get? e=some o/\o.cls=.type "StopIteration")->E (.ref e) { s with heap:=h' }) :
  wpAny (model prog w) A (newExc (.type "StopIteration") [] >>= λe=>(raiseNew e:Sem α)) Q E s:=by
 refine Ad ?_
 simp only[newExc,newTuple]
 (refine Ad (Hi ?_ (by size_fits)))
 (refine Ad (m:=firstArgMember _ _) (wpAny_of_eq (a:=Value.none) (by first | rfl | (simp only[firstArgMember];rfl)) ?_))
 (refine Hi ?_ (by size_fits))
 simp only[raiseNew]
 (refine Ad (wpAny_handled ?_))
 rw[hh]
 (refine Ad (An (wpAny_throw ?_)))
 exact q _ _ (λb o e=>AG _ (AG _ e)) ⟨_,A7 _ rfl,rfl⟩
def Xo (y:Way w b es ep t f nw ys)(g:Gd w t)(ft:t.fits es.size=true)
  (hI:s.heap.get? I=some (IG (f i) i b es.size ep))(hb:s.heap.get? b=some (DW es ep t))(hn:∀p∈nw,s.heap.get? p.1=some p.2)(hv:ys[i]? = some v)
  (q:∀h',h'.get? I=some (IG (f (i+1)) (i+1) b es.size ep)->Heap.SameBut I s.heap h'->Q (some v) { s with heap:=h' }):wpAny (model prog w) A (pyNext (.ref I)) Q E s:=by
 have ty:s.TypeIs (.ref I) "set_iterator" := ⟨_,hI,rfl⟩
 unfold pyNext
 refine Ad (wpAny_attempt (Ov (name:=Str.ofString "__next__") ty sl_next (Fg sl_next ty UX ?_ (VE _))))
 unfold Builtin.«set_iterator.__next__»
 refine Ad (m:=slotArgs "__next__" 0 _) (An ?_)
 refine Ad (wpAny_fieldsOf hI rfl ?_)
 dsimp only
 refine Ad (RG hb rfl ft ?_)
 rw[Ao (by simp)]
 have hps:t.place.size=es.size:=by unfold SetTable.fits at ft;simp only[B8,EB]at ft;exact ft.1
 cases y with
 | text ht=>simp only[A1];rw[AV,ET]at hv;obtain⟨e,he,rfl⟩:=CH.mp hv;refine Ad (Mo hb ft (λ_=>?_) (λhf=>by rw[ht]at hf;cases hf));rw[he];refine Ad (FK hI (by simp) λh1 o1 b1=>Ad (FK o1 (by simp) λh2 o2 b2=>An ⟨e.2,rfl,An (q h2 o2 (b1.trans b2))⟩))
 | slots hf hd=>
  simp only[A1];rw[AV,ET]at hv;obtain⟨e,he,rfl⟩:=CH.mp hv;have hi:=(Ox.mp he).1;have ep2:t.place[i]? = some t.place[i]:=FM (by lia);refine Ad (Mo hb ft (λht=>by rw[ht]at hf;cases hf) (λ_=>⟨hd,by rw[g.led,hf];rfl,?_⟩));rw[SX g.rs (by lia),he,ep2];refine Ad (FK hI (by simp) λh1 o1 b1=>Ad (FK o1 (by simp) λh2 o2 b2=>An ⟨e.2,rfl,An (q h2 ?_ (b1.trans b2))⟩));have e3:Gy t (i+1)=t.place[i]+1:=by show t.place.getD i 0+1=_;simp[Array.getD,show i<t.place.size by lia]
  show h2.get? I=some (IG (.int ((Gy t (i+1):Nat):Int) 0) (i+1) b es.size ep);rw[e3];exact o2
 | drawn T ps hf hp=>
  simp only[A1];rw[AV]at hv;obtain⟨p,hpi,rfl⟩:=CH.mp hv;have hpl:p<es.size:=DO.mp (hp.mem_iff.mp (Bt hpi));refine Ad (Jh (hn (T,Nv ps) (AQ.mpr rfl)) rfl ?_);dsimp only;have e1:(ps.map λ(i:Nat)=>rawInt i).toArray[i]? = some (Value.int p 0):=by rw[Rh,AV,hpi];rfl
  rw[e1];dsimp only;have e2:es[p]? = some es[p]:=FM hpl;refine Ad (m:=setNextDrawn b _ _) ?_;unfold setNextDrawn;refine Ad (LU hb rfl ft ?_);dsimp only;simp only[A1,Rq,Gm,↓reduceIte,e2];refine An (Ad (FK hI (by simp) λh1 o1 b1=>An ⟨_,rfl,An ?_⟩));have z:=q h1 o1 b1;rw[e2]at z;exact z
def Xp (hh:A.handled=none)(y:Way w b es ep t f nw ys)(g:Gd w t)(ft:t.fits es.size=true)
  (hI:s.heap.get? I=some (IG (f es.size) es.size b es.size ep))(hb:s.heap.get? b=some (DW es ep t))(hn:∀p∈nw,s.heap.get? p.1=some p.2)
  (q:∀h',(∀c o,c≠I->s.heap.get? c=some o->h'.get? c=some o)->Q none { s with heap:=h' }):wpAny (model prog w) A (pyNext (.ref I)) Q E s:=by
 have ty:s.TypeIs (.ref I) "set_iterator" := ⟨_,hI,rfl⟩
 unfold pyNext
 refine Ad (wpAny_attempt (Ov (name:=Str.ofString "__next__") ty sl_next (Fg sl_next ty UX ?_ (VE _))))
 unfold Builtin.«set_iterator.__next__»
 refine Ad (m:=slotArgs "__next__" 0 _) (An ?_)
 refine Ad (wpAny_fieldsOf hI rfl ?_)
 dsimp only
 refine Ad (RG hb rfl ft ?_)
 rw[Ao (by simp)]
 have hps:t.place.size=es.size:=by unfold SetTable.fits at ft;simp only[B8,EB]at ft;exact ft.1
 have fin:∀(h1:Heap) (F:Fin->Shared->Prop),Heap.SameBut I s.heap h1->wpAny (model prog w) A.in1 (newExc (.type "StopIteration") [] >>= λe=>(raiseNew e:Sem Fin)) F (λe s'=>wpAny (model prog w) A (do
    let c <- isInstance e (Value.type "StopIteration")
    if c=true then pure none else throw e) Q E s') { s with heap:=h1 }:=by
  intro h1 F b1
  refine Xn hh λh2 e k2 z=>?_
  obtain⟨o,ho,hc⟩:=z
  exact Ad (wpAny_isInstance (T := "StopIteration") (b:=true) ⟨o,ho,hc⟩ isSubtype_stop (An (q _ λc o c1 e=>k2 _ _ (b1.extBut _ _ c1 e))))
 cases y with
 | text ht=>
  simp only[A1];have he:(pickOrder (w.params.setOrder b ep) es)[es.size]? = none:=by refine LY ?_;have:=(Tr (w.params.setOrder b ep) es).length_eq;simp only[DM]at this;lia
  refine Ad (Mo hb ft (λ_=>?_) (λhf=>by rw[ht]at hf;cases hf));rw[he];exact Ad (FK hI (by simp) λh1 o1 b1=>fin h1 _ b1)
 | slots hf hd=>simp only[A1];refine Ad (Mo hb ft (λht=>by rw[ht]at hf;cases hf) (λ_=>⟨hd,by rw[g.led,hf];rfl,?_⟩));rw[SX g.rs (by lia),LY (Am _)];exact Ad (FK hI (by simp) λh1 o1 b1=>fin h1 _ b1)
 | drawn T ps hf hp=>
  simp only[A1];refine Ad (Jh (hn (T,Nv ps) (AQ.mpr rfl)) rfl ?_);dsimp only;have e1:(ps.map λ(i:Nat)=>rawInt i).toArray[es.size]? = none:=by refine LY ?_;have:=hp.length_eq;simp at this ⊢;lia
  rw[e1];dsimp only;exact Ad (FK hI (by simp) λh1 o1 b1=>Ad (FK o1 (by simp) λh2 o2 b2=>fin h2 _ (b1.trans b2)))
end
def SZ:Slot "set_iterator" "__iter__" "set_iterator.__iter__" := .of (owner := "set_iterator") (n := "__iter__") (by rw[Jl,Js];kernel_rfl)
 (by decide +kernel) (by decide +kernel) (by decide +kernel) (by first | exact .inl (by decide +kernel) | exact .inr (by decide +kernel))
 (by rw[N8];kernel_rfl)
def mP:entryFor table "set_iterator.__iter__" = some Builtin.«dict_keyiterator.__iter__»:=entryFor_alias (id' := "dict_keyiterator.__iter__") (by kernel_rfl) rfl (by decide +kernel) (by kernel_rfl)
def oU (v:Value):argsOk "set_iterator.__iter__" ⟨[v],[]⟩:=by unfold argsOk;kernel_rfl
def iS:typeLookup (.type "set") "__len__" = pure (some (.builtin "set.__len__")):=by rw[Jl,Js];kernel_rfl
section
variable {prog:Program}{w:World}{A:Around}{E:Value->Shared->Prop}{s:Shared}
theorem Sl (hh:A.handled=none)(y:Way w b es ep t f nw ys)(g:Gd w t)(ft:t.fits es.size=true)(hl:ys.length=es.size)(n1:b≠I)(n2:∀p∈nw,p.1≠I) :
  WalksS prog w A I (I::b::nw.map (·.1)) [I] (λx z=>x=z) es.size (λi v=>ys[i]? = some v)
   (λi s=>s.heap.get? I=some (IG (f i) i b es.size ep)/\s.heap.get? b=some (DW es ep t)/\∀p∈nw,s.heap.get? p.1=some p.2) where
 sub:=λc hc=>by rw[AQ.mp hc];exact Bo
 grefl:=λ_=>rfl
 gtrans:=λ_ _ _ a b=>a.trans b
 frame:=λi s h' tk st _ k=>⟨k I Bo _ st.1,k b (Bn _ Bo) _ st.2.1,λp hp=>k p.1 (Bn _ (Bn _ (RF hp))) _ (st.2.2 p hp)⟩
 item:=λi s Q E hi st q=>by refine Xo (v:=ys[i]'(by lia)) y g ft st.1 st.2.1 st.2.2 (AC _) λh' o1 b1=>?_;refine q _ _ (AC _) ⟨o1,b1.extBut _ _ n1 st.2.1,λp hp=>b1.extBut _ _ (n2 p hp) (st.2.2 p hp)⟩ ⟨λc o hc e=>b1.extBut _ _ (λz=>hc (by rw[z];exact AQ.mpr rfl)) e,rfl,rfl,rfl,Am _⟩
 done:=λs Q E st q=>Xp hh y g ft st.1 st.2.1 st.2.2 λh' k=>q _ ⟨λc o hc e=>k c o (λz=>hc (by rw[z];exact AQ.mpr rfl)) e,rfl,rfl,rfl,Am _⟩
 self:=λi s Q E st q=>by have ty:s.TypeIs (.ref I) "set_iterator" := ⟨_,st.1,rfl⟩;refine Ro ty SZ (Fg SZ ty mP ?_ (oU _));show wpAny _ _ (ret (.ref I)) _ _ s;exact An ⟨_,rfl, "set_iterator",_,ty,sl_next.lookup,q⟩
def jY (g:Gd w t)(ft:t.fits es.size=true)(hz:es.size<=1000)(hb:s.heap.get? b=some (DW es ep t))
  (q:∀(h':Heap) (d:Drawn) (I:Addr) (f:Nat->Value) (nw:List (Addr×Obj)) (ys:List Value),Way w b es ep t f nw ys->s.heap.objs.size<=I->(∀p∈nw,s.heap.objs.size<=p.1/\p.1≠I/\h'.get? p.1=some p.2)->h'.get? I=some (IG (f 0) 0 b es.size ep) -> (∀c o,s.heap.get? c=some o->h'.get? c=some o)->Q (.ref I) { s with heap:=h',drawn:=d }):wpAny (model prog w) A (pyIter (.ref b)) Q E s:=by
 have ty:s.TypeIs (.ref b) "set" := ⟨_,hb,rfl⟩
 refine Ro ty F.slot_set_iter (Fg F.slot_set_iter ty mQ ?_ (F.args_set_iter_1 _))
 unfold Builtin.«frozenset.__iter__»
 refine Ad (m:=Builtin.Frozenset.slot0 "__iter__" _) (An ?_)
 refine Ad (m:=Builtin.Frozenset.sizeOf b) (Ad (RG hb rfl ft (An ?_)))
 dsimp only
 have made:∀(f:Nat->Value) (nw:List (Addr×Obj)) (ys:List Value) (h1:Heap) (d:Drawn),Way w b es ep t f nw ys->(∀p∈nw,s.heap.objs.size<=p.1/\h1.get? p.1=some p.2)->(∀c o,s.heap.get? c=some o->h1.get? c=some o)->s.heap.objs.size<=h1.objs.size ->
   wpAny (model prog w) A.in1 (do
    let z <- setEpoch b
    let u <- newFields "set_iterator" [f 0,rawInt 0,.ref b,rawInt es.size,rawInt z]
    ret u) (λfin s'=>∃v,fin=Fin.done (Flow.ret v)/\∃T' r,s'.TypeIs v T'/\typeLookup (.type T') "__next__" = pure (some r)/\Q v s') E { s with heap:=h1,drawn:=d }:=by
  intro f nw ys h1 d y n1 k le
  refine Ad (wpAny_setEpoch_of (k _ _ hb) rfl ft ?_)
  refine Ad (Hi (An ⟨_,rfl, "set_iterator",_,⟨_,A7 _ rfl,rfl⟩,sl_next.lookup,?_⟩))
  exact q _ d _ f nw ys y le (λp hp=>⟨(n1 p hp).1,AY (AF (n1 p hp).2),AG _ (n1 p hp).2⟩) (A7 _ rfl) λc o e=>AG _ (k c o e)
 refine Ad (m:=setDrawn b) ?_
 unfold setDrawn setsByText
 refine Ad (LU hb rfl ft ?_)
 dsimp only
 refine Ad (Ad (LK (An (An ?_))))
 split
 ·rename_i c;have c2:(!w.params.followText "set-order" && (!t.plain && decide (es.size > 1)))=true:=c
  have hf:w.params.followText "set-order" = false:=by
   cases hq:w.params.followText "set-order" with
   | false=>rfl
   | true=>rw[hq]at c2;cases c2
  refine Ad (U0 es.size (List.range es.size) Dw _ _ λps d pm=>?_);have lp:(ps.map λ(i:Nat)=>rawInt i).length<=sizeLine:=by have h1:=pm.length_eq;have h2:sizeLine=16777216:=AL;rw[Dw]at h1;rw[Al];lia
  refine Ad (wpAny_newTuple ?_ lp);refine made (λ_=>.ref s.heap.objs.size) [(s.heap.objs.size,Nv ps)] _ _ d (.drawn _ ps hf pm) (λp hp=>?_) (λc o e=>AG _ e) (by rw[Eb];exact Ef _);rw[AQ.mp hp];exact⟨Am _,A7 _ rfl⟩
 rename_i c
 refine Ad (An ?_)
 cases hq:w.params.followText "set-order" with
 | true=>exact made (λ_=>.int 0 0) [] _ s.heap s.drawn (.text hq) (λp hp=>nomatch hp) (λ_ _ e=>e) (Am _)
 | false=>have c2:¬(!w.params.followText "set-order" && (!t.plain && decide (es.size > 1)))=true:=c;rw[hq]at c2;exact made (λi=>.int (Gy t i) 0) [] _ s.heap s.drawn (.slots hq (Bool.eq_false_iff.mpr c2)) (λp hp=>nomatch hp) (λ_ _ e=>e) (Am _)
def kW (ty:s.TypeIs (.ref b) "set") (h:Q false s):wpAny (model prog w) A (Builtin.List.listLengthHint (.ref b)) Q E s:=by
 (unfold Builtin.List.listLengthHint);refine Ad (Ob ty iS ?_);generalize hid:("set.__len__" : String)=id0;wp_delta;rw[show splitId id0=some ("set", "__len__") from by subst hid;decide +kernel];subst hid;refine Ad (wpAny_isInstance (T := "set") (b:=true) ty (by rw[N8];kernel_rfl) ?_);rw[Ao (by decide)];split
 ·exact Ad (Jf ty (An h))
 rename_i c;exact absurd (by decide +kernel) c
def Vg (hh:A.handled=none)(g:Gd w t)(ft:t.fits es.size=true)(hz:es.size<=1000)(hb:s.heap.get? b=some (DW es ep t))
  (q:∀(h':Heap) (d:Drawn) (tk:Nat) (ys:List Value),ys.Perm (es.toList.map (·.2))->s.heap.objs.size<=h'.objs.size->(∀c o,s.heap.get? c=some o->h'.get? c=some o)->R ys { s with heap:=h',drawn:=d,toks:=tk }):wpAny (model prog w) A (collect (.ref b)) R E s:=by
 have hlb:b<s.heap.objs.size:=AF hb
 unfold collect
 (refine Ad (wpAny_runValue (ES F.entry_proto_collect ?_)))
 (rw[FL F.plain_proto_collect _])
 show wpAny _ A.in1 (newList [] >>= λl=>again (.builtin "list.__iadd__" ⟨[l,.ref b],[]⟩)) _ _ _
 refine Ad (Hi (An ⟨FP F.plain_list_iadd _,ES F.entry_list_iadd ?_⟩))
 (rw[FL F.plain_list_iadd _])
 show wpAny _ A.in1 (Builtin.List.listExtendWith (.ref s.heap.objs.size) (.ref b) (.ref s.heap.objs.size)) _ _ _
 have hb1:(s.heap.push { cls:=.type "list",data:=.seq ([]:List Value).toArray }).get? b=some (DW es ep t):=AG _ hb
 have ty:Shared.TypeIs { s with heap:=s.heap.push { cls:=.type "list",data:=.seq ([]:List Value).toArray } } (.ref b) "set" := ⟨_,hb1,rfl⟩
 (unfold Builtin.List.listExtendWith)
 refine Ad (Jf ty ?_)
 have e1:Builtin.List.listSameRef (.ref s.heap.objs.size) (.ref b)=false:=by simp[Builtin.List.listSameRef,Dk hlb]
 have e2:(Value.type "set" == Value.type "list")=false:=by decide
 have e3:(Value.type "set" == Value.type "tuple")=false:=by decide
 simp only[e1,e2,e3,Bool.or_false,Gm,G8]
 have sz:(s.heap.push { cls:=.type "list",data:=.seq ([]:List Value).toArray }).objs.size=s.heap.objs.size+1:=Eb ..
 refine Ad (jY g ft hz hb1 λh' d I f nw ys y hI hn oI k=>?_)
 rw[sz]at hI hn
 have ty2:Shared.TypeIs { s with heap:=h',drawn:=d } (.ref b) "set" := ⟨_,k _ _ hb1,rfl⟩
 refine Ad (Dl (kW ty2 ?_))
 have hS:h'.get? s.heap.objs.size=some { cls:=.type "list",data:=.seq ([]:List Value).toArray }:=k _ _ (A7 _ rfl)
 have hl:ys.length=es.size:=by have:=y.perm.length_eq;simpa using this
 have W:=Sl (prog:=prog) (A:=A.in1) (I:=I) hh y g ft hl (λz=>C7 _ (BJ (z ▸ hlb:I<s.heap.objs.size) (Nat.le_of_succ_le hI))) (λp hp=>(hn p hp).2.1)
 have hSf:s.heap.objs.size∉I::b::nw.map (·.1):=by
  intro z;rcases(AK.mp z)with z | z
  ·exact C7 _ (BJ (Fo _) (z ▸ hI))
  rcases(AK.mp z)with z | z
  ·exact C7 _ (z ▸ hlb)
  obtain⟨p,hp,z⟩:=AE.mp z;have:=(hn p hp).1;lia
 have run:∀(h2:Heap) (c:Nat) (Rr:Result->Shared->Prop),(∀b o,b≠s.heap.objs.size->h'.get? b=some o->h2.get? b=some o)->h2.get? s.heap.objs.size=some { cls:=.type "list",data:=.seq ([]:List Value).toArray c } ->
   (∀(h3:Heap) (tk c':Nat) (acc:Array Value),h3.get? s.heap.objs.size=some { cls:=.type "list",dict:=none,data:=.seq acc c',slots:=#[] }->acc.toList=ys->(∀c o,s.heap.get? c=some o->h3.get? c=some o)->Rr (.ok (.ret (.ref s.heap.objs.size))) { s with heap:=h3,drawn:=d,toks:=tk }) ->
   codeAny (model prog w) A (.builtin "list.extend.loop" ⟨[.ref s.heap.objs.size,.ref I,.ref s.heap.objs.size],[]⟩) Rr { s with heap:=h2,drawn:=d }:=by
  intro h2 c Rr k2 hS2 fin
  have neI:I≠s.heap.objs.size:=Dk hI
  refine codeAny_extend_loopS W (by rw[AL];lia) _ hSf _ es.size 0 _ _ _ rfl (Bk _) ⟨k2 _ _ neI oI,k2 _ _ (AY hlb) (k _ _ hb1),λp hp=>k2 _ _ (Dk (hn p hp).1) (hn p hp).2.2⟩ hS2 (ItemsOf.nil _) λs3 acc c' hm hS3 it=>?_
  obtain⟨h3,g3,d3,tk3,os3⟩:=s3
  obtain⟨m1,m2,m3,m4,m5⟩:=hm
  have eg:s.gens=g3:=m2
  have ed:d3=d:=m3
  have es':os3=s.os:=m4
  subst eg ed es'
  refine fin h3 tk3 c' acc hS3 ?_ λc o e=>m1 c o ?_ (k2 c o (AY (AF e)) (k c o (AG _ e)))
  ·refine ext_getElem (by rw[DM,it.1,hl]) λi h1 h2=>?_
   have e:ys[i]? = some acc.toList[i]:=it.2 i acc.toList[i] (by rw[<- ET];exact AC h1)
   rw[AC h2]at e
   exact(BS e).symm
  have lc:c<s.heap.objs.size:=AF e
  intro z
  rcases(AK.mp z)with z | z
  ·exact C7 _ (z ▸ lc)
  exact C7 _ (G6 lc (Nat.lt_of_succ_le ((AQ.mp z) ▸ hI)))
 have last:∀(h3:Heap) (tk c':Nat) (acc:Array Value),h3.get? s.heap.objs.size=some { cls:=.type "list",dict:=none,data:=.seq acc c',slots:=#[] }->acc.toList=ys->(∀c o,s.heap.get? c=some o->h3.get? c=some o) ->
   R acc.toList { s with heap:=h3,drawn:=d,toks:=tk }:=λh3 tk c' acc o3 e k3=>by
  rw[e]
  exact q h3 d tk ys y.perm (G9 (AF o3)) k3
 split
 ·refine Ad (Ls (Ad ?_));(show wpAny _ A.in1 (updateSeq s.heap.objs.size (·.push .none) >>= λ_=>updateSeq s.heap.objs.size (·.pop)) _ _ _);(refine Ad (wpAny_updateSeq hS rfl ?_));have hS2:=G5 (Obj.mapSeq (·.push Value.none)) hS rfl;refine wpAny_updateSeq hS2 rfl ?_;have hS3:=G5 (Obj.mapSeq (·.pop)) hS2 rfl;refine An ⟨FP RE _,run _ _ _ (λb o hb e=>(LZ _ _ (DB hb)).trans ((LZ _ _ (DB hb)).trans e)) hS3 λh3 tk c' acc o3 e k3=>?_⟩;(show wpAny _ A (load s.heap.objs.size >>= _) _ _ _);exact Ad (wpAny_load o3 (An (last h3 tk c' acc o3 e k3)))
 refine An ⟨FP RE _,run _ _ _ (λ_ _ _ e=>e) hS λh3 tk c' acc o3 e k3=>?_⟩
 (show wpAny _ A (load s.heap.objs.size >>= _) _ _ _)
 exact Ad (wpAny_load o3 (An (last h3 tk c' acc o3 e k3)))
end
end SG
namespace SG
open PySem PyProof.Rows
section
variable {prog:Program}{w:World}{A:Around}{E:Value->Shared->Prop}{s:Shared}
def iv:Value->Int
 | .int i _=>i
 | _=>0
theorem Uq:∀{vs:List Value},(∀v∈vs,∃t,v=.int (iv v) t)->IntsAre vs (vs.map iv)
 | [],_=>.nil
 | v::r,h=>by obtain⟨t,e⟩:=h v Bo;rw[e];exact .cons _ t (Uq λx hx=>h x (Bn _ hx))
def sorted_set (hh:A.handled=none)(g:Gd w t)(ft:t.fits es.size=true)(hz:es.size<64)(hb:s.heap.get? b=some (DW es ep t))(hi:∀e∈es.toList,∃t,e.2=.int (iv e.2) t)
  (q:∀(h':Heap) (d:Drawn) (tk e D:Nat) (out:Array Value) (ns:List Int),IntsAre out.toList ns->ns.Perm (es.toList.map λe=>iv e.2)->ns.Pairwise (·<=·)->h'.get? D=some (seqObj "list" out e)->s.heap.objs.size<=D->(∀c o,s.heap.get? c=some o->h'.get? c=some o) -> Q (.ref D) { s with heap:=h',drawn:=d,toks:=tk }):wpAny (model prog w) A (call (.builtin "sorted") [.ref b]) Q E s:=by
 (refine R1 kind_sorted plain_sorted entry_sorted (args_sorted1 _) ?_)
 unfold Builtin.«sorted»
 (refine Ad (m:=checkCount "sorted" 1 1 _) (An ?_))
 refine Ad (Vg (A:=A.in1) hh g ft (by lia) hb λh1 d tk ys pm lb k1=>?_)
 have hl:ys.length=es.size:=by have:=pm.length_eq;simpa using this
 (refine Ad (N2 ?_ (by rw[AL];lia)))
 have ai:∀v∈ys,∃t,v=.int (iv v) t:=λv hv=>by obtain⟨e,he,rfl⟩:=AE.mp (pm.mem_iff.mp hv);exact hi e he
 have pi:(ys.map iv).Perm (es.toList.map λe=>iv e.2):=by have:=pm.map iv;rw[BC]at this;exact this
 have oL:(h1.push { cls:=.type "list",data:=.seq ys.toArray }).get? h1.objs.size=some (seqObj "list" ys.toArray 0):=A7 _ rfl
 refine Ad (Dl (Fg slot_list_sort ⟨_,oL,rfl⟩ entry_list_sort (list_sort_tree oL (Uq ai) (by lia) λout ns a1 a2 a3=>⟨_,rfl,?_⟩) (args_list_sort _)))
 obtain⟨e,he⟩:=sortedHeap_at (out:=out) oL
 refine An ⟨_,rfl,q _ d tk e _ out ns a1 (a2.trans pi) a3 he lb λc o z=>?_⟩
 have lc:=AF (k1 c o z)
 rw[sortedHeap_old (AY lc) (by rw[size_push'];exact Ff lc)]
 exact AG _ (k1 c o z)
end
section
variable {prog:Program}{w:World}{κ:Type} [DecidableEq κ] {knd:KeyKind prog w κ}{A:Around}{R:Result->Shared->Prop}{I:Addr}{fp wr:List Addr}{G:Array GenState->Array GenState->Prop}{n:Nat}{P:Nat->Value->Prop}{St:Nat->Shared->Prop}
def kept (q:SetG knd h S f m)(e:∀o,h.get? S=some o->h'.get? S=some o):SetG knd h' S f m:=by obtain⟨es,ep,t,ho,r⟩:=q;exact⟨es,ep,t,e _ ho,r⟩
def NQ {k:Nat}(q:SetG knd h S f m)(e:∀x,f x=g x)(em:m=k):SetG knd h S g k:=by have:f=g:=funext e;subst this em;exact q
def QU (W:WalksS prog w A.in1 I fp wr G n P St)(S:Addr)(nS:S∉fp)(val:Nat->κ)(hv:∀i v,P i v->knd.is (val i) v=true/\v.scannable=true)(hb:n+1<scanBound) :
  ∀(k i:Nat) (s:Shared),n-i=k->i<=n->St i s->SetG knd s.heap S (λx=>decide (x∈SK.dd val i)) (SK.dd val i).length ->
   (∀s',Moved (S::wr) G s s'->SetG knd s'.heap S (λx=>decide (x∈SK.dd val n)) (SK.dd val n).length->R (.ok (.ret .none)) s') ->
   (codeAny (model prog w) A (.builtin "set.update.loop" ⟨[.ref S,.ref I],[]⟩) R s):=by
 have nw:S∉wr:=λh=>nS (W.sub _ h)
 have sub:∀b∈wr,b∈S::wr:=λb z=>Bn _ z
 intro k
 induction k with
 | zero=>
  intro i s hk hi st hS fin;obtain rfl:i=n:=by lia
  refine ES NW ?_;rw[FL Jb _];refine Ad (m:=pyNext (.ref I)) (W.done s _ _ st λs1 hm=>?_);exact An (fin s1 (hm.mono sub) (kept hS λo e=>hm.heap S o nw e))
 | succ k ih=>
  intro i s hk hi st hS fin;have lt:i<n:=by lia
  refine ES NW ?_;rw[FL Jb _];refine Ad (m:=pyNext (.ref I)) (W.item i s _ _ lt st λv s1 hP st1 hm=>?_);obtain⟨key,sc⟩:=hv i v hP;refine Ad (m:=holding [v] (setAdd S v)) (Dl ?_);unfold setAdd;refine Dl (Ad (knd.pyHash (k:=val i) key ?_));have room:(SK.dd val i).length+1<scanBound:=by have:=SK.dd_le (val:=val) i;lia
  refine oY (knd:=knd) (s:={ s1 with toks:=s1.toks+1 }) key sc (kept hS λo e=>hm.heap S o nw e) room λh2 sb hS2=>?_;have hS3:SetG knd h2 S (λx=>decide (x∈SK.dd val (i+1))) (SK.dd val (i+1)).length:=NQ hS2 (λx=>(SK.dd_step i x).symm) (SK.dd_size i).symm;have oth:∀b o,b≠S->s1.heap.get? b=some o->h2.get? b=some o:=λb o z e=>(sb.2 b z).trans e;refine An ⟨FP Jb _,ih (i+1) _ (by lia) lt (W.frame _ s1 h2 (s1.toks+1) st1 (Ef _) λb hb o e=>oth b o (λz=>nS (z ▸ hb)) e) hS3 λs2 hm2 q=>?_⟩;refine fin s2 (Moved.trans W.gtrans ((hm.mono sub).then_heap (Ef _) λb o hb e=>oth b o (λz=>hb (z ▸ Bo)) e) hm2) q
end
section
variable {prog:Program}{w:World}{κ:Type} [DecidableEq κ] {knd:KeyKind prog w κ}{A:Around}{E:Value->Shared->Prop}{s:Shared}
abbrev T7 (w:World):Bool:=!w.params.followText "set-order"
abbrev CM (led:Bool):Obj:={ cls:=.type "set",dict:=none,data:=.set #[] 0 (.fresh 0 0 led) }
def nP (v:Value) (q:Q1 (.ref s.heap.objs.size) { s with heap:=s.heap.push (CM (T7 w)) }) :
  codeAny (model prog w) A (.call (.builtin "set.__new__") ⟨[.type "set",v],[]⟩) (wants Q1 E) s:=by
 refine Oa ?_
 show wpAny _ A.in1 (do checkBuiltinCall "set.__new__" ⟨[.type "set",v],[]⟩;again (.builtin "set.__new__" ⟨[.type "set",v],[]⟩)) _ _ s
 refine Ad (wpAny_of_eq (PySem.F.newCall_set_1 v) (An ⟨FP PySem.F.plain_set_new _,ES PySem.F.entry_set_new ?_⟩))
 rw[FL PySem.F.plain_set_new _]
 (unfold Builtin.«set.__new__» Builtin.Frozenset.newClass)
 have hsub:=sub_set_self
 obtain⟨hp,gs,d,tk,os⟩:=s
 dsimp only
 wp_walk
 (refine LK (An ?_))
 dsimp only
 simp only[newObj]
 exact Ad (wpAny_alloc (An (An q)))
def make {val:Nat->κ} (hh:A.handled=none)(hl:s.heap.IsList l items)(hv:∀i v,items[i]? = some v->knd.is (val i) v=true/\v.scannable=true)(hb:items.size+1<scanBound)
  (q:∀(h':Heap) (tk:Nat),SetG knd h' s.heap.objs.size (λx=>decide (x∈SK.dd val items.size)) (SK.dd val items.size).length->(∀b o,s.heap.get? b=some o->h'.get? b=some o)->Q (.ref s.heap.objs.size) { s with heap:=h',toks:=tk }) :
  (wpAny (model prog w) A (call (.type "set") [.ref l]) Q E s):=by
 obtain⟨c,tl,hmro⟩:=Dm.mro
 have hmade:=Dm.made
 have hsub:=Dm.sub
 refine Ez (Oa (show wpAny _ _ (callAny (.type "set") _) _ _ _ from ?_))
 refine An ⟨Oj _ (by decide +kernel),ES PySem.F.entry_type_call ?_⟩
 (rw[Around.under_plain (weight_type_call_type "set" [.ref l] []) rfl])
 have h1:=Dm.notType
 have h2:=Dm.canCreate
 have hct:=PySem.F.typeCall_set_1 (.ref l)
 (repeat (any_goals (first | assumption | wp_step)))
 refine Ea (nP (.ref l) (E:=E) (Q1:=λob s1=>∃led:Bool,led=T7 w/\ob=.ref s.heap.objs.size/\s1={ s with heap:=s.heap.push (CM led) }) ⟨_,rfl,rfl,rfl⟩) λr s1 hr=>?_
 cases r with
 | error e=>exact hr
 | ok fl=>
  cases fl with
  | ret ob=>
   obtain⟨led,hled,rfl,rfl⟩:=hr;have hS:(s.heap.push (CM led)).get? s.heap.objs.size=some (CM led):=A7 _ rfl;have hT:Shared.TypeIs { s with heap:=s.heap.push (CM led) } (.ref s.heap.objs.size) "set" := ⟨_,hS,rfl⟩;have hli:=Dm.init.lookup;have hbi:=Dm.init.bind (.ref s.heap.objs.size);(repeat (any_goals (first | assumption | wp_step)));refine Ea (Jq (R:=wants (λr s2=>r=.none/\∃h' tk,s2={ s with heap:=h',toks:=tk }/\SetG knd h' s.heap.objs.size (λx=>decide (x∈SK.dd val items.size)) (SK.dd val items.size).length /\ (∀b o,s.heap.get? b=some o->h'.get? b=some o)) E) Dm.init.plain PySem.F.entry_set_init (check_set_init_1 hT ?_)) λr2 s2 hr2=>?_
   ·obtain⟨⟨ocls,odict,odata,oslots⟩,hol,hcl,nl,hdl⟩:=hl;simp only at hcl hdl;subst hcl hdl;have hol':(s.heap.push (CM led)).get? l=some { cls:=.type "list",dict:=odict,data:=.seq items nl,slots:=oslots }:=AG _ hol;have x1:=PySem.F.sub_list_set;have x2:=VN;have x3:(Value.type "list" == Value.type "dict")=false:=by decide
    have hl1:(s.heap.push (CM led)).IsList l items:=⟨_,hol',rfl,nl,rfl⟩;(unfold Builtin.«set.__init__» noKeywords Builtin.Frozenset.updateFrom);generalize hPI:pyIter=PI;wp_walk;subst hPI;(refine Jn hl1 ?_);(refine Ad (wpAny_runValue ?_));have lt:l<s.heap.objs.size:=AF hol;have sz:(s.heap.push (CM led)).objs.size=s.heap.objs.size+1:=Eb ..;(have hh3:A.in1.in1.in1.handled=none:=by simp[hh]);have ne1:l≠(s.heap.push (CM led)).objs.size:=by rw[sz];exact AY (Ff lt)
    have nS:s.heap.objs.size∉[(s.heap.push (CM led)).objs.size,l]:=by rw[sz];simp only[AK,Bw,Bv,Fk];exact⟨AY (Fo _),Dk lt⟩
    refine QU (knd:=knd) ((Walks.list hh3 _ l ne1 items).toS) s.heap.objs.size nS val hv hb (items.size-0) 0 _ (by lia) (Bk _) ⟨⟨_,A7 _ rfl,rfl,rfl⟩,hl1.push _⟩ ?_ λs3 hm q3=>?_
    ·have g:=AG ({ cls:=.type "list_iterator",data:=.fields #[.ref l,.int 0 0] }:Obj) hS;exact⟨_,_,_,g,λe he=>by simp at he,λx=>by simp[SK.dd],by decide,by rfl,rfl,YE,hled⟩
    obtain⟨h3,g3,d3,tk3,os3⟩:=s3;obtain⟨m1,m2,m3,m4,m5⟩:=hm;have eg:g3=s.gens:=m2;have ed:d3=s.drawn:=m3;have es:os3=s.os:=m4;subst eg ed es;refine An (An ⟨rfl,h3,tk3,rfl,q3,λb o e=>m1 b o ?_ (AG _ (AG _ e))⟩);have lb:b<s.heap.objs.size:=AF e;rw[sz];simp only[AK,Bw,Bv,Fk];exact⟨AY lb,AY (Ff lb)⟩
   cases r2 with
   | error e=>exact hr2
   | ok fl2=>
    cases fl2 with
    | ret r=>obtain⟨rfl,h',tk,rfl,a1,a2⟩:=hr2;(repeat (any_goals (first | assumption | wp_step)));exact q _ _ a1 a2
    | _=>exact hr2.elim
  | _=>exact hr.elim
end
end SG
namespace L2
open PySem PyProof.Rows
section
variable {X:Cx}
def Inv.dr (d:Drawn)(I:Inv X aa σ H s):Inv X aa σ H { s with drawn:=d }:=⟨I.ok,I.os,I.bare,I.base,I.loc,I.cell,I.free,I.freeC,I.pin,I.hok,I.len⟩
def TZ {κ:Type}[DecidableEq κ](ks:List κ)(x:κ):Bool:=decide (x∈ks)
def memB_iff {κ:Type}[DecidableEq κ]{ks:List κ}{x:κ}:TZ ks x=true↔x∈ks:=decide_eq_true_iff
def Do (P:Program)(w:World)(a:Addr)(ks:List Ag):HO:=.ext λh=>SG.SetG (BB P w) h a (TZ ks) ks.length
def Q6 (hc:X.calm=true):Cj X (.type "set") (λxs H Q=>∃p ks,xs=[.ref p]/\SqL X.K H p (ks.map kV)/\ks.length<=1000/\∀a,H a=none->Q (.ref a) (upd H a (Do X.prog X.w a (SK.dd (BX ks) ks.length)))):=by
 intro aa s σ H xs us Q I r h;obtain⟨p,ks,rfl,hp,hk,q⟩:=h;obtain⟨u,rfl,ru⟩:=CV r;cases ru;obtain⟨its,rv,pl,hz⟩:=I.list hp;have hlen:=rv.length;rw[Al]at hlen;refine SG.make (knd:=BB X.prog X.w) (val:=BX ks) (I.ok.hd hc) pl.isList (λi v hv=>?_) (by rw[Bx];unfold scanBound;lia) λh' tk hS kp=>?_
 ·have hi:its[i]? = some v:=by simpa using hv
  have hib:i<ks.length:=by have:=(AN.mp hi).1;lia
  obtain⟨u',hu',ru⟩:=rv.get (i:=i) (x:=kV ks[i]) (by simp[hib]);rw[hi]at hu';cases hu';have e:BX ks i=ks[i]:=by simp[BX,List.getD,hib]
  rw[e];refine⟨FG ru,?_⟩;cases hkk:ks[i]with
  | inl j=>rw[hkk]at ru;obtain⟨t,rfl⟩:=ru;rfl
  | inr y=>rw[hkk]at ru;obtain⟨t,rfl⟩:=ru;rfl
 have es:its.toArray.size=ks.length:=by simp[hlen]
 rw[es]at hS;refine⟨.ref _,_,I.laid (a:=s.heap.objs.size) (o:=Do X.prog X.w s.heap.objs.size (SK.dd (BX ks) ks.length)) kp (Am _) ⟨hS,?_,λh1 h2 f1 e=>SG.kept f1 e⟩,rfl,q _ (I.hok.fresh (Am _))⟩;obtain⟨es,_,_,e,_⟩:=hS;exact⟨_,e⟩
theorem Ss:∀{ns:List Int}{us:List Value},IntsAre us ns->Vals (ns.map V.int) us
 | _,_,.nil=>.nil
 | _,_,.cons _ t r=>.cons ⟨t,rfl⟩ (Ss r)
def Vp (hc:X.calm=true):Cj X (.builtin "sorted") (λxs H Q=>∃(a:Addr) (ns:List Int),xs=[.ref a]/\H a=some (Do X.prog X.w a (ns.map Sum.inl))/\ns.Nodup/\ns.length<64/\∀(l:Addr) (zs:List Int),H l=none->zs.Perm ns->zs.Pairwise (·<=·)->Q (.ref l) (upd H l (.lst (zs.map V.int)))):=by
 intro aa s σ H xs us Q I r h;obtain⟨a,ns,rfl,ha,nd,hz,q⟩:=h;obtain⟨u,rfl,ru⟩:=CV r;cases ru;obtain⟨⟨es,ep,t,ho,i⟩,_,_⟩:=I.hok a _ ha;have sz:=i.sz;rw[Al]at sz
 have key:∀e∈es.toList,∃n t,n∈ns/\e.2=.int n t:=λe he=>by
  obtain⟨⟨k,hk,_⟩,_⟩:=i.el e he;have hm:=memB_iff.mp ((i.me k).mpr ⟨e,he,hk⟩);obtain⟨n,hn,rfl⟩:=AE.mp hm;rcases Di (show DY (.inl n) e.2=true from hk)with⟨j,t,e1,e2⟩ | ⟨y,t,e1,e2⟩
  ·cases e1;exact⟨n,t,hn,e2⟩
  cases e1
 have pm:(es.toList.map λe=>SG.iv e.2).Perm ns:=by
  refine SG.perm_of nd (λx hx=>?_) (by rw[Al,DM];lia);obtain⟨e,he,hk⟩:=(i.me (.inl x)).mp (memB_iff.mpr (RF hx));rcases Di (show DY (.inl x) e.2=true from hk)with⟨j,t,e1,e2⟩ | ⟨y,t,e1,e2⟩
  ·cases e1;exact AE.mpr ⟨e,he,by rw[e2];rfl⟩
  cases e1
 refine SG.sorted_set (I.ok.hd hc) i.gd i.ft (by lia) ho (λe he=>?_) λh' d tk c D out zs a1 a2 a3 a4 a5 a6=>?_
 ·obtain⟨n,t,_,e2⟩:=key e he;exact⟨t,by rw[e2];rfl⟩
 have pz:=a2.trans pm;have hl:=pz.length_eq;have hs:sizeLine=16777216:=AL;refine⟨.ref _,_,(I.laid (a:=D) (o:=.lst (zs.map V.int)) (t':=tk) a6 a5 ⟨by rw[Al];lia,out.toList,c,Ss a1,by simpa using a4⟩).dr d,rfl,q _ _ (I.hok.fresh a5) pz a3⟩
def TU:Jt X "int.bit_length" (λx xs H Q=>∃i,x=.int i/\xs=[]/\Q (.int (Builtin.Int.intBits i)) H):=by intro aa s σ H x xs v us Q I rx rv h;obtain⟨i,rfl,rfl,q⟩:=h;obtain⟨t,rfl⟩:=rx;cases rv;exact call_int_bit_length ⟨.int _,H,I.tok _,⟨_,rfl⟩,q⟩
theorem To:∀(ns:List Int) (n:Nat),n<=ns.length->preSum (λi=>ns.getD i 0) n=(ns.take n).sum
 | ns,0,_=>by simp[preSum]
 | ns,n+1,h=>by have hn:n<ns.length:=h;show preSum (λi=>ns.getD i 0) n+ns.getD n 0=_;rw[To ns n (by lia),BK hn,List.sum_append];simp[List.getD,hn]
def Vo (hc:X.calm=true):Cj X (.builtin "sum") (λxs H Q=>∃(p:Addr) (ns:List Int),xs=[.ref p]/\SqL X.K H p (ns.map V.int)/\Q (.int ns.sum) H):=by
 intro aa s σ H xs us Q I r h;obtain⟨p,ns,rfl,hp,q⟩:=h;obtain⟨u,rfl,ru⟩:=CV r;cases ru;obtain⟨its,rv,pl,hz⟩:=I.list hp;have hlen:=rv.length;rw[Al]at hlen;have hlt:p<s.heap.objs.size:=by obtain⟨o,n,e,_⟩:=pl;exact AF e
 refine call_sum_walkAnyS (Jn pl.isList ⟨s.heap.objs.size,_,_,_,_,_,_,λi=>ns.getD i 0,rfl,(Walks.list (show X.A.in1.handled=none from I.ok.hd hc) _ p (AY hlt) its.toArray).toS,⟨⟨_,A7 _ rfl,rfl,rfl⟩,pl.isList.push _⟩,λb hb=>?_,λi v hP=>?_,λs' t' hm=>?_⟩)
 ·show b<(s.heap.push _).objs.size;rw[Eb];rcases(AK.mp hb)with e | e
  ·rw[e];exact Fo _
  rw[AQ.mp e];exact Ff hlt
 ·have hi:its[i]? = some v:=by simpa using hP
  have hib:i<ns.length:=by have:=(AN.mp hi).1;lia
  obtain⟨u',hu',ru⟩:=rv.get (i:=i) (x:=.int ns[i]) (by simp[hib]);rw[hi]at hu';cases hu';obtain⟨t,rfl⟩:=ru;exact⟨t,by simp[List.getD,hib]⟩
 have e1:preSum (λi=>ns.getD i 0) its.toArray.size=ns.sum:=by rw[Bx,<- hlen,To ns _ (Am _),Bq]
 rw[e1];rw[Moved.eq_with hm];refine⟨.int _,H,I.kept (t':=s'.toks) (λb o e=>hm.heap b o ?_ (AG _ e)),⟨_,rfl⟩,q⟩;intro z;rw[AQ]at z;exact absurd (AF e) (by rw[z];exact C7 _)
def Zz (hu:X.A.units+64<cLine):By X (compareOp .NotEq) (λx y H Q=>∃(a b:Addr) (us vs:List V) (ds es:List PyData),x=.ref a/\y=.ref b/\H a=some (.lst us)/\H b=some (.lst vs)/\RdVs H us ds/\RdVs H vs es /\
  PySem.SeqAt.shaped (.list ds)=true/\PySem.SeqAt.shaped (.list es)=true/\Q (.bl (!PyData.eqv (.list ds) (.list es))) H):=by
 intro aa s σ H x y v u Q I rx ry h
 obtain⟨a,b,us,vs,ds,es,rfl,rfl,ha,hb,rd,re,h1,h2,q⟩:=h
 cases rx
 cases ry
 obtain⟨as,ra⟩:=Te I.hok ha rd
 obtain⟨bs,rb⟩:=Te I.hok hb re
 exact PySem.SeqAt.compareNe_shaped ra rb h1 h2 hu ⟨.bl _,H,I,rfl,q⟩
def Vv:bootBuiltins "sum" = some (.builtin "sum"):=by decide +kernel
end
section
variable {X:Cx}
def Cu (v a:Addr):HO:=.ext λh=>h.IsItemsView v a
def hZ:Jt X "dict.items" (λx xs H Q=>∃a kvs,x=.ref a/\xs=[]/\H a=some (.dK kvs)/\∀v,H v=none->Q (.ref v) (upd H v (Cu v a))):=by intro aa s σ H x xs v us Q I rx rv h;obtain⟨a,kvs,rfl,rfl,ha,q⟩:=h;cases rx;cases rv;obtain⟨hz,hm,vs,hkv,hd⟩:=NO I.hok ha;refine N1 Ou hd.typeIs PySem.F.entry_dict_items (VJ _) (meets_dict_items (BB X.prog X.w) a hm) ⟨⟨vs,hd⟩,?_⟩;refine⟨.ref s.heap.objs.size,_,I.laid (t':=s.toks) (o:=Cu s.heap.objs.size a) (λb o e=>AG _ e) (Am _) ⟨⟨_,A7 _ rfl,rfl,rfl⟩,⟨_,A7 _ rfl⟩,λh1 h2 f e=>?_⟩,rfl,q _ (I.hok.fresh (Am _))⟩;obtain⟨o,ho,r⟩:=f;exact⟨o,e o ho,r⟩
def Jx (a:Addr)(o:Obj)(kvs:List (Ag×V)):It:=
 ⟨λi H=>i<kvs.length/\H a=some (.frz o (.dK kvs)),λi H x H'=>∃p k v,x=.ref p/\H p=none/\H'=upd H p (.tup [kV k,v])/\kvs[i]? = some (k,v),λi H=>kvs.length<=i/\H a=some (.frz o (.dK kvs))⟩
theorem Sx {P:Program}{w:World}{K:W.Frag}{elts:List Expr}{x1}{tp:Pos}(it a:Addr)(o:Obj)(kvs:List (Ag×V))(es:Array DictEntry)(ep:Nat)(hd:o.data=.dict es ep) :
  FS P w K (.Tuple elts x1 tp) (Jx a o kvs) [it] it (λi h=>∃ok ov,IsItemIter h it a i kvs.length ep ok ov) where
 mem:=by simp
 obj:=λi h st b hb=>by
  have e:b=it:=by simpa using hb
  subst e;obtain⟨_,_,st⟩:=st;exact⟨_,st,λv z=>nomatch z⟩
 keep:=λi h h' st k=>by obtain⟨ok,ov,st⟩:=st;exact⟨ok,ov,k it (by simp) _ st⟩
 item:=by
  intro X hP hw hK hc i aa s σ H E I hf st hg;subst hP hw hK;obtain⟨hi,ha⟩:=hg;obtain⟨ok,ov,st⟩:=st;obtain⟨vs,hkv,hat⟩:=U5 I ha hd;have hl:=hkv.length;have hx:kvs[i]? = some (kvs[i].1,kvs[i].2):=AC hi;obtain⟨u,hu,ru⟩:=KV.get2 hkv hx;rw[hl]at st;have tz:s.heap.objs.size≠it:=Dk (AF st);refine wpAny_pyNext_items_item (knd:=BB X.prog X.w) st hat hu λkey h' hk hout ht hsz kk=>?_;refine⟨_,rfl,wpAny_letOwnedTupleGo_items (s:={ s with heap:=h' }) hout λh'' g6 sb=>?_⟩
  have rk:RelV (kV kvs[i].1) key:=by
   rcases Di (show DY kvs[i].1 key=true from hk)with⟨j,t,e1,e2⟩ | ⟨y,t,e1,e2⟩
   ·rw[e1,e2];exact⟨t,rfl⟩
   rw[e1,e2];exact⟨t,rfl⟩
  have kall:∀c o,c∉[it]->s.heap.get? c=some o->h''.get? c=some o:=λc o hc e=>by have hc':c≠it:=λz=>hc (by rw[z];exact AQ.mpr rfl);exact sb.extBut _ _ hc' (kk c o hc' e)
  have new:ObjOk X.prog X.w (upd H s.heap.objs.size (.tup [kV kvs[i].1,kvs[i].2])) h'' s.heap.objs.size (.tup [kV kvs[i].1,kvs[i].2]):=
   ⟨by show 2<=sizeLine;decide,[key,u],.cons rk (.cons ru .nil),_,sb.extBut _ _ tz ht,rfl,0,rfl⟩
  have fr:H s.heap.objs.size=none:=I.hok.fresh (Am _);rw[<- hl]at g6;refine⟨.ref s.heap.objs.size,_,I.stepN (t':=s.toks) hf kall new,rfl,⟨_,_,_,rfl,fr,rfl,hx⟩,⟨_,_,g6⟩,λc hc=>?_⟩;have e:c=it:=by simpa using hc
  rw[Aj (by rw[e];exact tz.symm)];exact(hf c hc).1
 done:=by intro X hP hw hK hc i aa s σ H E I hf st hg;subst hP hw hK;obtain⟨hi,ha⟩:=hg;obtain⟨ok,ov,st⟩:=st;obtain⟨vs,hkv,hat⟩:=U5 I ha hd;have hl:=hkv.length;rw[hl]at st;exact wpAny_pyNext_items_end (knd:=BB X.prog X.w) (I.ok.hd hc) st hat (Gq (by lia)) λh' eb=>⟨rfl,I.stepL (t':=s.toks) hf λc o hc e=>eb c o (λz=>hc (by rw[z];exact AQ.mpr rfl)) e⟩
 self:=λ_ _ _ _ _ st h=>by obtain⟨ok,ov,st⟩:=st;refine Ro ⟨_,st,rfl⟩ VS (Fg VS ⟨_,st,rfl⟩ PySem.W.kcp_entry ?_ (PySem.F.args_dict_itemiterator_iter_1 _));show wpAny _ _ (ret (.ref it)) _ _ _;exact An ⟨_,rfl, "dict_itemiterator",_,⟨_,st,rfl⟩,PySem.F.slot_dict_itemiterator_next.lookup,h⟩
end
end L2
namespace EN
open PySem PyProof.Rows
theorem draws (hh:A.handled=none)(it l:Addr)(hne:l≠it)(items:Array Value) :
  Draws prog w A it [it,l] items.size (λi v=>items[i]? = some v) (λi h=>h.IsTupleIter it l i/\h.IsTuple l items) where
 live:=λ_ _ st=>by obtain⟨⟨o,ho,_⟩,_⟩:=st;exact⟨o,ho⟩
 frame:=λ_ _ _ st hk=>by obtain⟨⟨o,ho,r⟩,o2,ho2,r2⟩:=st;exact⟨⟨o,hk it (by simp) o ho,r⟩,o2,hk l (by simp) o2 ho2,r2⟩
 item:=λi s Q E hi st hq=>by refine ZT.next_item st.1 st.2 (v:=items[i]) (by simp[hi]) λh' hit' hs'=>?_;exact hq _ h' s.toks (by simp[hi]) ⟨hit',st.2.extBut hs'.extBut hne⟩ hs'
 done:=λs Q E st hE=>ZT.next_end hh st.1 st.2 (by simp) hE
abbrev oE (it:Addr):Obj:={ cls:=.type "enumerate",data:=.fields #[.none,.bool false,.ref it,rawInt 0,.none,.none] }
def make (l:Addr)(items:Array Value) :
  Meets (Builtin.«enumerate.__new__» ⟨[.type "enumerate",.ref l],[]⟩) (λ_ R s=>s.heap.IsTuple l items /\ R (.ok (.ret (.ref (s.heap.push (ZT.zI l)).objs.size))) { s with heap:=(s.heap.push (ZT.zI l)).push (oE s.heap.objs.size) }):=
 .of_wp λprog w A R s h=>by
  (obtain⟨hp,g,d,tk,os⟩:=s);obtain⟨hl,h⟩:=h;have hsub:=sub_enumerate;have hT:Heap.IsTuple (Shared.heap ⟨hp,g,d,tk,os⟩) l items:=hl;obtain⟨⟨c,dct,dt,sl⟩,ho,hc,n,hd⟩:=id hl;replace hc:c=.type "tuple" := hc;replace hd:dt=.seq items n:=(hd);subst hc hd;wp_walk using Ow ho;(refine wpAny_stack_any λst=>An ?_);split
  ·rename_i c _ _ _ _ _;cases ((c == Value.type "enumerate"))
   ·wp_walk using Ow ho,Om hT;exact⟨_,rfl,h⟩
   wp_walk using Ow ho,Om hT;exact⟨_,rfl,h⟩
  wp_walk using Ow ho,Om hT;exact⟨_,rfl,h⟩
end EN
namespace L2
open PySem PyProof.Rows
section
variable {X:Cx}
def Jy (K:W.Frag)(a:Addr):It:=
 ⟨λi H=>∃xs x,SqT K H a xs/\xs[i]? = some x,λi H v H'=>∃p x,v=.ref p/\H p=none/\H'=upd H p (.tup [.int (i:Nat),x])/\∀xs,SqT K H a xs->xs[i]? = some x,λi H=>∃xs,SqT K H a xs/\xs.length=i⟩
theorem Wt {P:Program}{w:World}{K:W.Frag}{elts:List Expr}{x1}{tp:Pos}(e it a:Addr)(hne:e≠it):FS P w K (.Tuple elts x1 tp) (Jy K a) [e,it] e (λi h=>(∃old,IsEnum h e it (i:Nat) old)/\h.IsTupleIter it a i) where
 mem:=by simp
 obj:=λn h st c hc=>by
  obtain⟨⟨old,h1⟩,o4,e4,_,d4⟩:=st;simp only[AK,Bw,Bv]at hc;rcases hc with rfl | rfl
  ·exact⟨_,h1,λv e=>nomatch e⟩
  exact⟨_,e4,λv e=>by rw[d4]at e;cases e⟩
 keep:=λn h h' st k=>by obtain⟨⟨old,h1⟩,o4,e4,r4⟩:=st;exact⟨⟨old,k e (by simp) _ h1⟩,o4,k it (by simp) _ e4,r4⟩
 item:=by
  intro X hP hw hK hc n aa s σ H E I hf st hg;subst hP hw hK;obtain⟨xs,x,qa,hx⟩:=hg;obtain⟨⟨old,h1⟩,h4⟩:=st;obtain⟨its,rv,pa,_⟩:=I.tuple qa;obtain⟨u,hu,ru⟩:=rv.get hx;have off:∀c∈[e,it],a≠c:=λc hc z=>I.fpT qa (z ▸ hf c hc);have ne1:=off e (by simp);have ne2:=off it (by simp);have hl:n<its.toArray.size:=by have:=(AN.mp hu).1;simpa using this
  have tz:s.heap.objs.size≠e:=Dk (AF h1);refine wpAny_pyNext_enum_itemD (EN.draws (A:=X.A.in1) (show X.A.in1.handled=none from I.ok.hd hc) it a ne2 its.toArray) h1 ⟨h4,(show s.heap.IsTuple a its.toArray from pa)⟩ hl hne (by simp only[AK,Bw,Bv,Fk];exact⟨hne,ne1.symm⟩) λy h' tk hP hout hst' ht hsz kk=>?_
  have hy:y=u:=by
   have h2:its[n]? = some y:=by simpa using hP
   rw[hu]at h2;exact(BS h2).symm
  subst hy;refine⟨_,rfl,wpAny_letOwnedTupleGo_enum (s:={ s with heap:=h',toks:=tk+1 }) hout λh'' g6 sb=>?_⟩;have kall:∀c o,c∉[e,it]->s.heap.get? c=some o->h''.get? c=some o:=λc o hc z=>by simp only[AK,Bw,Bv,Fk]at hc;exact sb.extBut _ _ hc.1 (kk c o hc.1 hc.2 z)
  have new:ObjOk X.prog X.w (upd H s.heap.objs.size (.tup [.int (n:Nat),x])) h'' s.heap.objs.size (.tup [.int (n:Nat),x]):=
   ⟨by show 2<=sizeLine;decide,[.int n tk,y],.cons ⟨tk,rfl⟩ (.cons ru .nil),_,sb.extBut _ _ tz ht,rfl,0,rfl⟩
  have fr:H s.heap.objs.size=none:=I.hok.fresh (Am _);obtain⟨oi,ei,ri⟩:=hst'.1;have lt2:it<s.heap.objs.size:=by obtain⟨o4,e4,_⟩:=h4;exact AF e4
  refine⟨.ref s.heap.objs.size,_,I.stepN (t':=tk+1) hf kall new,rfl,⟨_,x,rfl,fr,rfl,λzs hz=>by rw[I.tuple_inj hz qa];exact hx⟩,⟨⟨_,by simpa using g6⟩,oi,sb.extBut _ _ hne.symm ei,ri⟩,λc hc=>?_⟩
  have hcn:c≠s.heap.objs.size:=by
   simp only[AK,Bw,Bv]at hc;rcases hc with rfl | rfl
   ·exact tz.symm
   exact AY lt2
  rw[Aj hcn];exact(hf c hc).1
 done:=by
  intro X hP hw hK hc n aa s σ H E I hf st hg;subst hP hw hK;obtain⟨xs,qa,hx⟩:=hg;obtain⟨⟨old,h1⟩,h4⟩:=st;obtain⟨its,rv,pa,_⟩:=I.tuple qa;have hl:=rv.length;have hsz:its.toArray.size=n:=by simp;lia
  have off:∀c∈[e,it],a≠c:=λc hc z=>I.fpT qa (z ▸ hf c hc);refine wpAny_pyNext_enum_endD (EN.draws (A:=X.A.in1) (show X.A.in1.handled=none from I.ok.hd hc) it a (off it (by simp)) its.toArray) h1 ⟨by rw[hsz];exact h4,(show s.heap.IsTuple a its.toArray from pa)⟩ λh' eb=>⟨rfl,I.stepL (t':=s.toks) hf λc o hc z=>eb c o (λq=>hc (by rw[q];simp)) z⟩
 self:=λ_ _ _ _ _ st h=>by obtain⟨⟨old,h1⟩,_⟩:=st;exact wpAny_pyIter_enum h1 h
def kT (K:W.Frag)(ta:TA):TI:=λσ H R=>ta σ H λvs H1=>∃a,vs=[.ref a]/\(∃xs,SqT K H1 a xs)/\R (Jy K a) H1
def Qq {x1}(hg:Gl X "enumerate")(hm:X.mg "enumerate" = none)(hv:bootBuiltins "enumerate" = some (.type "enumerate"))(ha:PA X [a] ta)
  (hs:starEach [a] X.env=[(false,eval a X.env)]:=by rfl):PI X (.Tuple elts x1 tp) (.Call (.Name "enumerate" p) [a] [] pos) (kT X.K ta):=by
 intro aa s σ H R I h
 refine Call_ (FF I hg hm hv (Ja (Ap (ha pos aa s σ H _ I h) λus s1 hp0=>?_) (by rw[hs];rfl) (by rfl)))
 obtain⟨vs,H1,I1,r1,q1⟩:=hp0
 obtain⟨x,rfl,⟨xs,qa⟩,q⟩:=q1
 obtain⟨u,rfl,ru⟩:=CV r1
 cases ru
 obtain⟨its,r2,pa,_⟩:=I1.tuple qa
 refine callType_new F.called_enumerate (by decide) (F.typeCall_enumerate_1 _) (F.newCall_enumerate_1 _) (λobj=>F.args_object_init_2 obj _) F.entry_enumerate_new (EN.make x its.toArray) ⟨show s1.heap.IsTuple x its.toArray from pa,?_⟩
 have e1:(s1.heap.push (ZT.zI x)).objs.size=s1.heap.objs.size+1:=Eb ..
 have g2:((s1.heap.push (ZT.zI x)).push (EN.oE s1.heap.objs.size)).get? (s1.heap.push (ZT.zI x)).objs.size=some _:=A7 _ rfl
 have g1:((s1.heap.push (ZT.zI x)).push (EN.oE s1.heap.objs.size)).get? s1.heap.objs.size=some _:=AG _ (A7 _ rfl)
 have kept:∀c o,s1.heap.get? c=some o->((s1.heap.push (ZT.zI x)).push (EN.oE s1.heap.objs.size)).get? c=some o:=λc o e=>AG _ (AG _ e)
 show _/\_
 refine⟨⟨_,g2,rfl⟩,wpAny_pyIter_enum (i:=0) (old:=.none) g2 ⟨_,[_,_],_,_,H1,rfl,I1.kept (t':=s1.toks) kept,Wt _ s1.heap.objs.size x (by rw[e1];exact Dk (Fo _)),⟨⟨_,g2⟩,_,g1,rfl,rfl⟩,λc hc=>?_,q⟩⟩
 have hc':s1.heap.objs.size<=c:=by simp only[AK,Bw,Bv]at hc;rcases hc with e | e <;> (rw[e];show @LE.le Nat _ _ _;lia)
 exact I1.fpOk hc' (I1.hok.fresh hc')
end
mutual
/-- what a value reads as,lists too -/
inductive RdW (H:Hp):V->PyData->Prop
 | flat {x:V}{d:PyData}:RdV H x d->RdW H x d
 | lst {a:Addr}{xs:List V}{ds:List PyData}:H a=some (.lst xs)->RdWs H xs ds->RdW H (.ref a) (.list ds)
inductive RdWs (H:Hp):List V->List PyData->Prop
 | nil:RdWs H [] []
 | cons {x:V}{d:PyData}{xs:List V}{ds:List PyData}:RdW H x d->RdWs H xs ds->RdWs H (x::xs) (d::ds)
end
mutual
theorem RdW.reads (ok:HOk P w H h):∀{x:V}{d:PyData}{u:Value},RdW H x d->RelV x u->∃as,Reads h u d as
 | _,_,_,.flat r,ru=>r.reads ok ru
 | _,_,u,.lst (a:=a) e r,ru=>by obtain rfl:u=Value.ref a:=ru;obtain⟨z,its,n,rv,ho⟩:=ok _ _ e;obtain⟨as,ra⟩:=RdWs.reads ok r rv;exact⟨_,.list ho rfl rfl (by simpa using ra)⟩
theorem RdWs.reads (ok:HOk P w H h):∀{xs:List V}{ds:List PyData}{us:List Value},RdWs H xs ds->Vals xs us->∃as,ReadsAll h us ds as
 | _,_,_,.nil,r=>by cases r;exact⟨_,.nil⟩
 | _,_,_,.cons r rs,v=>by
  cases v with
  | cons ru rv=>obtain⟨as,ra⟩:=RdW.reads ok r ru;obtain⟨bs,rb⟩:=RdWs.reads ok rs rv;exact⟨_,.cons ra rb⟩
end
theorem RdWs.of :∀{xs:List V}{ds:List PyData},RdVs H xs ds->RdWs H xs ds
 | _,_,.nil=>.nil
 | _,_,.cons r rs=>.cons (.flat r) (RdWs.of rs)
section
variable {X:Cx}
def YO (neg:Bool):R2:=λx y H Q=>∃d e,RdW H x d/\RdW H y e/\PySem.SeqAt.shaped d=true/\PySem.SeqAt.shaped e=true/\Q (.bl (neg ^^ PyData.eqv d e)) H
def Tz (hu:X.A.units+64<cLine):By X (compareOp .Eq) (YO false):=by intro aa s σ H x y v u Q I rx ry h;obtain⟨d,e,rd,re,h1,h2,q⟩:=h;obtain⟨as,ra⟩:=rd.reads I.hok rx;obtain⟨bs,rb⟩:=re.reads I.hok ry;refine VQ ra rb h1 h2 hu ⟨.bl _,H,I,rfl,?_⟩;rw[Bool.false_xor]at q;exact q
end
end L2
namespace DP
open PySem PyProof.Rows
def iU:typeLookup (.type "list") "keys" = pure none:=by rw[Jl,Js];kernel_rfl
def UY:entryFor table "dict.update.loop" = some Builtin.«dict.update.loop»:=entryFor_of_fast (by kernel_rfl)
def Nf:plainId "dict.update.loop" = true:=by decide +kernel
section
variable {prog:Program}{w:World}{A:Around}{E:Value->Shared->Prop}{s:Shared}
def jF (hh:A.handled=none)(ho:s.heap.get? a=some { cls:=.type "list",dict:=none,data:=.seq its n,slots:=#[] })
  (q:∀h' t',(∀b u,s.heap.get? b=some u->h'.get? b=some u)->Q none { s with heap:=h',toks:=t' }):wpAny (model prog w) A (getAttr? (.ref a) "keys") Q E s:=by
 (obtain⟨hp,g,d,tk,os⟩:=s)
 have ty:∀k,(⟨hp,g,d,k,os⟩:Shared).TypeIs (.ref a) "list" := λ_=>⟨_,ho,rfl⟩
 have f1:=sub_AttributeError
 (have f3:=RY.lookup)
 (have f4:=RY.bind (.ref a))
 (have f5:=am_list_getattr_none)
 (unfold getAttr? getAttrBy? getAttrBy)
 repeat (any_goals (first | assumption | exact ty _ | ((with_reducible show wpAny _ _ (call (Value.builtin "list.__getattribute__") _ _) _ _ _);refine call_meets RY (ty _) am_entry_list_getattribute (F.args_list_getattribute_2 _ _) (meets_getattribute_miss_list a its n #[] "keys" _ iU (by decide +kernel) (by rw[AL];decide +kernel)) ⟨ho,hh,λh9 k9 e9 x9=>?_⟩) | wp_step))
 obtain⟨t8,u8,he⟩:=x9.there
 have kp:=x9.of
 (show wpAny _ _ (getattributeRaised _ _ _ _ _ _ _) _ _ _)
 unfold getattributeRaised
 (repeat (any_goals (first | assumption | wp_step)))
 exact q _ _ x9.keeps
end
section
variable {prog:Program}{w:World}{κ:Type} [DecidableEq κ] {knd:KeyKind prog w κ}{A:Around}{R:Result->Shared->Prop}
def put (kvs:List (κ×Value)):List (κ×Value):=kvs.foldl (λacc p=>stored acc p.1 p.2) []
def YX (kvs:List (κ×Value))(p:κ×Value):put (kvs++[p])=stored (put kvs) p.1 p.2:=by unfold put;rw[Rn];rfl
def Xm (kvs:List (κ×Value))(k:κ)(v:Value):(stored kvs k v).length<=kvs.length+1:=by
 unfold stored;split
 ·rw[Al];lia
 rw[AR];exact Am _
def YY:∀kvs:List (κ×Value),(put kvs).length<=kvs.length:=by
 have go:∀(kvs acc:List (κ×Value)),(kvs.foldl (λacc p=>stored acc p.1 p.2) acc).length<=acc.length+kvs.length:=by
  intro kvs;induction kvs with
  | nil=>exact λacc=>Am _
  | cons p r ih=>intro acc;have h1:=ih (stored acc p.1 p.2);have h2:=Xm acc p.1 p.2;(rw[Hd,CF]);lia
 intro kvs;have:=go kvs [];rw[length_nil,LB]at this;exact this
def loop {I l D:Addr}{items:Array Value}{kvs:List (κ×Value)}{h0:Heap}(hh:A.in1.handled=none)(n1:l≠I)(n2:D≠I)(n3:D≠l)(hz:kvs.length<=1000000)(hl:items.size=kvs.length)
  (tup:∀(i:Nat) (k:κ) (v:Value),kvs[i]? = some (k,v)->∃t key n o,items[i]? = some (.ref t)/\t≠D/\t≠I/\knd.is k key=true/\h0.get? t=some o/\o.cls=.type "tuple" /\ o.data=.seq #[key,v] n) :
  ∀(m i:Nat) (s:Shared),kvs.length-i=m->i<=kvs.length->s.heap.IsListIter I l i->s.heap.IsList l items->s.heap.DictOf knd D (put (kvs.take i))->(∀b o,b≠D->b≠I->h0.get? b=some o->s.heap.get? b=some o) ->
   (∀(h':Heap) (t':Nat),h'.DictOf knd D (put kvs)->(∀b o,b≠D->b≠I->s.heap.get? b=some o->h'.get? b=some o)->R (.ok (.ret .none)) { s with heap:=h',toks:=t' }) ->
   codeAny (model prog w) A (.builtin "dict.update.loop" ⟨[.ref D,.ref I,.int (i:Nat) 0,.none],[]⟩) R s:=by
 intro m
 induction m with
 | zero=>
  intro i s hm hi st hL hd kp fin;obtain rfl:i=kvs.length:=by lia
  rw[Bq]at hd;refine ES UY ?_;rw[FL Nf _];refine Ad (m:=pyNext (.ref I)) (wpAny_pyNext_list_end hh st hL (by simp[hl]) λh1 e1=>?_);show wpAny _ _ (Builtin.Dict.addKeywords D [] >>= λ_=>ret Value.none) _ _ _;refine Ad (m:=Builtin.Dict.addKeywords D []) (An (An (fin h1 s.toks ?_ λb o c1 c2 e=>e1 b o c2 e)));exact hd.extBut e1 n2
 | succ m ih=>
  intro i s hm hi st hL hd kp fin;have lt:i<kvs.length:=by lia
  obtain⟨t,key,n,o,hit,td,tI,hk,ht,hcl,hdt⟩:=tup i kvs[i].1 kvs[i].2 (AC lt);have ht1:=kp t _ td tI ht;refine ES UY ?_;rw[FL Nf _];refine Ad (m:=pyNext (.ref I)) (wpAny_pyNext_list_item st hL hit λh1 st1 sb=>?_);have ht2:=sb.extBut _ _ tI ht1;have e1:put (kvs.take (i+1))=stored (put (kvs.take i)) kvs[i].1 kvs[i].2:=by rw[BK lt,YX]
  have hln:=YY (kvs.take i);rw[BO]at hln;refine Ad (Dl (Ad (wpAny_tryCatch ?_)));unfold Builtin.Dict.pairItems;refine Ad (Jf (T := "tuple") ⟨_,ht2,hcl⟩ ?_);rw[AB (by decide)];refine Ad (Jh ht2 hdt (An ?_));refine Dl (wpAny_dictSet_pairs (s:={ s with heap:=h1 }) hk (hd.sameBut sb n2) (λh2 hd2 sb2=>?_) (by rw[AL];lia));rw[<- e1]at hd2;refine An ⟨FP Nf _,ih (i+1) _ (by lia) lt (st1.extBut sb2.extBut n2.symm) ((hL.extBut sb.extBut n1).extBut sb2.extBut n3.symm) hd2 (λb o c1 c2 e=>sb2.extBut _ _ c1 (sb.extBut _ _ c2 (kp b o c1 c2 e))) λh3 t3 d3 k3=>fin h3 t3 d3 λb o c1 c2 e=>k3 b o c1 c2 (sb2.extBut _ _ c1 (sb.extBut _ _ c2 e))⟩
end
section
variable {prog:Program}{w:World}{κ:Type} [DecidableEq κ] {knd:KeyKind prog w κ}{A:Around}{E:Value->Shared->Prop}{s:Shared}
def make (hh:A.handled=none)(ho:s.heap.get? l=some { cls:=.type "list",dict:=none,data:=.seq items n,slots:=#[] })(hz:kvs.length<=1000000)(hl:items.size=kvs.length)
  (tup:∀(i:Nat) (k:κ) (v:Value),kvs[i]? = some (k,v)->∃t key n o,items[i]? = some (.ref t)/\knd.is k key=true/\s.heap.get? t=some o/\o.cls=.type "tuple" /\ o.data=.seq #[key,v] n)
  (q:∀(h':Heap) (tk:Nat),h'.DictOf knd s.heap.objs.size (put kvs)->(∀b o,s.heap.get? b=some o->h'.get? b=some o)->Q (.ref s.heap.objs.size) { s with heap:=h',toks:=tk }) :
  wpAny (model prog w) A (call (.type "dict") [.ref l]) Q E s:=by
 refine callType_codes (Q₁:=λobj s1=>obj=.ref s.heap.objs.size/\s1={ s with heap:=s.heap.push { cls:=.type "dict",data:=.dict #[] } }) F.kt_called_dict (F.kt_typeCall_dict_1 _) F.entry_dict_init (kt_code_dict_new _ ⟨rfl,rfl⟩) ?_
 rintro obj s1 ⟨rfl,rfl⟩
 (have hnew:(s.heap.push { cls:=.type "dict",data:=.dict #[] }).DictOf knd s.heap.objs.size []:=Heap.DictOf.new s.heap)
 (refine⟨hnew.typeIs,F.args_dict_init_2 _ _,?_⟩)
 (unfold Builtin.«dict.__init__»)
 refine Ad ?_
 (unfold Builtin.Dict.selfAndRest)
 (refine Ad (wpAny_notOrdered_dict hnew.typeIs ?_))
 show wpAny _ _ (pure (s.heap.objs.size,[Value.ref l])) _ _ _
 refine An ?_
 show wpAny _ _ (Builtin.Dict.updateFrom "dict.__init__" s.heap.objs.size (.ref l) [] .none) _ _ _
 (unfold Builtin.Dict.updateFrom)
 have ho1:(s.heap.push { cls:=.type "dict",data:=.dict #[] }).get? l=some { cls:=.type "list",dict:=none,data:=.seq items n,slots:=#[] }:=AG _ ho
 refine Ad (Jf (T := "list") ⟨_,ho1,rfl⟩ ?_)
 rw[AB (by decide)]
 refine Ad (jF (show A.in1.in1.handled=none from hh) ho1 λh2 t2 k2=>?_)
 rw[AB (show(none:Option Value).isNone=true from rfl)]
 refine Ad (Ls ?_)
 have hL2:h2.IsList l items:=⟨_,k2 _ _ ho1,rfl,n,rfl⟩
 refine Ad (Jn hL2 ?_)
 have lD:s.heap.objs.size<h2.objs.size:=by obtain⟨od,_,_,hod,_⟩:=hnew;exact AF (k2 _ _ hod)
 have ll:l<s.heap.objs.size:=AF ho
 have kp:∀b o,s.heap.get? b=some o->(h2.push { cls:=.type "list_iterator",data:=.fields #[.ref l,.int 0 0] }).get? b=some o:=λb o e=>AG _ (k2 _ _ (AG _ e))
 have hd2:(h2.push { cls:=.type "list_iterator",data:=.fields #[.ref l,.int 0 0] }).DictOf knd s.heap.objs.size []:=by obtain⟨od,es,ep,hod,r⟩:=hnew;exact⟨od,es,ep,AG _ (k2 _ _ hod),r⟩
 refine An ⟨FP Nf _,loop (knd:=knd) (kvs:=kvs) (h0:=s.heap) (I:=h2.objs.size) (l:=l) (D:=s.heap.objs.size) (items:=items) (show A.in1.in1.handled=none from hh) (AY (G6 ll lD)) (AY lD) (Dk ll) hz hl (λi k v e=>?_) (kvs.length-0) 0 _ rfl (Bk _) ⟨_,A7 _ rfl,rfl,rfl⟩ (hL2.push _) hd2 (λb o _ _ e=>kp b o e) λh3 t3 d3 k3=>⟨rfl,q h3 t3 d3 λb o e=>k3 b o (AY (AF e)) (AY (G6 (AF e) lD)) (kp b o e)⟩⟩
 obtain⟨t,key,n,o,a1,a2,a3,a4,a5⟩:=tup i k v e
 exact⟨t,key,n,o,a1,AY (AF a3),AY (G6 (AF a3) lD),a2,a3,a4,a5⟩
end
end DP
namespace L2
open PySem PyProof.Rows
section
variable {X:Cx}
def putAll (kvs:List (Ag×V)):List (Ag×V):=kvs.foldl (λacc p=>Cm acc p.1 p.2) []
def KV.putAll:∀{kvs:List (Ag×V)}{vs:List (Ag×Value)},KV kvs vs->KV (L2.putAll kvs) (DP.put vs):=by
 have go:∀{kvs:List (Ag×V)}{vs:List (Ag×Value)}{a:List (Ag×V)}{b:List (Ag×Value)},KV kvs vs->KV a b->KV (kvs.foldl (λacc p=>Cm acc p.1 p.2) a) (vs.foldl (λacc p=>stored acc p.1 p.2) b):=by
  intro kvs;induction kvs with
  | nil=>intro vs a b r ra;cases r;exact ra
  | cons p r ih=>
   intro vs a b rr ra;cases rr with
   | cons h t=>rw[Hd,Hd,<- h.1];exact ih t (ra.put _ h.2)
 intro kvs vs r;exact go r .nil
theorem Sr:∀{ts:List Addr}{us:List Value},Vals (ts.map V.ref) us->us=ts.map Value.ref
 | [],_,r=>by cases r;rfl
 | t::ts,_,r=>by
  cases r with
  | cons h q=>cases h;rw[Sr q];rfl
def YZ (kvs:List (Ag×V)):(L2.putAll kvs).length<=kvs.length:=by
 have go:∀(kvs a:List (Ag×V)),(kvs.foldl (λacc p=>Cm acc p.1 p.2) a).length<=a.length+kvs.length:=by
  intro kvs;induction kvs with
  | nil=>exact λa=>Am _
  | cons p r ih=>intro a;have h1:=ih (Cm a p.1 p.2);have h2:=QH a p.1 p.2;(rw[Hd,CF]);lia
 have:=go kvs [];rw[length_nil,LB]at this;exact this
theorem Tu (ok:HOk P w H h):∀(ts:List Addr) (kvs:List (Ag×V)),ts.length=kvs.length->(∀(i:Nat) (t:Addr) (k:Ag) (v:V),ts[i]? = some t->kvs[i]? = some (k,v)->H t=some (.tup [kV k,v])) ->
  ∃vs:List (Ag×Value),KV kvs vs/\∀(i:Nat) (k:Ag) (v:Value),vs[i]? = some (k,v)->∃t key n o,ts[i]? = some t/\(BB P w).is k key=true/\h.get? t=some o/\o.cls=.type "tuple" /\ o.data=.seq #[key,v] n
 | [],[],_,_=>⟨[],.nil,λi k v e=>by simp at e⟩
 | [],_::_,hl,_=>by cases hl
 | _::_,[],hl,_=>by cases hl
 | t::ts,(k,v)::kvs,hl,hh=>by
  obtain⟨vs,r,q⟩:=Tu ok ts kvs (Nat.succ.inj hl) λi t' k' v' h1 h2=>hh (i+1) t' k' v' (by simpa using h1) (by simpa using h2);obtain⟨z,its,rv,o,ho,hc,n,hd⟩:=ok t _ (hh 0 t k v rfl rfl);obtain⟨uk,uv,rfl,rk,rv'⟩:=Fq rv;refine⟨(k,uv)::vs,.cons ⟨rfl,rv'⟩ r,λi k' v' e=>?_⟩;cases i with
  | zero=>cases e;exact⟨t,uk,n,o,rfl,FG rk,ho,hc,hd⟩
  | succ i=>obtain⟨t',key,n',o',b1,b2⟩:=q i k' v' (by simpa using e);exact⟨t',key,n',o',by simpa using b1,b2⟩
def NS (hc:X.calm=true):Cj X (.type "dict") (λxs H Q=>∃(p:Addr) (ts:List Addr) (kvs:List (Ag×V)),xs=[.ref p]/\H p=some (.lst (ts.map V.ref))/\ts.length=kvs.length/\kvs.length<=1000 /\
  (∀(i:Nat) (t:Addr) (k:Ag) (v:V),ts[i]? = some t->kvs[i]? = some (k,v)->H t=some (.tup [kV k,v]))/\∀d,H d=none->Q (.ref d) (upd H d (.dK (putAll kvs)))):=by
 intro aa s σ H xs us Q I r h
 obtain⟨p,ts,kvs,rfl,hp,hl,hz,ht,q⟩:=h
 obtain⟨u,rfl,ru⟩:=CV r
 cases ru
 obtain⟨z,its,n,rv,hlen,e⟩:=I.lstM hp
 obtain⟨vs,rk,at'⟩:=Tu I.hok ts kvs hl ht
 have ei:=Sr rv
 subst ei
 have hlv:=rk.length
 rw[Al]at hlen
 refine DP.make (knd:=BB X.prog X.w) (kvs:=vs) (I.ok.hd hc) e (by lia) (by rw[Bx,Al];lia) (λi k v ev=>?_) λh' tk hd kp=>?_
 ·obtain⟨t,key,n',o,b1,b2,b3,b4,b5⟩:=at' i k v ev;exact⟨t,key,n',o,by rw[Rh,AV,b1];rfl,b2,b3,b4,b5⟩
 have hp2:=YZ kvs
 have hs:sizeLine=16777216:=AL
 have big:=I.big
 refine⟨.ref _,_,I.laid (a:=s.heap.objs.size) (o:=.dK (putAll kvs)) (t':=tk) kp (Am _) ⟨by lia,?_,_,KV.putAll rk,hd⟩,rfl,q _ (I.hok.fresh (Am _))⟩
 exact G4.mpr (Dk big)
end
end L2
namespace LP
open PySem PyProof.Rows
end LP
namespace L2
open PySem PyProof.Rows
end L2
namespace SI
open PySem PySem.W PyProof.Rows
def run {α:Type}(f:Nat->Nat->Bool):KasT α->α
 | .ret a=>a
 | .ask i j k=>run f (k (f i j))
def EI {α:Type}(n:Nat):KasT α->Bool
 | .ret _=>true
 | .ask i j k=>(decide (i<n) && decide (j<n) && decide (i≠j)) && (EI n (k true) && EI n (k false))
def Uz {α:Type}{n:Nat}{k:Bool->KasT α}(h:(EI n (k true) && EI n (k false))=true)(b:Bool):EI n (k b)=true:=by
 rw[B8]at h;cases b with
 | true=>exact h.1
 | false=>exact h.2
theorem S3 {α:Type}{n:Nat}{f:Nat->Nat->Bool}{cmp:Nat->Nat->(Bool->Shared->Prop)->Shared->Prop}{Q:α->Shared->Prop}{s:Shared}(hc:∀i j (C:Bool->Shared->Prop),i<n->j<n->i≠j->C (f i j) s->cmp i j C s) :
  ∀t:KasT α,EI n t=true->Q (run f t) s->t.kasWp cmp Q s
 | .ret _,_,h=>h
 | .ask i j k,g,h=>by unfold EI at g;rw[B8,B8,B8]at g;have g2:=g.2;exact hc i j _ (BF g.1.1.1) (BF g.1.1.2) (BF g.1.2) (S3 hc (k (f i j)) (Uz g2 _) h)
theorem Qd {α:Type}{n:Nat}{f g:Nat->Nat->Bool}(hc:∀i j,i<n->j<n->i≠j->f i j=g i j):∀t:KasT α,EI n t=true->run f t=run g t
 | .ret _,_=>rfl
 | .ask i j k,q=>by unfold EI at q;rw[B8,B8,B8]at q;have g2:=q.2;show run f (k (f i j))=run g (k (g i j));rw[hc i j (BF q.1.1.1) (BF q.1.1.2) (BF q.1.2)];exact Qd hc _ (Uz g2 _)
def UB:EI 2 (kas_sort 2)=true:=by decide +kernel
def UA:EI 3 (kas_sort 3)=true:=by decide +kernel
def f3 (a b c:Bool):Nat->Nat->Bool
 | 0,1=>a
 | 1,0=>!a
 | 0,2=>b
 | 2,0=>!b
 | 1,2=>c
 | 2,1=>!c
 | _,_=>false
def Gx (f:Nat->Nat->Bool)(p:List Nat)(n:Nat):Bool:=decide (p.Perm (List.range n)) && (p.zip p.tail).all λq=>f q.1 q.2
def s2:∀a:Bool,Gx (f3 a false false) (run (f3 a false false) (kas_sort 2)).toList 2=true:=by decide +kernel
def s3:∀a b c:Bool,(!(a && c && !b) && !(!a && !c && b))=true->Gx (f3 a b c) (run (f3 a b c) (kas_sort 3)).toList 3=true:=by decide +kernel
section
variable {prog:Program}{w:World}{A:Around}{E:Value->Shared->Prop}{s:Shared}
def Xs (ho:s.heap.get? a=some (seqObj "list" vs.toArray n))(h3:vs.length<=3)
  (ask:2<=vs.length->∀h',(∀b o,b≠a->s.heap.get? b=some o->h'.get? b=some o)->wpAny (model prog w) A (keyKind' vs.toArray) (λκ s'=>s'={ s with heap:=h' }/\∀i j (C:Bool->Shared->Prop),i<vs.length->j<vs.length->i≠j->C (f i j) s'->kas_ask prog w A κ vs i j C s') (λ_ _=>False) { s with heap:=h' })
  (fin:∀h' c (p:List Nat),p.length=vs.length->(2<=vs.length->p=(run f (kas_sort vs.length)).toList)->(vs.length<2->p=List.range vs.length)->(∀b o,b≠a->s.heap.get? b=some o->h'.get? b=some o)->h'.get? a=some (seqObj "list" (p.map λi=>vs.getD i Value.none).toArray c)->P (.done (.ret .none)) { s with heap:=h' }) :
  (wpAny (model prog w) A (Builtin.«list.sort» ⟨[.ref a],[]⟩) P E s):=by
 (have ha:a<s.heap.objs.size:=AF ho)
 have o1:=G3 s.heap a (Obj.mapSeq λ_=>(#[]:Array Value))
 (obtain⟨e1,ho1⟩:∃e1,(s.heap.update a (Obj.mapSeq λ_=>(#[]:Array Value))).get? a=some (seqObj "list" #[] e1):=⟨_,get?_update_seq ho λ_=>#[]⟩)
 rw[list_sort_plain]
 (refine Ad (listItems_at ho rfl ?_))
 (refine Ad (listUpdate_at ho rfl ?_ (by rw[Bx,AL];lia) (Bk _)))
 (refine Ad (seqEpoch_at ho1 rfl ?_))
 (refine Ad (wpAny_newTuple ?_ (by show vs.length<=_;rw[AL];lia)))
 (refine Ad (N2 ?_ (Bk _)))
 refine Dl ?_
 have keep:∀b o,b≠a->s.heap.get? b=some o->(((s.heap.update a (Obj.mapSeq λ_=>(#[]:Array Value))).push (seqObj "tuple" vs.toArray 0)).push (seqObj "list" #[] 0)).get? b=some o:=λb o hb e=>AG _ (AG _ ((o1.2 b hb).trans e))
 have hoa:(((s.heap.update a (Obj.mapSeq λ_=>(#[]:Array Value))).push (seqObj "tuple" vs.toArray 0)).push (seqObj "list" #[] 0)).get? a=some (seqObj "list" #[] e1):=AG _ (AG _ ho1)
 (show wpAny (model prog w) A _ P E { s with heap:=((s.heap.update a (Obj.mapSeq λ_=>(#[]:Array Value))).push (seqObj "tuple" vs.toArray 0)).push (seqObj "list" #[] 0) })
 generalize ((s.heap.update a (Obj.mapSeq λ_=>(#[]:Array Value))).push (seqObj "tuple" vs.toArray 0)).push (seqObj "list" #[] 0)=h1 at keep hoa ⊢
 dsimp only
 by_cases h2:vs.length<2
 ·have hn2:vs.toArray.size<2:=by rw[Bx];exact h2
  rw[AB hn2,AB hn2];refine Ad (An ?_);refine Ad (wpAny_of_eq (a:=((),SortSt.mk' general' (vs.toArray.zip vs.toArray) #[] 7 none)) rfl ?_);dsimp only;have hout:(arrOf (SortSt.mk' general' (vs.toArray.zip vs.toArray) #[] 7 none)).map (·.2)=((List.range vs.length).map λi=>vs.getD i Value.none).toArray:=by show((vs.toArray.zip vs.toArray).map (·.2))=_;apply LN.mp;rw[Array.toList_map,Array.toList_zip,RD,List.map_snd_zip (Am _)];refine ext_getElem (by simp) λk h1 h2=>?_;simp[CJ,h1]
  rw[hout];have hp:(List.range vs.length).length=vs.length:=Dw;have o2:=G3 h1 a (Obj.mapSeq λ_=>((List.range vs.length).map λi=>vs.getD i Value.none).toArray);obtain⟨c2,hc2⟩:∃c2,(h1.update a (Obj.mapSeq λ_=>((List.range vs.length).map λi=>vs.getD i Value.none).toArray)).get? a=some (seqObj "list" ((List.range vs.length).map λi=>vs.getD i Value.none).toArray c2):=⟨_,get?_update_seq hoa λ_=>((List.range vs.length).map λi=>vs.getD i Value.none).toArray⟩;refine Ad (seqEpoch_at hoa rfl ?_);refine Ad (listUpdate_at hoa rfl ?_ (Bk _) (by rw[Bx,Al,AL];lia));show wpAny _ _ (if (e1 != e1)=true then _ else _) _ _ _;rw[Ao (by simp)];exact An (fin _ c2 _ hp (λz=>absurd h2 (by lia)) (λ_=>rfl) (λb o hb e=>(o2.2 b hb).trans (keep b o hb e)) hc2)
 have hn2:¬vs.toArray.size<2:=by rw[Bx];exact h2
 rw[Ao hn2,Ao hn2]
 refine Ad (BI (ask (by lia) h1 keep) (λκ s0 hk=>?_) λ_ _ x=>x.elim)
 obtain⟨rfl,hk⟩:=hk
 refine Ad (BI (kat_run (Q:=λst' s'=>s'={ s with heap:=h1 }/\∃p:Array Nat,p.size=vs.length/\arrOf st'=p.map (kas_item (vs.toArray.zip vs.toArray))/\failedOf st'=none/\p=run f (kas_sort vs.length)) (G:=λp s'=>s'={ s with heap:=h1 }/\p=run f (kas_sort vs.length)) rfl (by lia) (by lia) (λp st' s' a1 a2 a3 a4=>⟨a4.1,p,a1,a2,a3,a4.2⟩) (S3 hk _ ?_ ⟨rfl,rfl⟩)) ?_ λ_ _ e=>e)
 ·rcases(by lia:vs.length=2\/vs.length=3)with e | e
  ·rw[e];exact UB
  rw[e];exact UA
 rintro⟨⟨⟩,st'⟩ s' ⟨rfl,p,hp,har,hf,hpe⟩
 dsimp only
 have hout:=kat_snds rfl har
 have hp':p.toList.length=vs.length:=by rw[DM];exact hp
 rw[hout]
 have o2:=G3 h1 a (Obj.mapSeq λ_=>(p.toList.map λi=>vs.getD i Value.none).toArray)
 obtain⟨c2,hc2⟩:∃c2,(h1.update a (Obj.mapSeq λ_=>(p.toList.map λi=>vs.getD i Value.none).toArray)).get? a=some (seqObj "list" (p.toList.map λi=>vs.getD i Value.none).toArray c2):=⟨_,get?_update_seq hoa λ_=>(p.toList.map λi=>vs.getD i Value.none).toArray⟩
 refine Ad (seqEpoch_at hoa rfl ?_)
 refine Ad (listUpdate_at hoa rfl ?_ (Bk _) (by rw[Bx,Al,AL];lia))
 rw[hf]
 (simp only[Rq,Gm,G8])
 exact An (fin _ c2 _ hp' (λ_=>by rw[hpe]) (λz=>absurd z h2) (λb o hb e=>(o2.2 b hb).trans (keep b o hb e)) hc2)
def OE (h:Heap)(as:List Addr)(ks:List Str):Prop:=as.length=ks.length/\∀(i:Nat) a k,as[i]? = some a->ks[i]? = some k->∃t x,h.get? a=some { cls:=.type "tuple",data:=.seq #[.str k t,x] }
def lt (ks:List Str)(i j:Nat):Bool:=decide ((ks.getD i Str.empty).cps.toList<(ks.getD j Str.empty).cps.toList)
theorem Sy :∀{as:List Addr}{ks:List Str},OE h as ks->∃fs:List Value,KatTups h (as.map Value.ref) fs/\fs.length=ks.length/\∀v∈fs,∃k t,v=.str k t
 | [],[],_=>⟨[],.nil,rfl,λv hv=>nomatch hv⟩
 | [],_::_,h=>by have:=h.1;simp at this
 | _::_,[],h=>by have:=h.1;simp at this
 | a::as,k::ks,hp=>by
  obtain⟨t,x,e⟩:=hp.2 0 a k rfl rfl;obtain⟨fs,f1,f2,f3⟩:=Sy (as:=as) (ks:=ks) ⟨by have:=hp.1;simpa using this,λi b l hb hl=>hp.2 (i+1) b l (by simpa using hb) (by simpa using hl)⟩;refine⟨.str k t::fs,.cons e rfl rfl rfl f1,by simp[f2],λv hv=>?_⟩;rcases(AK.mp hv)with e | e
  ·exact⟨k,t,e⟩
  exact f3 v e
def Wu {ks:List Str}(hp:OE s.heap as ks)(nd:ks.Nodup)(h2:2<=as.length) :
  wpAny (model prog w) A (keyKind' (as.map Value.ref).toArray) (λκ s'=>s'=s/\∀i j (C:Bool->Shared->Prop),i<(as.map Value.ref).length->j<(as.map Value.ref).length->i≠j->C (lt ks i j) s'->kas_ask prog w A κ (as.map Value.ref) i j C s') E s:=by
 obtain⟨fs,f1,f2,f3⟩:=Sy hp
 have hl:=hp.1
 refine kat_kind (T:=.type "str") f1 (by lia) (λv hv A' Q' E' s' _ q=>?_) (by decide) ⟨rfl,λi j C hi hj hij hC=>?_⟩
 ·obtain⟨k,t,rfl⟩:=f3 v hv;exact Jf (T := "str") rfl q
 rw[Al]at hi hj
 obtain⟨t,x,e1⟩:=hp.2 i as[i] (ks[i]'(by lia)) (AC hi) (AC (by lia))
 obtain⟨u,y,e2⟩:=hp.2 j as[j] (ks[j]'(by lia)) (AC hj) (AC (by lia))
 have hne:ks[i]'(by lia)≠ks[j]'(by lia):=λz=>hij ((Ly nd).mp z)
 unfold kas_ask
 have g1:(as.map Value.ref).getD i Value.none=.ref as[i]:=by simp[CJ,hi]
 have g2:(as.map Value.ref).getD j Value.none=.ref as[j]:=by simp[CJ,hj]
 rw[g1,g2]
 refine kat_lt e1 rfl e2 rfl ?_
 show KatLex prog w A true _ C [(.str _ t,.str _ u),(x,y)] 0 s
 refine kat_cons (wpAny_eqBool_str ?_)
 rw[Cg hne]
 refine kat_no ?_
 have hC':C (decide ((ks[i]'(by lia)).cps.toList<(ks[j]'(by lia)).cps.toList)) s:=by unfold lt at hC;rw[show ks.getD i Str.empty=ks[i]'(by lia) by simp[CJ,(by lia:i<ks.length)],show ks.getD j Str.empty=ks[j]'(by lia) by simp[CJ,(by lia:j<ks.length)]]at hC;exact hC
 exact oneLt_str hC'
end
def GU {ks:List Str} (nd:ks.Nodup)(hi:i<ks.length)(hj:j<ks.length)(hij:i≠j):lt ks j i=!lt ks i j:=by
 have gi:ks.getD i Str.empty=ks[i]:=by simp[CJ,hi]
 have gj:ks.getD j Str.empty=ks[j]:=by simp[CJ,hj]
 have hne:ks[i]≠ks[j]:=λz=>hij ((Ly nd).mp z);unfold lt;rw[gi,gj];generalize ks[i]=a at hne;generalize ks[j]=b at hne;by_cases h1:a.cps.toList<b.cps.toList
 ·have h2:¬b.cps.toList<a.cps.toList:=List.lt_asymm h1;rw[Bb h1,Cg h2];rfl
 have h2:b.cps.toList<a.cps.toList:=by refine VI λh2=>hne ?_;have e:a.cps.toList=b.cps.toList:=List.le_antisymm (not_lt.mp h2) (not_lt.mp h1);have e2:a.cps=b.cps:=LN.mp e;cases a;cases b;cases e2;rfl
 rw[Cg h1,Bb h2];rfl
def T2 {ks:List Str}{i j k:Nat}(h1:lt ks i j=true)(h2:lt ks j k=true):lt ks i k=true:=Bb (List.lt_trans (BF h1) (BF h2))
def Xr {ks:List Str}(nd:ks.Nodup)(h2:2<=ks.length)(h3:ks.length<=3):Gx (lt ks) (run (lt ks) (kas_sort ks.length)).toList ks.length=true:=by
 have cong:∀(g:Nat->Nat->Bool) (n:Nat) (p:List Nat),(∀i j,i<n->j<n->i≠j->lt ks i j=g i j)->Gx g p n=true->Gx (lt ks) p n=true:=λg n p hg hs=>by
  unfold Gx at hs ⊢;rw[B8]at hs ⊢;refine⟨hs.1,?_⟩;have hperm:=BF hs.1;rw[He]at hs ⊢;have hsd:=hs.2;intro q hq;have hq2:=hsd q hq;have m1:q.1∈p:=(Lu hq).1;have m2:q.2∈p:=List.mem_of_mem_tail (Lu hq).2;have hndp:p.Nodup:=hperm.nodup_iff.mpr List.nodup_range;have hne:q.1≠q.2:=λe=>by obtain⟨k,hk⟩:=DL hq;rw[RZ,List.getElem?_tail]at hk;obtain⟨l1,e1⟩:=AN.mp hk.1;obtain⟨l2,e2⟩:=AN.mp hk.2;have:=(Ly hndp).mp (e1.trans (e.trans e2.symm));lia
  rw[hg q.1 q.2 (DO.mp (hperm.mem_iff.mp m1)) (DO.mp (hperm.mem_iff.mp m2)) hne];exact hq2
 rcases(by lia:ks.length=2\/ks.length=3)with e | e
 ·rw[e]
  have hg:∀i j,i<2->j<2->i≠j->lt ks i j=f3 (lt ks 0 1) false false i j:=λi j hi hj hij=>by
   rcases(by lia:(i=0/\j=1)\/(i=1/\j=0))with⟨rfl,rfl⟩ | ⟨rfl,rfl⟩
   ·rfl
   exact GU nd (by lia) (by lia) (by lia)
  rw[Qd hg _ UB];exact cong _ 2 _ hg (s2 _)
 rw[e]
 have hg:∀i j,i<3->j<3->i≠j->lt ks i j=f3 (lt ks 0 1) (lt ks 0 2) (lt ks 1 2) i j:=λi j hi hj hij=>by
  rcases(by lia:(i=0/\j=1)\/(i=1/\j=0)\/(i=0/\j=2)\/(i=2/\j=0)\/(i=1/\j=2)\/(i=2/\j=1))with⟨rfl,rfl⟩ | ⟨rfl,rfl⟩ | ⟨rfl,rfl⟩ | ⟨rfl,rfl⟩ | ⟨rfl,rfl⟩ | ⟨rfl,rfl⟩
  ·rfl
  ·exact GU nd (by lia) (by lia) (by lia)
  ·rfl
  ·exact GU nd (by lia) (by lia) (by lia)
  ·rfl
  exact GU nd (by lia) (by lia) (by lia)
 rw[Qd hg _ UA];refine cong _ 3 _ hg (s3 _ _ _ ?_);have f10:=GU (i:=0) (j:=1) nd (by lia) (by lia) (by lia);have f20:=GU (i:=0) (j:=2) nd (by lia) (by lia) (by lia);have f21:=GU (i:=1) (j:=2) nd (by lia) (by lia) (by lia);have t1:=@T2 ks 0 1 2;have t2:=@T2 ks 2 1 0;rw[f10,f20,f21]at t2;revert t1 t2;cases lt ks 0 1 <;> cases lt ks 0 2 <;> cases lt ks 1 2 <;> simp
section
variable {prog:Program}{w:World}{A:Around}{E:Value->Shared->Prop}{s:Shared}
def items_sorted {κ:Type}[DecidableEq κ]{knd:PySem.KeyKind prog w κ}{kvs:List (κ×Value)}{ep:Nat}{r d:Addr}{ks:List Str}{Q:Value->Shared->Prop}(hh:A.handled=none)(hv:s.heap.IsItemsView r d)(hm:s.heap.DictAt knd d kvs ep)(hn:kvs.length<=3)(hks:ks.length=kvs.length)
  (hkey:∀(j:Nat) k x key,kvs[j]? = some (k,x)->knd.is k key=true->∃y t,ks[j]? = some y/\key=.str y t)(nd:ks.Nodup)
  (h:∀(h1 h':Heap) (tk:Nat) (as:List Addr) (p:List Nat) (c:Nat),(∀b o,s.heap.get? b=some o->h1.get? b=some o)->as.length=kvs.length->KdxG knd kvs s.heap.objs.size h1 as->p.Perm (List.range kvs.length)->((p.zip p.tail).all λq=>lt ks q.1 q.2)=true->(∀b o,h1.get? b=some o->h'.get? b=some o) -> h'.get? h1.objs.size=some (seqObj "list" (p.map λi=>(as.map Value.ref).getD i Value.none).toArray c)->Q (.ref h1.objs.size) { s with heap:=h',toks:=tk }):wpAny (model prog w) A (call (.builtin "sorted") [.ref r]) Q E s:=by
 have e0:=args_sorted1 (.ref r)
 refine R1 kind_sorted plain_sorted entry_sorted e0 ?_
 unfold Builtin.«sorted»
 (refine Ad (m:=checkCount "sorted" 1 1 _) (An ?_))
 have ak:sizeLine=16777216:=AL
 refine Ad (kdx_collect (A:=A.in1) (knd:=knd) (kvs:=kvs) (ep:=ep) hh hv hm (by lia) λh1 tk as hk hl hG=>?_)
 refine Ad (N2 ?_ (by rw[Al];lia))
 have hoB:(h1.push (seqObj "list" (as.map Value.ref).toArray 0)).get? h1.objs.size=some (seqObj "list" (as.map Value.ref).toArray 0):=A7 _ rfl
 have pa:OE h1 as ks:=⟨by rw[hl,hks],λi a k ha hk'=>by obtain⟨key,k2,x,e1,e2,e3⟩:=hG.pairs i a ha;obtain⟨y,t,e4,rfl⟩:=hkey i k2 x key e1 e2;rw[hk']at e4;cases e4;exact⟨t,x,e3⟩⟩
 have inA:∀a∈as,a≠h1.objs.size:=λa ha=>AY (hG.there ha)
 refine Ad (Dl (Fg slot_list_sort ⟨_,hoB,rfl⟩ entry_list_sort ?_ (args_list_sort _)))
 refine Xs (f:=lt ks) (s:={ s with heap:=h1.push (seqObj "list" (as.map Value.ref).toArray 0),toks:=tk }) hoB (by rw[Al];lia) (λh2 h' kk=>?_) (λh' c p hp p2 p1 kk hB=>?_)
 ·rw[Al]at h2;have pa':OE h' as ks:=⟨pa.1,λi a k ha hk'=>by obtain⟨t,x,e⟩:=pa.2 i a k ha hk';exact⟨t,x,kk a _ (inA a (Bt ha)) (AG _ e)⟩⟩;exact Wu (s:={ s with heap:=h',toks:=tk }) pa' nd h2
 rw[Al]at hp p2 p1
 have ext:∀b o,h1.get? b=some o->h'.get? b=some o:=λb o e=>kk b o (AY (AF e)) (AG _ e)
 have key:p.Perm (List.range kvs.length)/\((p.zip p.tail).all λq=>lt ks q.1 q.2)=true:=by
  by_cases h2:2<=kvs.length
  ·have e:=p2 (by lia);have hs:=Xr nd (by lia) (by lia);rw[hks,<- hl,<- e]at hs;unfold Gx at hs;rw[B8]at hs;rw[<- hl];exact⟨BF hs.1,hs.2⟩
  have e:=p1 (by lia);rw[e,hl];refine⟨.refl _,?_⟩;rcases(by lia:kvs.length=0\/kvs.length=1)with z | z <;> (rw[z];rfl)
 exact⟨_,rfl,An ⟨_,rfl,h h1 h' tk as p c hk hl hG key.1 key.2 ext hB⟩⟩
end
end SI
namespace L2
open PySem PySem.W PyProof.Rows
section
variable {X:Cx}{aa:List (Addr×Obj)}{σ:St}
def OD (H:Hp)(as:List Addr)(ps:List (Str×V)):Prop:=as.length=ps.length/\∀(i:Nat) a p,as[i]? = some a->ps[i]? = some p->H a=some (.tup [.str p.1,p.2])
def FpOk.off (h:FpOk X aa H a)(n:a≠b):FpOk X aa (upd H b o) a:=⟨by rw[Aj n];exact h.1,h.2⟩
theorem SB :∀(as:List Addr) (ps:List (Str×V)) (H:Hp),Inv X aa σ H s->as.Nodup->as.length=ps.length->(∀a∈as,FpOk X aa H a) ->
  (∀(i:Nat) a p,as[i]? = some a->ps[i]? = some p->∃u t,RelV p.2 u/\s.heap.get? a=some { cls:=.type "tuple",data:=.seq #[.str p.1 t,u] })->∃H',Inv X aa σ H' s/\Same H H'/\OD H' as ps
 | [],[],H,I,_,_,_,_=>⟨H,I,Same.refl _,rfl,λi a p h=>by simp at h⟩
 | [],_::_,_,_,_,h,_,_=>by simp at h
 | _::_,[],_,_,_,h,_,_=>by simp at h
 | a::as,p::ps,H,I,nd,hl,hf,hp=>by
  obtain⟨u,t,ru,e⟩:=hp 0 a p rfl rfl;have fa:=hf a Bo;have nd':=Ey.mp nd;have I1:Inv X aa σ (upd H a (.tup [.str p.1,p.2])) s:=I.trackF fa ⟨by show 2<=sizeLine;decide,[.str p.1 t,u],.cons ⟨t,rfl⟩ (.cons ru .nil),_,e,rfl,0,rfl⟩;obtain⟨H',I',s',pr⟩:=SB as ps _ I1 nd'.2 (by simpa using hl) (λb hb=>(hf b (Bn _ hb)).off λz=>nd'.1 (z ▸ hb)) (λi b q hb hq=>hp (i+1) b q (by simpa using hb) (by simpa using hq));refine⟨H',I',(PV fa.1).trans s',hl,λi b q hb hq=>?_⟩;cases i with
  | zero=>cases hb;cases hq;exact s' _ _ Ae
  | succ i=>exact pr.2 i b q (by simpa using hb) (by simpa using hq)
def F7 (zs:List (Str×V)):Bool:=(zs.zip zs.tail).all λq=>decide (q.1.1.cps.toList<q.2.1.cps.toList)
def nX (hc:X.calm=true):Cj X (.builtin "sorted") (λxs H Q=>∃(v d:Addr) (ps:List (Str×V)),xs=[.ref v]/\H v=some (Cu v d)/\H d=some (.dK (ps.map λp=>(Sum.inr p.1,p.2)))/\ps.length<=3 /\
  ∀(l:Addr) (as:List Addr) (zs:List (Str×V)) (H':Hp),Same H H'->H l=none->zs.Perm ps->F7 zs=true->H' l=some (.lst (as.map V.ref))->OD H' as zs->Q (.ref l) H'):=by
 intro aa s σ H xs us Q I r h
 obtain⟨v,d,ps,rfl,hv,hd,h3,q⟩:=h
 obtain⟨u,rfl,ru⟩:=CV r
 cases ru
 obtain⟨hz,hm,vs,hkv,o,es,ep,ho,ex,hdd,hK,hP,hnd⟩:=NO I.hok hd
 have hat:s.heap.DictAt (BB X.prog X.w) d vs ep:=⟨o,es,ho,ex,hdd,hK,hP,hnd⟩
 obtain⟨view,_,_⟩:=I.hok v _ hv
 have hl':=hkv.length
 rw[Al]at hl'
 have ak:sizeLine=16777216:=AL
 have at':∀(j:Nat) k x,vs[j]? = some (k,x)->∃p,ps[j]? = some p/\k=Sum.inr p.1/\RelV p.2 x:=λj k x hj=>by
  have hjl:=(AN.mp hj).1;have hjp:j<ps.length:=by lia
  obtain⟨u,hu,ru⟩:=KV.get2 (i:=j) hkv (show(ps.map λp=>((Sum.inr p.1:Ag),p.2))[j]? = some (Sum.inr (ps[j]).1,(ps[j]).2) by rw[AV,AC hjp];rfl);rw[hj]at hu;cases hu;exact⟨ps[j],AC hjp,rfl,ru⟩
 refine SI.items_sorted (knd:=BB X.prog X.w) (ks:=ps.map (·.1)) (I.ok.hd hc) view hat (by lia) (by rw[Al];lia) (λj k x key hj hk=>?_) ?_ λh1 h' tk as p c ext1 hl hG hp hs ext hB=>?_
 ·obtain⟨pp,e1,e2,_⟩:=at' j k x hj;subst e2;rcases Di (show DY (Sum.inr pp.1) key=true from hk)with⟨i,t,e1',e2⟩ | ⟨y,t,e1',e2⟩
  ·cases e1'
  cases e1';exact⟨_,t,by rw[AV,e1];rfl,e2⟩
 ·have ek:=hkv.keys;rw[<- ek,BC]at hnd;have e:ps.map ((λx:Ag×V=>x.1) ∘ λp=>((Sum.inr p.1:Ag),p.2))=(ps.map (·.1)).map Sum.inr:=by rw[BC];rfl
  rw[e]at hnd;exact List.Pairwise.of_map Sum.inr (λa b h z=>h (by rw[z])) hnd
 have I1:Inv X aa σ H { s with heap:=h1,toks:=tk }:=I.kept (t':=tk) ext1
 have hf:∀a∈as,FpOk X aa H a:=λa ha=>I.fpOk (G9 (hG.above a ha)) (I.hok.fresh (G9 (hG.above a ha)))
 obtain⟨H2,I2,s2,pr⟩:=SB as ps H I1 (hG.rise.imp λz=>AY z) (by lia) hf (λi a pp ha hpp=>by
  obtain⟨key,k,x,e1,e2,e3⟩:=hG.pairs i a ha;obtain⟨p2,f1,f2,f3⟩:=at' i k x e1;rw[hpp]at f1;cases f1;subst f2;rcases Di (show DY (Sum.inr pp.1) key=true from e2)with⟨i',t,g1,g2⟩ | ⟨y,t,g1,g2⟩
  ·cases g1
  cases g1;rw[g2]at e3;exact⟨x,t,f3,e3⟩)
 have hpr:∀i∈p,i<as.length:=λi hi=>by have:=DO.mp (hp.mem_iff.mp hi);lia
 have hplen:p.length=as.length:=by rw[hp.length_eq,Dw,hl]
 have vals:∀q:List Nat,(∀i∈q,i<as.length)->Vals ((q.map λi=>as.getD i 0).map V.ref) (q.map λi=>(as.map Value.ref).getD i Value.none):=λq=>by
  induction q with
  | nil=>exact λ_=>.nil
  | cons i q ih=>
   intro hq;have hi:=hq i Bo;refine .cons ?_ (ih λj hj=>hq j (Bn _ hj));have e1:as.getD i 0=as[i]:=by simp[CJ,hi]
   have e2:(as.map Value.ref).getD i Value.none=.ref as[i]:=by simp[CJ,hi]
   show RelV (.ref (as.getD i 0)) ((as.map Value.ref).getD i Value.none);rw[e1,e2];rfl
 have fr2:H2 h1.objs.size=none:=I2.hok.fresh (Am _)
 have I3:Inv X aa σ (upd H2 h1.objs.size (.lst ((p.map λi=>as.getD i 0).map V.ref))) { s with heap:=h',toks:=tk }:=
  I2.laid (t':=tk) (a:=h1.objs.size) (o:=.lst ((p.map λi=>as.getD i 0).map V.ref)) ext (Am _) ⟨by rw[Al,Al];lia,_,c,vals p hpr,hB⟩
 refine⟨.ref h1.objs.size,_,I3,rfl,q _ (p.map λi=>as.getD i 0) (p.map λi=>ps.getD i (Str.empty,.non)) _ (s2.trans (PV fr2)) (I1.hok.fresh (Am _)) ?_ ?_ Ae ⟨by rw[Al,Al],λi a z ha hz=>?_⟩⟩
 ·refine(hp.map _).trans ?_;have e:(List.range vs.length).map (λi=>ps.getD i (Str.empty,.non))=ps:=by refine ext_getElem (by simp[hl']) λk h1 h2=>?_;simp[CJ,h2]
  rw[e]
 ·unfold F7;rw[<- List.map_tail,List.zip_map,List.all_map];rw[He]at hs ⊢;intro x hx;have:=hs x hx;unfold SI.lt at this;have eg:∀i,(ps.map (·.1)).getD i Str.empty=(ps.getD i (Str.empty,.non)).1:=λi=>by (rw[CJ,CJ,AV]);cases ps[i]? <;> rfl
  rw[eg,eg]at this;exact this
 rw[AV]at ha hz
 cases hk:p[i]? with
 | none=>rw[hk]at ha;cases ha
 | some k=>
  rw[hk]at ha hz;have hka:=hpr k (Bt hk);have ea:as[k]? = some a:=by have e9:as.getD k 0=a:=BS ha;rw[<- e9,CJ,AC hka];rfl
  have ez:ps[k]? = some z:=by have e9:ps.getD k (Str.empty,.non)=z:=BS hz;rw[<- e9,CJ,AC (by lia)];rfl
  exact PV fr2 _ _ (pr.2 k a z ea ez)
end
end L2
namespace L2
open PySem PySem.Spec PyProof.Rows PySem.W
section
variable {X:Cx}
abbrev TJ:=Str->St->Hp->VK->Prop
def PJ (X:Cx)(es:List Expr)(t:TJ):Prop:=∀(aa:List (Addr×Obj)) (s:Shared) (σ:St) (H:Hp) (out:Str) (Q:VK),Inv X aa σ H s->out.length<=500000->t out σ H Q ->
 wpAny (model X.prog X.w) X.A (joinParts out (evalEach es X.env)) (EP X aa σ Q) X.xe s
def Gw (a b:Str):(a++b).length=a.length+b.length:=by (show(a.cps++b.cps).size=_);rw[Array.size_append];rfl
def Zb:PJ X [] (λout _ H Q=>Q (.str out) H):=by intro aa s σ H out Q I hl h;have hs:sizeLine=16777216:=AL;exact joinParts_nil ⟨.str out,H,I.tok _,⟨_,rfl⟩,h⟩ (by lia)
def Qn (hr:PJ X r t):PJ X (.Constant (.str a) j p::r) (λout σ H Q=>(out++a).length<=500000/\t (out++a) σ H Q):=by intro aa s σ H out Q I hl h;have hs:sizeLine=16777216:=AL;obtain⟨h1,h2⟩:=h;refine LI (Ap (A0 (X:=X) (x:=a) (j:=j) (pos:=p) aa s σ H (λv H1=>v=.str a/\H1=H) I ⟨rfl,rfl⟩) λu s1 hp0=>?_);obtain⟨v,H1,I1,r1,e1,e2⟩:=hp0;subst e1 e2;obtain⟨t,rfl⟩:=r1;exact⟨by lia,hr aa s1 σ H1 _ Q I1 h1 h2⟩
def Zn {e1 e2:Expr} (h:PJ X (e1::e2::r) t):PE X (.JoinedStr (e1::e2::r) pos) (λσ H Q=>t Str.empty σ H Q):=by intro aa s σ H Q I hw;exact JoinedStr_many (h aa s σ H Str.empty Q I (Bk _) hw)
end
end L2
namespace L2
open PySem PyProof.Rows
section
variable {X:Cx}
def hW:Jt X "dict.items" (λx xs H Q=>∃a kvs,x=.ref a/\xs=[]/\Rd H a (.dK kvs)/\∀v,H v=none->Q (.ref v) (upd H v (Cu v a))):=by intro aa s σ H x xs v us Q I rx rv h;obtain⟨a,kvs,rfl,rfl,ha,q⟩:=h;cases rx;cases rv;obtain⟨hz,hm,vs,hkv,hd⟩:=Gg I.hok ha;refine N1 Ou hd.typeIs PySem.F.entry_dict_items (VJ _) (meets_dict_items (BB X.prog X.w) a hm) ⟨⟨vs,hd⟩,?_⟩;refine⟨.ref s.heap.objs.size,_,I.laid (t':=s.toks) (o:=Cu s.heap.objs.size a) (λb o e=>AG _ e) (Am _) ⟨⟨_,A7 _ rfl,rfl,rfl⟩,⟨_,A7 _ rfl⟩,λh1 h2 f e=>?_⟩,rfl,q _ (I.hok.fresh (Am _))⟩;obtain⟨o,ho,r⟩:=f;exact⟨o,e o ho,r⟩
def W0 (to:TE):TE:=λσ H Q=>to σ H λx H1=>∃a kvs,x=.ref a/\Rd H1 a (.dK kvs)/\∀v,H1 v=none->Q (.ref v) (upd H1 v (Cu v a))
def Qt {to:TE} (ho:PE X o to)(hbase:attributeBase o "items" X.env (eval o X.env)=eval o X.env:=by rfl)(hline:(apos.endLine == cpos.line)=true:=by rfl):PE X (.Call (.Attribute o "items" apos) [] [] cpos) (W0 to):=by intro aa s σ H Q I h;refine wpAny_Call_method0_late hbase hline (Ap (ho aa s σ H _ I h) λv s1 hp0=>?_);obtain⟨x,H1,I1,r1,a,kvs,e,rd,q⟩:=hp0;subst e;cases r1;obtain⟨h1,h2,_⟩:=Um I1 (.inl ⟨_,rd⟩);exact⟨"dict", "dict.items",RX,Ou,PySem.F.type_dict_items,h1,h2,Ot rfl (PySem.evalArgs_none (hW aa s1 σ H1 (.ref a) [] _ [] Q I1 rfl .nil ⟨a,kvs,rfl,rfl,rd,q⟩))⟩
def kS (tl:TE):TI:=λσ H R=>tl σ H λx H1=>∃v a kvs,x=.ref v/\H1 v=some (Cu v a)/\((H1 a=some (.dK kvs)/\∀o,R (Jx a o kvs) (upd H1 a (.frz o (.dK kvs))))\/∃o,H1 a=some (.frz o (.dK kvs))/\R (Jx a o kvs) H1)
def Qp {x1} (hl:PE X l tl):PI X (.Tuple elts x1 tp) l (kS tl):=by
 intro aa s σ H R I h;refine Ap (hl aa s σ H _ I h) λu s1 hp0=>?_;obtain⟨x,H1,I1,r1,q1⟩:=hp0;obtain⟨v,a,kvs,rfl,hv,q⟩:=q1;cases r1;obtain⟨view,_,_⟩:=I1.hok v _ hv;rcases q with⟨ha,q⟩ | ⟨o0,ha,q⟩
 ·obtain⟨hz,hm,vs,hkv,o,es,ep,ho,ex,hd,r⟩:=NO I1.hok ha;have hat:s1.heap.DictAt (BB X.prog X.w) a vs ep:=⟨o,es,ho,ex,hd,r⟩;have hl':=hkv.length;refine wpAny_pyIter_items (knd:=BB X.prog X.w) view hat ⟨s1.heap.objs.size,[s1.heap.objs.size],_,_,upd H1 a (.frz o (.dK kvs)),rfl,(I1.freeze ha ho).kept (t':=s1.toks) (λb o e=>AG _ e),Sx _ a o kvs es ep hd,⟨.none,.none,?_⟩,λb hb=>?_,q o⟩
  ·rw[hl'];exact A7 _ rfl
  have e:b=s1.heap.objs.size:=by simpa using hb
  subst e;exact(I1.freeze ha ho).fpOk (Am _) ((I1.freeze ha ho).hok.fresh (Am _))
 obtain⟨ho,hz,hm,vs,hkv,o',es,ep,ho',ex,hd,r⟩:=I1.hok a _ ha;rw[ho]at ho';cases ho';have hat:s1.heap.DictAt (BB X.prog X.w) a vs ep:=⟨o0,es,ho,ex,hd,r⟩;have hl':=hkv.length;refine wpAny_pyIter_items (knd:=BB X.prog X.w) view hat ⟨s1.heap.objs.size,[s1.heap.objs.size],_,_,H1,rfl,I1.kept (t':=s1.toks) (λb o e=>AG _ e),Sx _ a o0 kvs es ep hd,⟨.none,.none,?_⟩,λb hb=>?_,q⟩
 ·rw[hl'];exact A7 _ rfl
 have e:b=s1.heap.objs.size:=by simpa using hb
 subst e;exact I1.fpOk (Am _) (I1.hok.fresh (Am _))
end
end L2
namespace L2
open PySem PySem.Spec PyProof.Rows PySem.W
section
variable {X:Cx}
def YL:V->Option Int->Option Int->Hp->VK->Prop:=λx lo hi H Q=>∃z,x=.str z/\z.length<=sizeLine/\Q (.str (Txt.slice z lo hi)) H
def IsPart.ex (p:IsPart v o):∃q:Option (Int×Tok),v=partValue q/\q.map (·.1)=o:=by
 cases p with
 | none=>exact⟨none,rfl,rfl⟩
 | int i t=>exact⟨some (i,t),rfl,rfl⟩
def SY:R7 X YL:=by intro aa s σ H x v vl vu lo hi sl Q I rx hs pl pu h;obtain⟨z,rfl,hz,q⟩:=h;obtain⟨t,rfl⟩:=rx;obtain⟨ql,rfl,rfl⟩:=IsPart.ex pl;obtain⟨qu,rfl,rfl⟩:=IsPart.ex pu;refine⟨"str",_,F.slot_str_getitem.lookup,typeIs_str _ _ _,wpAny_getItem_str_slice (l:=ql) (u:=qu) (st:=none) hs rfl ?_⟩;exact post_val_or_str ⟨BV (Txt.slice_le z _ _) hz,λt' k=>⟨.str _,H,I.tok _,⟨_,rfl⟩,q⟩⟩
def WE (t:TE):TT:=λσ H Q=>t σ H λx H'=>∃i,x=.int i/\Q (i != 0) H'
def Qh (ha:PE X a ta)(he:∀whole,isTrue a X.env whole=(do let v <- whole;standAt a.pos;holding [v] (truthy v)):=by intro _;rfl):PT X a (WE ta):=by intro aa s σ H Q I h;refine isTrue_plain (Ap (ha aa s σ H _ I h) λv s1 hp0=>?_) (he _);obtain⟨x,H1,I1,r1,q1⟩:=hp0;obtain⟨i,rfl,q⟩:=q1;exact Wv aa s1 σ H1 _ v Q I1 r1 ⟨_,rfl,q⟩
def Vs:Cj X (.builtin "isinstance") (λxs H Q=>(∃a ys,xs=[.ref a,.ty "list"]/\H a=some (.lst ys)/\Q (.bl true) H)\/(∃z,xs=[.str z,.ty "list"]/\Q (.bl false) H)\/(xs=[.non,.ty "list"]/\Q (.bl false) H)):=by
 intro aa s σ H xs us Q I r h;rcases h with⟨a,ys,rfl,ha,q⟩ | ⟨z,rfl,q⟩ | ⟨rfl,q⟩
 ·exact nZ aa s σ H _ us Q I r ⟨a,ys,rfl,ha,q⟩
 ·obtain⟨u1,u2,rfl,r1,r2⟩:=Fq r;obtain⟨t,rfl⟩:=r1;cases r2;exact PySem.IsiPair.str_list ⟨.bl false,H,I.tok _,rfl,q⟩
 obtain⟨u1,u2,rfl,r1,r2⟩:=Fq r;cases r1;cases r2;exact PySem.IsiPair.NoneType_list ⟨.bl false,H,I.tok _,rfl,q⟩
end
end L2
namespace DPT
open PySem PyProof.Rows
end DPT
namespace L2
open PySem PySem.Spec PyProof.Rows PySem.W
section
variable {X:Cx}
def nU:Cj X (.type "tuple") (λxs H Q=>∃p ys,xs=[.ref p]/\SqL X.K H p ys/\∀l o,H l=none->o.dict=none->Q (.ref l) (upd H l (.frz o (.tup ys)))):=by
 intro aa s σ H xs us Q I r h;obtain⟨p,ys,rfl,hq,q⟩:=h;obtain⟨u,rfl,rx⟩:=CV r;cases rx;obtain⟨its,r',pl,hz⟩:=I.list hq;have hlen:=r'.length;refine call_tuple_list pl.isList (λh' kp=>?_) (by simp only[Bx] <;> lia);have I1:Inv X aa σ H { s with heap:=h' }:=I.kept (t':=s.toks) kp
 have I2:Inv X aa σ (upd H h'.objs.size (.frz { cls:=.type "tuple",data:=.seq its.toArray } (.tup ys))) { s with heap:=h'.push { cls:=.type "tuple",data:=.seq its.toArray } }:=
  I1.laid (t':=s.toks) (λb o e=>AG _ e) (Am _) (show ObjOk X.prog X.w _ _ _ (.frz _ (.tup ys)) from ⟨A7 _ rfl,hz,its,r',IsTup.new _ _⟩)
 exact⟨.ref h'.objs.size,_,I2,rfl,q _ _ (I1.hok.fresh (Am _)) rfl⟩
end
end L2
namespace RV
open PySem PyProof.Rows
end RV
namespace L2
open PySem PySem.Spec PyProof.Rows PySem.W
section
variable {X:Cx}{tg:Expr}
def Tq (he:PE X e te)(hr:PJ X r t) :
  PJ X (.FormattedValue e (-1) none p2::r) (λout σ H Q=>te σ H λv H1=>∃i:Int,v=.int i/\i.natAbs.log2<1920/\out.length<=400000/\t (out++Str.ofString (toString i)) σ H1 Q):=by
 intro aa s σ H out Q I hl h
 have hs:sizeLine=16777216:=AL
 refine LI (FormattedValue_plain (Ap (he aa s σ H _ I h) λu2 s2 hp0=>?_))
 obtain⟨v2,H2,I2,r2,i,e3,li,lo,q⟩:=hp0
 subst e3
 obtain⟨t2,rfl⟩:=r2
 have l1:(Str.ofString (toString i)).length<=1921:=int_text_len_1921 li
 have l2:=Gw out (Str.ofString (toString i))
 refine wpAny_formatField_int li ?_
 exact⟨by show(out++Str.ofString (toString i)).length<=sizeLine;lia,hr aa _ σ H2 _ Q (I2.tok _) (by lia) q⟩
end
def Kd {α:Type}:Sem α->Prop
 | .pure _=>True
 | .raise _=>True
 | .unsupported _=>True
 | .finish _=>True
 | .rule _ k=>Kd (k ())
 | .at _ k=>Kd (k ())
 | .load _ _ k=>∀o,Kd (k o)
 | .update _ _ f k=>(∀o,(f o).dict=o.dict)/\Kd (k ())
 | .alloc _ k=>∀a,Kd (k a)
 | .loadIfAlive _ k=>∀o,Kd (k o)
 | .point _ k=>Kd (k ())
 | .fresh k=>∀t,Kd (k t)
 | .ask k=>∀t,Kd (k t)
 | .handled _ k=>∀t,Kd (k t)
 | .stack k=>∀t,Kd (k t)
 | .thread k=>∀t,Kd (k t)
 | _=>False
def Kd.bind {α β:Type}{f:α->Sem β}(hf:∀a,Kd (f a)):∀{m:Sem α},Kd m->Kd (m >>= f):=by
 intro m;show Kd m->Kd (m.bind f);induction m with
 | pure a=>intro _;exact hf a
 | raise e=>intro _;trivial
 | unsupported e=>intro _;trivial
 | finish e=>intro _;trivial
 | rule t k ih=>exact λh=>ih () h
 | «at» t k ih=>exact λh=>ih () h
 | load a p k ih=>exact λh o=>ih o (h o)
 | update a p g k ih=>exact λh=>⟨h.1,ih () h.2⟩
 | alloc a k ih=>exact λh o=>ih o (h o)
 | loadIfAlive a k ih=>exact λh o=>ih o (h o)
 | point a k ih=>exact λh=>ih () h
 | fresh k ih=>exact λh o=>ih o (h o)
 | ask k ih=>exact λh o=>ih o (h o)
 | handled w k ih=>exact λh o=>ih o (h o)
 | stack k ih=>exact λh o=>ih o (h o)
 | thread k ih=>exact λh o=>ih o (h o)
 | _=>intro h;exact h.elim
def Ks (s s':Shared):Prop:=∀(b:Addr) (o:Obj),s.heap.objs[b]? = some o->∃o',s'.heap.objs[b]? = some o'/\o'.dict=o.dict
def Ks.refl (s:Shared):Ks s s:=λ_ o h=>⟨o,h,rfl⟩
def Ks.trans (x:Ks a b)(y:Ks b c):Ks a c:=λi o h=>by obtain⟨o1,h1,e1⟩:=x i o h;obtain⟨o2,h2,e2⟩:=y i o1 h1;exact⟨o2,h2,e2.trans e1⟩
def Ks.upd (h:∀o,(f o).dict=o.dict):Ks s { s with heap:=s.heap.update a f }:=λb o e=>by
 have hsz:(s.heap.update a f).objs=s.heap.objs.modify a f:=rfl;show ∃o',(s.heap.update a f).objs[b]? = some o'/\_;rw[hsz,Array.getElem?_modify,e];split
 ·exact⟨f o,rfl,h o⟩
 exact⟨o,rfl,rfl⟩
def Ks.push :Ks s { s with heap:=s.heap.push o }:=λb u e=>by have hsz:(s.heap.push o).objs=s.heap.objs.push o:=rfl;have hlt:b<s.heap.objs.size:=(Ox.mp e).1;refine⟨u,?_,rfl⟩;show(s.heap.push o).objs[b]? = some u;rw[hsz,Array.getElem?_push,Ao (AY hlt)];exact e
def Kd.wp {α:Type}{M:Model}{Γ:PySem.Ctx}:∀{t:Sem α}{Q:α->Pos->Shared->Prop}{E:Value->Pos->Shared->Prop}{p:Pos}{s:Shared},Kd t->Sem.wp M Γ t Q E p s->Sem.wp M Γ t (λa p' s'=>Q a p' s'/\Ks s s') (λe p' s'=>E e p' s'/\Ks s s') p s:=by
 intro t
 have up:∀{u:Sem α}{Q:α->Pos->Shared->Prop}{E:Value->Pos->Shared->Prop}{p:Pos}{s s1:Shared},Ks s s1->Sem.wp M Γ u (λa p' s'=>Q a p' s'/\Ks s1 s') (λe p' s'=>E e p' s'/\Ks s1 s') p s1->Sem.wp M Γ u (λa p' s'=>Q a p' s'/\Ks s s') (λe p' s'=>E e p' s'/\Ks s s') p s1:=
  λk h=>Sem.wp_mono M Γ _ (λa p' s' z=>⟨z.1,k.trans z.2⟩) (λa p' s' z=>⟨z.1,k.trans z.2⟩) _ _ h
 induction t with
 | pure a=>intro Q E p s _ h;exact⟨h,Ks.refl s⟩
 | raise e=>intro Q E p s _ h;exact⟨h,Ks.refl s⟩
 | unsupported e=>intro Q E p s _ h;exact h
 | finish e=>intro Q E p s _ h;exact h
 | rule t k ih=>intro Q E p s hk h;exact ih () hk h
 | «at» t k ih=>intro Q E p s hk h;exact ih () hk h
 | load a p k ih=>intro Q E p s hk h;obtain⟨o,ho,h⟩:=h;exact⟨o,ho,ih o (hk o) h⟩
 | update a p g k ih=>intro Q E p s hk h;exact⟨h.1,up (Ks.upd hk.1) (ih () hk.2 h.2)⟩
 | alloc a k ih=>intro Q E p s hk h;exact up (s1:={ s with heap:=s.heap.push a }) Ks.push (ih _ (hk _) h)
 | loadIfAlive a k ih=>intro Q E p s hk h;exact ih _ (hk _) h
 | point a k ih=>intro Q E p s hk h;exact ih () hk h
 | fresh k ih=>intro Q E p s hk h;exact up (s1:={ s with toks:=s.toks+1 }) (λ_ o e=>⟨o,e,rfl⟩) (ih _ (hk _) h)
 | ask k ih=>intro Q E p s hk h;exact ih _ (hk _) h
 | handled w k ih=>intro Q E p s hk h;exact ih _ (hk _) h
 | stack k ih=>intro Q E p s hk h;exact ih _ (hk _) h
 | thread k ih=>intro Q E p s hk h;exact ih _ (hk _) h
 | _=>intro Q E p s hk h;exact hk.elim
def Kd.any {α:Type}{M:Model}{A:Around}{t:Sem α}{Q:α->Shared->Prop}{E:Value->Shared->Prop}{s:Shared}(k:Kd t)(h:wpAny M A t Q E s):wpAny M A t (λa s'=>Q a s'/\Ks s s') (λe s'=>E e s'/\Ks s s') s:=
 λΓ p hΓ=>Kd.wp k (h Γ p hΓ)
def F9 {α:Type}{c:Prop}[Decidable c]{a b:Sem α}(x:Kd a)(y:Kd b):Kd (if c then a else b):=by split <;> assumption
def jR (v:Value):Kd (fieldsOf v):=by
 unfold fieldsOf;cases v with
 | ref a=>refine Kd.bind (m:=load a) (λo=>?_) (λ_=>trivial);cases o.data <;> trivial
 | _=>trivial
def NB (v:Value)(i:Nat):Kd (field v i):=by unfold field;refine Kd.bind (λvs=>?_) (jR v);cases vs[i]? <;> trivial
def QK (v:Value)(i:Nat)(x:Value):Kd (setField v i x):=by
 unfold setField;cases v with
 | ref a=>
  show Kd (updateField a i x);unfold updateField;refine Kd.bind (m:=load a) (λo=>?_) (λ_=>trivial);cases o.data with
  | fields vs=>refine F9 ⟨λo=>?_,trivial⟩ trivial;unfold Obj.mapFields;split <;> rfl
  | _=>trivial
 | _=>trivial
def QJ (e:Value)(f:Option Addr):Kd (setFlight e f):=by
 unfold setFlight;refine Kd.bind (λtb=>?_) (NB _ _);split
 ·exact QK _ _ _
 trivial
def QI:Kd stack:=λ_=>trivial
def Cq {α β:Type}{m:Sem α}{f:α->Sem β}(h:Kd m)(hf:∀a,Kd (f a)):Kd (m >>= f):=Kd.bind hf h
def DJ {α:Type}(a:α):Kd (pure a:Sem α):=trivial
def jQ:Kd frameEnvs:=by unfold frameEnvs;refine Cq QI λ_=>?_;exact DJ _
def jS (f:Addr)(b:Bool):Kd (entryPlaceOf f b):=by unfold entryPlaceOf;refine Cq QI λ_=>?_;split <;> exact DJ _
def jN (ty:String)(vs:List Value):Kd (newFields ty vs):=by unfold newFields newObj newObjAsIs;dsimp only;have al:∀(o:Obj),Kd (do let a <- alloc o;pure (Value.ref a)):=λo=>Cq (m:=alloc o) (λ_=>trivial) λa=>DJ _;refine F9 ?_ (al _);refine Cq (m:=unsupported _) trivial λ_=>al _
def jT (env:Env)(ag:List Env):Kd (behindIsImport env ag):=by unfold behindIsImport;refine F9 (DJ _) (F9 (DJ _) ?_);refine Cq (NB _ _) λ_=>DJ _
theorem jO (env:Env)(b:Bool):∀l,Kd (keptBack env b l)
 | []=>by show Kd (if (env.scope.isGenerator || env.scope.isCoroutine)=true then pure Value.none else _);refine F9 (DJ _) ?_;refine Cq ?_ λ_=>DJ _;unfold underTheClaimsCaller;refine Cq QI λ_=>?_;exact DJ _
 | _::_=>trivial
theorem Ue:∀l,Kd (readyFrames l)
 | []=>trivial
 | env::ag=>by
  unfold readyFrames;split
  ·refine Cq (m:=load _) (λ_=>trivial) λo=>?_;refine F9 (DJ _) ?_;refine Cq (jT _ _) λim=>?_;refine Cq (jO _ _ _) λbk=>?_;refine Cq ?_ λ_=>Ue ag;exact⟨λ_=>rfl,trivial⟩
  trivial
def jP (env:Env):Kd (PySem.frameOf env):=by
 unfold PySem.frameOf;refine Cq jQ λes=>?_;refine Cq ?_ λr=>?_
 ·cases es.dropWhile (·.frame != env.frame)with
  | nil=>exact DJ _
  | cons x r=>unfold frameObject;refine Cq (Ue _) λ_=>DJ _
 split
 ·exact DJ _
 trivial
def Ug (e:Value)(env:Env):Kd (noteFrame e env):=by
 unfold noteFrame;split
 ·rename_i f _;refine Cq (NB _ _) λhead=>?_;have rest:∀u:Unit,Kd (do setField e 1 (<- EntryCells.newEntry head (<- PySem.frameOf env) .none (rawInt f) .none (<- entryPlaceOf f (head != .none)))):=λ_=>by refine Cq (jP env) λfr=>?_;refine Cq (jS _ _) λpl=>?_;refine Cq ?_ λen=>QK _ _ _;unfold EntryCells.newEntry;exact jN _ _
  refine F9 ?_ (rest ());refine Cq (NB _ _) λx=>?_;refine F9 (DJ _) ?_;refine Cq (QK _ _ _) λ_=>rest ()
 trivial
def Uh (env:Env)(e:Value):Kd (leaving env e):=by unfold leaving;refine Cq (Ug _ _) λ_=>QJ _ _
end L2
namespace L2
open PySem PySem.Spec PyProof.Rows PySem.W Builtin Builtin.ObjectAttr
def Md:List Value->Bool
 | .ref _::r=>Md r
 | l=>l == Fe
def Wk (self:Value):∀l:List Value,Md l=true->refuseLoop self "__setattr__" l=pure ():=by
 intro l;induction l with
 | nil=>intro z;cases z
 | cons v r ih=>
  intro z;by_cases hv:∃c,v=.ref c
  ·obtain⟨c,rfl⟩:=hv;rw[refuseLoop_ref];exact ih z
  have z2:((v::r) == Fe)=true:=by cases v <;> first | exact z | exact absurd ⟨_,rfl⟩ hv
  rw[EB.mp z2];exact PySem.F.store_ValueError.passes self
def Lm (K:Frag)(C:Addr):Bool:=match K.lookup C with
 | some ⟨.type "type",_,.cls cd,places⟩=>(match cd.mro,places.toList with
  | .ref C'::bm,[_,_,_,_,some (.builtin n),_]=>C' == C && n == "ValueError.__new__" && !cd.hasDel && tailIn K Fe bm
  | _,_=>false)
 | _=>false
structure XAt (h:Heap)(C:Addr):Prop where
 ex:∃(N:Addr) (nm qn:Str) (bs bm:List Value) (hdct:Bool) (sn:List Str) (sub:List Value) (ab:Bool) (col:Option Bool) (dd:Option Addr) (k0 k1 k2 k3 k5:Option Value),
  h.get? C=some (excClassObj nm qn C N bs bm hdct sn sub ab col dd k0 k1 k2 k3 k5 "ValueError.__new__")/\OwnTail h Fe bm
def XAt.of {K:Frag}{h:Heap}{C:Addr}(X:K.In h)(g:Lm K C=true):XAt h C:=by
 unfold Lm at g;split at g
 ·rename_i dict0 cls0 slots0 at0;split at g
  ·rename_i first0 tail0 a0 a1 a2 a3 new0 a5 mro0 list0;have g':=g;simp only[B8,EB,Jg]at g';obtain⟨⟨⟨r1,r2⟩,r3⟩,r4⟩:=g';subst r1 r2;obtain⟨c1,c2,c3,c4,c5,c6,c7,c8,c9,c10,c11⟩:=cls0;dsimp only at mro0 r3;subst mro0 r3;have slots1:slots0=#[a0,a1,a2,a3,some (.builtin "ValueError.__new__"),a5]:=LN.mp list0;subst slots1;exact⟨c4,c1,c5,c2,tail0,c6,c7,c8,c9,c10,dict0,a0,a1,a2,a3,a5,X _ _ at0,tail_of_in X r4⟩
  cases g
 cases g
structure XC (K:Frag)(C f G:Addr):Prop where
 ex:Lm K C=true
 fn:typeIn K (.ref f)=some (.type "function")
 kp:keepIn K (.ref C)=true
 ga:findIn K (.ref C) "__getattribute__" = some (some (.builtin "BaseException.__getattribute__"))
 gh:findIn K (.ref C) "__getattr__" = some none
 sb:subIn K (.ref C) (.type "BaseException")=some true
 hd:hasDictIn K C=true
 n1:findIn K (.ref C) "name" = some none
 n2:findIn K (.ref C) "world" = some none
 rG:readsIn K G (.type "type")=true
 iG:findCls K (.ref G) (.type "type") "__init__" = some (.val (.builtin "ValueError.__init__"))
 gG:specialIn K (.ref G) "__getattribute__" = some (some (.builtin "type.__getattribute__"))
 sa:findIn K (.ref C) "__setattr__" = some (some (.builtin "object.__setattr__"))
 vt:(clsIn K C).any (λcd=>Md cd.mro)=true
 so:subIn K (.ref C) (.type "object")=some true
 ss:subIn K (.ref C) (.ref C)=some true
 it:findIn K (.ref C) "__init__" = some (some (.ref f))
abbrev IU (us:List Value):Obj:={ cls:=.type "tuple",data:=.seq us.toArray }
abbrev Gf (C t:Addr):Obj:={ cls:=.ref C,data:=.fields #[.ref t,.none,.none,.none,.bool false,.none] }
def UT (hp:Heap)(C:Addr)(us:List Value):((hp.push (IU us)).push (Gf C hp.objs.size)).get? (hp.objs.size+1)=some (Gf C hp.objs.size):=by have at1:=A7 (hp.push (IU us)) (o:=Gf C hp.objs.size) rfl;rwa [Eb]at at1
def US (hp:Heap)(C:Addr)(us:List Value):Heap.MadeExcOf hp ((hp.push (IU us)).push (Gf C hp.objs.size)) (hp.objs.size+1) (.ref C) us:=by have at1:=UT hp C us;exact⟨λb o z=>AG _ (AG _ z),RO (by lia),hp.objs.size,at1,RO (by lia),AG _ (A7 hp rfl)⟩
section
variable {prog:Program}{w:World}{A:Around}{E:Value->Shared->Prop}{s:Shared}{K:Frag}{x C f G:Addr}{us:List Value}{Q:Value->Shared->Prop}
def iL (X:K.In s.heap)(c:XC K C f G)(hl:us.length<=sizeLine)
  (hq:∀(h':Heap) (e:Addr),Heap.MadeExcOf s.heap h' e (.ref C) us->s.heap.objs.size<=e -> wpAny (model prog w) (A.under (.builtin "type.__call__" ⟨.ref C::us,[]⟩)) (call (.ref f) (.ref e::us)) (λr s'=>r=.none/\Q (.ref e) s') E { s with heap:=h' }):wpAny (model prog w) A (call (.ref C) us) Q E s:=by
 obtain⟨N,nm,qn,bs,bm,hdct,sn,sub,ab,col,dd,k0,k1,k2,k3,k5,hC,T⟩:=(XAt.of X c.ex).ex
 have made:=hq _ _ (US s.heap C us) (Ef _)
 have X1:K.In ((s.heap.push (IU us)).push (Gf C s.heap.objs.size)):=X.keeps (US s.heap C us).keeps
 have B:=Gi
 have c1:=tc_lookup
 have c2:=tc_bind (.ref C)
 (obtain⟨hp,g,d,tk,os⟩:=s)
 have ty:(⟨hp,g,d,tk,os⟩:Shared).TypeIs (.ref C) "type" := ⟨_,hC,rfl⟩
 refine Ez (Oa (show wpAny _ _ (callAny (.ref C) _) _ _ _ from ?_))
 repeat (any_goals (first | assumption | wp_step | with_reducible refine FJ hC ?_))
 refine And.intro rfl (codeAny_call_builtin_at (Oj _ (by decide +kernel)) entry_typeCall (wpAny_check_type_call_sub hC ?_))
 repeat (first | wp_step | with_reducible refine wpAny_madeBy_exc hC ?_ | with_reducible refine FJ hC ?_)
 refine codeAny_call_builtin_code (Oj _ B.quiet) (wpAny_check_new_subT B T hC (codeAny_exc_new_subT B T hC ?_ hl))
 have J:InstAt ((hp.push (IU us)).push (Gf C hp.objs.size)) (hp.objs.size+1) (Gf C hp.objs.size) C none:=⟨UT hp C us,rfl,rfl,EA⟩
 have S:Looks (model prog w) ((hp.push (IU us)).push (Gf C hp.objs.size)) (isInstance (.ref (hp.objs.size+1)) (.ref C)) true:=J.type.andThen (Lv X1 c.ss)
 refine Ad (S.here ?_)
 rw[Ao (by decide)]
 refine Ad (Dl (special_fn X1 J c.it c.fn (BI made (λr s' hp0=>?_) λ_ _ z=>z)))
 obtain⟨er,z⟩:=hp0
 subst er
 exact An z
end
section
variable {prog:Program}{w:World}{A:Around}{E:Value->Shared->Prop}{s:Shared}{K:Frag}{x C f G:Addr}{ox:Obj}{name:Str}{v:Value}{Q:Unit->Shared->Prop}
def UR (X:K.In s.heap)(c:XC K C f G)(hn:findIn K (.ref C) name=some none)(I:InstAt s.heap x ox C od)
  (h:∀tk,wpAny (model prog w) A.in1 (storeInOwnDict (.ref x) (.ref C) (.str name tk) name v false) (λfin s'=>fin=.done (.ret .none)/\Q () s') (λ_ _=>False) { s with toks:=s.toks+1 }):wpAny (model prog w) A (setAttr (.ref x) name v) Q E s:=by
 obtain⟨hp,g,d,t,os⟩:=s
 refine set_plain X I c.sa ?_
 have SF:=PySem.F.store_ValueError
 obtain⟨cd,hc,hv⟩:=any_some c.vt
 (have L0:=I.type (M:=model prog w))
 have L1:Looks (model prog w) hp (mroOf (.ref C)) cd.mro:=(N5 X hc).andThen .now
 have L2':=Oe (M:=model prog w) X hn
 have inst:Looks (model prog w) hp (isInstance (.ref x) (.type "object")) true:=L0.andThen (Lv X c.so)
 refine Jq SF.slot.plain SF.entry ?_
 refine @check_slot (model prog w) _ _ ⟨hp,g,d,t+1,os⟩ "object.__setattr__" "object" "__setattr__" (.ref x) [.str name t,v] [] _ SF.kind SF.split inst (SF.args (.ref x) (.str name t) v) ?_
 rw[osa_eq,refuse_eq]
 refine Ad (Ad (L0.at (Ad (L1.at ?_))))
 rw[Wk _ _ hv]
 refine An (Ad (L0.at (Ad (L2'.at (Ad (An (a:=none) ?_))))))
 refine BI (h _) (λfin s' hp0=>?_) λ_ _ z=>z.elim
 obtain⟨ef,z⟩:=hp0
 subst ef
 exact z
def mH (X:K.In s.heap)(c:XC K C f G)(hn:findIn K (.ref C) name=some none)(hx:s.heap.get? x=some { cls:=.ref C,data:=.fields vs })
  (h:∀h',h'.Ns1 s.heap.objs.size (λy=>if y=name then some v else none)->h'.get? x=some { cls:=.ref C,dict:=some s.heap.objs.size,data:=.fields vs }->(∀b o,b≠x->s.heap.get? b=some o->h'.get? b=some o)->Q () { s with heap:=h',toks:=s.toks+2 }) :
  wpAny (model prog w) A (setAttr (.ref x) name v) Q E s:=by
 refine UR X c hn (ox:={ cls:=.ref C,data:=.fields vs }) (od:=none) ⟨hx,rfl,rfl,EA⟩ λtk=>?_
 obtain⟨cd,hc,hd'⟩:=any_some c.hd
 have L1:=N5 (M:=model prog w) X hc
 obtain⟨hp,g,d,t,os⟩:=s
 have nx:x≠hp.objs.size:=AY (AF hx)
 have hx1:(hp.push emptyDict).get? x=some { cls:=.ref C,data:=.fields vs }:=AG _ hx
 have at2:((hp.push emptyDict).update x λo=>{ cls:=o.cls,dict:=some hp.objs.size,data:=o.data,slots:=o.slots }).get? hp.objs.size=some emptyDict:=(Heap.get?_update_ne _ _ _ _ nx.symm).trans (A7 hp rfl)
 have at3:((hp.push emptyDict).update x λo=>{ cls:=o.cls,dict:=some hp.objs.size,data:=o.data,slots:=o.slots }).get? x=some { cls:=.ref C,dict:=some hp.objs.size,data:=.fields vs }:=G5 _ hx1 rfl
 have oth:∀b o,b≠x->hp.get? b=some o->((hp.push emptyDict).update x λo=>{ cls:=o.cls,dict:=some hp.objs.size,data:=o.data,slots:=o.slots }).get? b=some o:=λb o nb z=>(Heap.get?_update_ne _ _ _ _ nb).trans (AG _ z)
 refine Ad (An (Ad (Ad (wpAny_loadPart hx (Ad (L1.at ?_))))))
 rw[hd',Ao (by decide)]
 refine Ad (wpAny_alloc' (Ad (wpAny_update' hx1 ?_)))
 generalize ((hp.push emptyDict).update x λo=>{ cls:=o.cls,dict:=some hp.objs.size,data:=o.data,slots:=o.slots })=h1 at at2 at3 oth
 have none1:h1.Ns hp.objs.size (λ_=>none):=⟨_,#[],_,at2,rfl,λen hen=>absurd hen (by simp),λ_=>rfl⟩
 refine An (a:=some hp.objs.size) (Ad (An (Ad (wpAny_nsSet1 (Heap.Ns1.of_empty none1) λh2 ns2 sb=>?_))))
 obtain⟨oD,esD,epD,atD,dD,cD⟩:=ns2.count (Rf name v Within.nil)
 have few:esD.size<=sizeLine+1:=BV cD (by rw[CF,length_nil,AL];lia)
 refine Ad (wpAny_lookBehind atD (by rw[dD];exact pastItsLine_dict few) (An ⟨rfl,h h2 ?_ ((sb.2 x nx).trans at3) λb o nb z=>?_⟩))
 ·exact ns2
 exact(sb.2 b (AY (AF z))).trans (oth b o nb z)
def mF (X:K.In s.heap)(c:XC K C f G)(hn:findIn K (.ref C) name=some none)(hx:s.heap.get? x=some { cls:=.ref C,dict:=some dx,data:=.fields vs })(hns:s.heap.Ns1 dx mA)(hw:PySem.Within mA ns)(hsz:ns.length<sizeLine)
  (h:∀h',h'.Ns1 dx (λy=>if y=name then some v else mA y)->Heap.SameBut dx s.heap h'->Q () { s with heap:=h',toks:=s.toks+2 }):wpAny (model prog w) A (setAttr (.ref x) name v) Q E s:=by
 obtain⟨od,hod,_⟩:=QG hns
 refine UR X c hn (ox:={ cls:=.ref C,dict:=some dx,data:=.fields vs }) (od:=some od) ⟨hx,rfl,rfl,hod⟩ λtk=>?_
 obtain⟨cd,hc,hd'⟩:=any_some c.hd
 have L1:=N5 (M:=model prog w) X hc
 obtain⟨hp,g,d,t,os⟩:=s
 refine Ad (An (Ad (Ad (wpAny_loadPart hx (Ad (L1.at ?_))))))
 rw[hd',Ao (by decide)]
 refine An (a:=some dx) (Ad (An (Ad (wpAny_nsSet1 hns λh2 ns2 sb=>?_))))
 obtain⟨oD,esD,epD,atD,dD,cD⟩:=ns2.count (Rf name v hw)
 have few:esD.size<=sizeLine+1:=BV cD (by rw[CF];lia)
 exact Ad (wpAny_lookBehind atD (by rw[dD];exact pastItsLine_dict few) (An ⟨rfl,h h2 ns2 sb⟩))
end
section
variable {A:Around}{prog:Program}{w:World}{E:Value->Shared->Prop}{s:Shared}{K:Frag}{x C:Addr}{ox:Obj}{od:Option Obj}{name:Str}{expr:Bool}{Q:Value->Shared->Prop}
def lJ (X:K.In s.heap)(I:InstAt s.heap x ox C od)(hga:findIn K (.ref C) "__getattribute__" = some (some (.builtin "BaseException.__getattribute__")))(hgh:findIn K (.ref C) "__getattr__" = some none)
  (hi:subIn K (.ref C) (.type "BaseException")=some true)(hf:findObj K C od name=some (.value v))(hh:handedIn v=true)(h:Q v { s with toks:=s.toks+1 }):wpAny (model prog w) A (getAttr (.ref x) name expr) Q E s:=by
 have ne:(Value.builtin "BaseException.__getattribute__" == Value.builtin "object.__getattribute__")=false:=by decide +kernel
 refine Ad (wpAny_mkText (Dl (Ad (I.type _ _ _ _ (λ_ _ e=>e) (Ad (Oe X hga _ _ _ _ (λ_ _ e=>e) ?_))))))
 dsimp only
 rw[ne,Re,Ao (by decide)]
 refine Ad (looks_hook (mc:=.ref C) X (r:=none) (by rw[AB (by rfl)];exact hgh) _ _ _ _ (λ_ _ e=>e) (Ad (wpAny_attempt (Dl ?_))))
 unfold callGetattribute
 rw[show(expr && onTheHeap (Value.builtin "BaseException.__getattribute__"))=false from Re _,Ao (by decide)]
 unfold boundAndCalled
 rw[VL.ga.bind]
 refine Ad (An ?_)
 show wpAny _ _ (call (.builtin "BaseException.__getattribute__") [.ref x,.str name s.toks]) _ _ _
 refine Ez (Jq VL.ga.plain PySem.F.entry_bexc_ga ?_)
 refine @check_slot (model prog w) _ _ { s with toks:=s.toks+1 } "BaseException.__getattribute__" "BaseException" "__getattribute__" (.ref x) [.str name s.toks] [] _ (by decide +kernel) (by decide +kernel) (I.type.andThen (Lv X hi)) (PySem.F.args_bexc_ga _ _) ?_
 obtain⟨hp,g,d,t,os⟩:=s
 (have L0:=I.type (M:=model prog w))
 (have L1:=looks_find (M:=model prog w) X I hf)
 refine Ad (An (Ad (An (Ad (L0.at (Ad (L1.at ?_)))))))
 refine An ?_
 (show wpAny _ _ (handedOut v) _ _ _)
 rw[handedOut_of hh]
 exact An h
end
def Ce (x C:Addr)(d:Option Addr):HO:=.ext λh=>∃t,h.get? x=some { cls:=.ref C,dict:=d,data:=.fields #[.ref t,.none,.none,.none,.bool false,.none] }
def DF (d:Addr)(fs:List (Str×V)):HO:=.ext λh=>∃mA,h.Ns1 d mA/\(∀f,RelO (fs.lookup f) (mA f))/\PySem.Within mA (fs.map (·.1))
section
variable {P:Program}{w:World}{H:Hp}{h:Heap}{x C d:Addr}
def QX {dd:Option Addr} (e:h.get? x=some { cls:=.ref C,dict:=dd,data:=.fields #[.ref t,.none,.none,.none,.bool false,.none] }):ObjOk P w H h x (Ce x C dd):=
 ⟨⟨t,e⟩,⟨_,e⟩,λh1 h2 ⟨t',e1⟩ k=>⟨t',k _ e1⟩⟩
def Sa {fs:List (Str×V)} (n:h.Ns1 d mA)(r:∀f,RelO (fs.lookup f) (mA f))(w':PySem.Within mA (fs.map (·.1))):ObjOk P w H h d (DF d fs):=by refine⟨⟨mA,n,r,w'⟩,?_,λh1 h2 ⟨m,n1,r1,w1⟩ k=>⟨m,n1.at λo q=>k o q,r1,w1⟩⟩;obtain⟨o,_,_,e,_⟩:=n;exact⟨o,e⟩
end
section
variable {X:Cx}{aa:List (Addr×Obj)}{σ:St}{H:Hp}{s:Shared}{x C f G:Addr}
def Inv.xAt (I:Inv X aa σ H s)(c:XC X.K C f G):XAt s.heap C:=XAt.of I.kIn c.ex
def kL {dd:Option Addr} (I:Inv X aa σ H s)(c:XC X.K C f G)(ex:H x=some (Ce x C dd))(hl:rest.length<=1000)
  (h:∀s',Inv X aa σ H s'->Q .none s'):wpAny (model X.prog X.w) X.A (call (.builtin "ValueError.__init__") (.ref x::rest)) Q E s:=by
 obtain⟨N,nm,qn,bs,bm,hdct,sn,sub,ab,col,dd',k0,k1,k2,k3,k5,hC,hTl⟩:=(I.xAt c).ex
 obtain⟨⟨t,hx⟩,_,_⟩:=I.hok _ _ ex
 have F:=Gi
 have ak:sizeLine=16777216:=AL
 have key:∀h',(∀b u,b≠x->s.heap.get? b=some u->h'.get? b=some u)->(∃t',h'.get? x=some { cls:=.ref C,dict:=dd,data:=.fields #[.ref t',.none,.none,.none,.bool false,.none] })->Q .none { s with heap:=h' }:=λh' k ⟨t',e'⟩=>by
  have I2:=I.write (x:=x) (e:=x) (o:=Ce x C dd) (t':=s.toks) (h':=h') (by rw[ex];exact EA) (.inl rfl) k ⟨_,e'⟩ (QX e')
  have e2:upd H x (Ce x C dd)=H:=by
   funext b;unfold upd;split
   ·rename_i z;rw[z,ex]
   rfl
  rw[e2]at I2;exact h _ I2
 have hrest:rest.length<=sizeLine:=by lia
 (obtain⟨hp,g,d,tk,os⟩:=s)
 have hx':hp.get? x=some { cls:=.ref C,dict:=dd,data:=.fields #[.ref t,.none,.none,.none,.bool false,.none] }:=hx
 refine Ez (Jq F.init.plain F.initEntry (wpAny_check_init_subT F hTl hC hx rfl ?_))
 wp_walk
 rw[Ao (by rw[Bx];lia)]
 have hx2:=AG { cls:=.type "tuple",data:=.seq rest.toArray } hx'
 repeat (first | with_reducible refine FJ hx2 ?_ | wp_step)
 refine key _ (λb u hb q=>?_) ⟨hp.objs.size,?_⟩
 ·rw[LZ _ _ (DB hb)];exact AG _ q
 rw[G5 _ hx2 rfl]
 rfl
abbrev Wn (K:Frag)(C:Addr)(n:Str):Prop:=findIn K (.ref C) n=some none
def XI (I:Inv X aa σ H s)(c:XC X.K C f G)(wn:Wn X.K C n)(ex:H x=some (Ce x C none))(ry:RelV y u)
  (h:∀d s',H d=none->d≠x->Inv X aa σ (upd (upd H x (Ce x C (some d))) d (DF d [(n,y)])) s'->Q () s'):wpAny (model X.prog X.w) A (setAttr (.ref x) n u) Q E s:=by
 obtain⟨⟨t,hx⟩,_,_⟩:=I.hok _ _ ex
 have fr:=I.fresh
 have nx:s.heap.objs.size≠x:=Dk (AF hx)
 refine mH I.kIn c wn hx λh2 ns2 ob oth=>?_
 have I2:=I.write (x:=x) (e:=x) (o:=Ce x C (some s.heap.objs.size)) (t':=s.toks+2) (h':=h2) (by rw[ex];exact EA) (.inl rfl) (λb o nb z=>oth b o nb z) ⟨_,ob⟩ (QX ob)
 have hnew:upd H x (Ce x C (some s.heap.objs.size)) s.heap.objs.size=none:=by rw[Aj nx];exact fr
 refine h s.heap.objs.size _ fr nx (I2.trackF (I.fpOk (Am _) hnew) (Sa ns2 (λf'=>?_) λy' hy=>?_))
 ·show RelO (List.lookup f' [(n,y)]) (if f'=n then some u else none);by_cases z:f'=n
  ·subst z;rw[AB rfl];simp only[List.lookup,LO];exact ry
  rw[Ao z];simp only[List.lookup,show(f' == n)=false from G4.mpr z];exact EA
 by_cases z:y'=n
 ·rw[z];exact Bo
 exact absurd (show(if y'=n then some u else none)=none from Ao z) hy
def XH {fs:List (Str×V)}(I:Inv X aa σ H s)(c:XC X.K C f G)(wn:Wn X.K C n)(ex:H x=some (Ce x C (some dx)))(ed:H dx=some (DF dx fs))(hl:fs.length<1000)(ry:RelV y u)
  (h:∀s',Inv X aa σ (upd H dx (DF dx (AI n y fs))) s'->Q () s'):wpAny (model X.prog X.w) A (setAttr (.ref x) n u) Q E s:=by
 obtain⟨⟨t,hx⟩,_,_⟩:=I.hok _ _ ex
 obtain⟨⟨mA,nsA,rA,wA⟩,_,_⟩:=I.hok _ _ ed
 refine mF I.kIn c wn hx nsA wA (by rw[Al,AL];lia) λh2 ns2 sb=>?_
 have there:∃o,h2.get? dx=some o:=by obtain⟨o,_,_,z,_⟩:=ns2;exact⟨o,z⟩
 refine h _ (I.write (x:=dx) (e:=dx) (o:=DF dx (AI n y fs)) (t':=s.toks+2) (h':=h2) (by rw[ed];exact EA) (.inl rfl) (λb o nb z=>(sb.2 b nb).trans z) there (Sa ns2 (λf'=>?_) λy' hy=>?_))
 ·show RelO ((AI n y fs).lookup f') (if f'=n then some u else mA f');rw[Bh];by_cases z:f'=n
  ·rw[AB z,AB z];exact ry
  rw[Ao z,Ao z];exact rA f'
 by_cases z:y'=n
 ·rw[z];exact(La n y fs).1
 refine(La n y fs).2 y' (wA y' λz2=>hy ?_)
 show(if y'=n then some u else mA y')=none
 rw[Ao z];exact z2
end
section
variable {X:Cx}{k:Nat}{f C G:Addr}{fd:FuncData}{ps:List Str}{sp:Sp}{x g n:Str}{p pos pos' apos:Pos}{e o value:Expr}{es:List Expr}{ta tv:TE}{t:TA}
def W1 (C:Addr)(t:TA):TE:=λσ H Q=>t σ H λvs H1=>∃x rest dd,vs=.ref x::rest/\H1 x=some (Ce x C dd)/\rest.length<=1000/\Q .non H1
def Zo (c:XC X.K C f G)(hg:Gl X g)(hm:X.mg g=some (.ref G))(ha:PA X (e::es) t)(hdb:(g == ("__debug__" : Str))=false:=by decide)
  (hst:starEach (e::es) X.env=(false,eval e X.env)::starEach es X.env:=by rfl)(hpl:(backTo pos (starEach es X.env)).any (·.1)=false:=by rfl)
  (ht:eval (.Call (.Attribute (.Name g p) "__init__" apos) (e::es) [] pos) X.env=(do
   let ov <- eval (.Name g p) X.env;standAt apos.atName;let (f,first) <- holding [ov] (getMethod ov "__init__" pl);callWith pos f first (backTo pos (starEach (e::es) X.env)) (backToKw pos (keywordEach [] X.env))):=by rfl) :
  PE X (.Call (.Attribute (.Name g p) "__init__" apos) (e::es) [] pos) (W1 C t):=by
 intro aa s σ H Q I h
 refine Os (pl:=pl) (Ek I hg hm ?_ hdb) ht
 refine method_cls I.kIn c.gG (cls_value I.kIn c.rG c.iG (by decide +kernel) ?_)
 refine VR (Ap (ha pos aa _ σ H _ (I.tok _) h) λus s1 hp0=>?_) hst hpl
 obtain⟨vs,H1,I1,r1,xx,rest,dd,ev,ex,hl,q1⟩:=hp0
 subst ev
 cases r1 with
 | cons r0 r2=>cases r0;refine kL I1 c ex (by rw[<- r2.length];exact hl) λs2 I2=>⟨.non,H1,I2,rfl,q1⟩
def Yw (C:Addr)(ta tv:TE)(n:Str):TS:=λD σ H=>tv σ H λy H1=>ta σ H1 λv H2=>∃x,v=.ref x/\H2 x=some (Ce x C none)/\∀d,H2 d=none->d≠x->D.nx σ (upd (upd H2 x (Ce x C (some d))) d (DF d [(n,y)]))
def Yv (C:Addr)(ta tv:TE)(n:Str):TS:=λD σ H=>tv σ H λy H1=>ta σ H1 λv H2=>∃x dx fs,v=.ref x/\H2 x=some (Ce x C (some dx))/\H2 dx=some (DF dx fs)/\dx≠x/\fs.length<1000/\D.nx σ (upd H2 dx (DF dx (AI n y fs)))
def Y6 (c:XC X.K C f G)(wn:Wn X.K C n)(ha:PE X o ta)(hv:PE X value tv)(hs:swapsWith value (some (.Attribute o n pos')) pos.line X.env=pure false):PS X (.Assign [.Attribute o n pos'] value pos) (Yw C ta tv n):=by intro aa s σ H D I h;refine R3 (Ap (hv aa s σ H _ I h) λu s1 hp0=>?_) hs;obtain⟨y,H1,I1,ry,q⟩:=hp0;refine Ap (ha aa s1 σ H1 _ I1 q) λov s2 hp1=>?_;obtain⟨v,H2,I2,rx,xx,ev,ex,q2⟩:=hp1;subst ev;obtain rfl:ov=Value.ref xx:=rx;exact XI I2 c wn ex ry λd s3 hd nd I3=>⟨σ,_,I3,q2 d hd nd⟩
def Tn (c:XC X.K C f G)(wn:Wn X.K C n)(ha:PE X o ta)(hv:PE X value tv)(hs:swapsWith value (some (.Attribute o n pos')) pos.line X.env=pure false):PS X (.Assign [.Attribute o n pos'] value pos) (Yv C ta tv n):=by intro aa s σ H D I h;refine R3 (Ap (hv aa s σ H _ I h) λu s1 hp0=>?_) hs;obtain⟨y,H1,I1,ry,q⟩:=hp0;refine Ap (ha aa s1 σ H1 _ I1 q) λov s2 hp1=>?_;obtain⟨v,H2,I2,rx,xx,dx,fs,ev,ex,ed,_,hl,q2⟩:=hp1;subst ev;obtain rfl:ov=Value.ref xx:=rx;exact XH I2 c wn ex ed hl ry λs3 I3=>⟨σ,_,I3,q2⟩
end
def Ln (a C d:Addr):HO:=.ext λh=>∃o,h.get? a=some o/\o.cls=.ref C/\o.dict=some d/\notCls o=true
section
variable {X:Cx}{f C G:Addr}{n:Str}{pos:Pos}{e:Expr}{ta:TE}
def W6 (C:Addr)(ta:TE)(n:Str):TE:=λσ H Q=>ta σ H λv H1=>∃a d fs y,v=.ref a/\H1 a=some (Ln a C d)/\H1 d=some (DF d fs)/\fs.lookup n=some y/\Q y H1
def Qw (c:XC X.K C f G)(hn:findIn X.K (.ref C) n=some none)(he:PE X e ta)(hb:attributeBase e n X.env (eval e X.env)=eval e X.env):PE X (.Attribute e n pos) (W6 C ta n):=by intro aa s σ H Q I h;refine VD hb (Ap (he aa s σ H _ I h) λu s1 hp0=>?_);obtain⟨v,H1,I1,rv,a,d,fs,y,ev,ea,ed,l,q⟩:=hp0;subst ev;obtain rfl:u=Value.ref a:=rv;obtain⟨⟨ob,hob,hcl,hdi,hno⟩,_,_⟩:=I1.hok _ _ ea;obtain⟨⟨mA,nsA,rA,wA⟩,_,_⟩:=I1.hok _ _ ed;obtain⟨od,hod,lk⟩:=QG nsA;obtain⟨u',hu,ru⟩:=RelO.some_of (v:=y) (o:=mA n) (by rw[<- l];exact rA n);have J:InstAt s1.heap a ob C (some od):=⟨hob,hcl,hno,by rw[hdi];exact hod⟩;exact lJ I1.kIn J c.ga c.gh c.sb (findObj_own c.hd hn rfl (by rw[lk,hu])) (Uy ru) ⟨y,H1,I1.tok _,ru,q⟩
end
end L2
namespace L2
open PySem PySem.Spec PyProof.Rows PySem.W
def DictAt (s:Shared)(a d:Addr):Prop:=∃o:Obj,s.heap.objs[a]? = some o/\o.dict=some d
def DictAt.of (h:s.heap.get? a=some o)(e:o.dict=some d):DictAt s a d:=⟨o,(Heap.get?_some_iff.mp h).1,e⟩
def DictAt.ks (h:DictAt s a d)(k:Ks s s'):DictAt s' a d:=by obtain⟨o,e,q⟩:=h;obtain⟨o',e',q'⟩:=k a o e;exact⟨o',e',q'.trans q⟩
def DictAt.get (h:DictAt s a d)(e:s.heap.get? a=some o):o.dict=some d:=by obtain⟨o',e',q⟩:=h;rw[(Heap.get?_some_iff.mp e).1]at e';cases e';exact q
def Ck (P:Program)(w:World)(C0:Addr):DD:=λag H s E e s'=>∃(a C t:Addr) (H':Hp) (B:Heap),e=.ref a/\Hj P w ag H s a H' B s'/\Heap.FlyingW B ag a (.ref C) (.ref t) s'.heap /\
 (E e (some C) H'\/(C=C0/\∃d,DictAt s' a d/\E (.ref d) none H'))
section
variable {P:Program}{w:World}{K:W.Frag}{mg:Str->Option Value}{base:Heap}{N:List Str}{qual:Str}{scope:Scope}{f C0:Addr}{cd:Value}{A:Around}{ag:List Env}{s0:Shared}{H0:Hp}{E:XK}
def Zu:Eg (Ck P w C0) (B3 (Ck P w C0) P w K mg base N qual scope f cd A ag s0 H0 E) E:=by
 intro aa σ H s e s' I h;obtain⟨a,C,t,H',B,rfl,F,hfl,q⟩:=h
 refine BI (Kd.any (Uh _ _) (wpAny_leaves_onW (E:=λ_ _=>False) (Q:=λ_ s''=>Heap.FlyingW B ag a (.ref C) (.ref t) s''.heap/\s'.heap.UpToSlots s''.heap/\s''={ s' with heap:=s''.heap }) I.ok.frames rfl hfl λh' hfl' ups=>⟨hfl',ups,rfl⟩))
  (λ_ s'' ⟨⟨hfl',ups,es⟩,ks⟩=>?_) (λ_ _ z=>z.1.elim)
 rw[es];refine⟨a,C,t,H',B,rfl,IT I rfl rfl rfl rfl F hfl' ups,hfl',?_⟩;rcases q with q | ⟨rfl,d,hd,q⟩
 ·exact .inl q
 refine .inr ⟨rfl,d,?_,q⟩;rw[<- es];exact hd.ks ks
def Zt:Eg (CXe P w) (B3 (Ck P w C0) P w K mg base N qual scope f cd A ag s0 H0 E) E:=by intro aa σ H s e s' I h;obtain⟨a,C,t,H',B,rfl,F,hfl,q⟩:=h;exact wpAny_leaves_onW I.ok.frames rfl hfl λh' hfl' ups=>⟨a,C,t,H',B,rfl,IT I rfl rfl rfl rfl F hfl' ups,hfl',.inl q⟩
def FnOk.dn {k:Nat} (F:FnOk P w K mg base (Ck P w C0) k f fd ps sp):FnOk P w K mg base (CXe P w) k f fd ps (λvs H Q E=>sp vs H Q (λe c H'=>c≠none/\E e c H')):=
 ⟨λvs H Q E h=>F.len vs H Q _ h,λA ag s H args us vs Q E hr he hb hv h=>Ea (F.run A ag s H args us vs Q _ hr he hb hv h) λr s' z=>by
  cases r with
  | ok u=>cases u <;> exact z
  | error e=>
   obtain⟨a,C,t,H',B,e1,F',hfl,q⟩:=z;refine⟨a,C,t,H',B,e1,F',hfl,?_⟩;rcases q with q | ⟨_,d,_,q⟩
   ·exact q.2
   exact absurd rfl q.1⟩
end
def FZ (H:Hp)(x:Addr):Hp:=λb=>if b=x then none else H b
def Fu (h:b≠x):FZ H x b=H b:=Ao h
def S8 :FZ H x x=none:=AB rfl
def S7 (h:FZ H x b=some u):b≠x/\H b=some u:=by
 by_cases z:b=x
 ·rw[z,S8]at h;cases h
 exact⟨z,by rwa [Fu z]at h⟩
section
variable {M:Model}{A:Around}{E:Value->Shared->Prop}{s:Shared}{env:Env}{C:Addr}
def YK (hh:A.handled=none)
  (h:wpAny M A x (λv s₁=>∃e t dd,v=.ref e/\XAt s₁.heap C/\s₁.heap.get? e=some { cls:=.ref C,dict:=dd,data:=.fields #[.ref t,.none,.none,.none,.bool false,.none] }/\E (.ref e) s₁) E s) :
  (wpAny M A (raiseStmt env (some x) none) Q E s):=by
 unfold raiseStmt
 refine Ad (BI h (λv s₁ hp0=>?_) λ_ _ x=>x)
 obtain⟨e,t,dd,ev,hX,he,hE⟩:=hp0
 subst ev
 obtain⟨NN,nm,qn,bs,bm,hdct,sn,sub,ab,col,dd',k0,k1,k2,k3,k5,hC,T⟩:=hX.ex
 have hcB:(Value.ref C::bm).contains (.type "BaseException")=true:=by rw[Rx,T.hasType Gi.hasBase,Bool.or_true]
 (obtain⟨hp,g,d,tk,os⟩:=s₁)
 repeat (first | wp_step | (with_reducible refine RC hC ?_;rw[hcB]) | with_reducible refine FJ hC ?_ | with_reducible refine FJ he ?_)
 (exact wpAny_raiseNew_none hh hE)
end
def WI (C:Addr)(sp:Sp)(t:TA)(E:XK):TS:=λ_ σ H=>t σ H λvs H1=>vs.length<=1000/\∀x,H1 x=none ->
 sp (.ref x::vs) (upd H1 x (Ce x C none)) (λv H2=>v=.non/\∃d,H2 x=some (Ce x C (some d))/\E (.ref d) none (FZ H2 x)) E0
def Y5 {P:Program}{w:World}{K:W.Frag}{mg:Str->Option Value}{base:Heap}{N:List Str}{qual:Str}{scope:Scope}{f:Addr}{cd:Value}{A:Around}{ag:List Env}{s0:Shared}{H0:Hp}{E:XK}{C G fI:Addr}{fd:FuncData}{k:Nat}{ps:List Str}{sp:Sp}{x:Str}{np cpos pos:Pos}{e₀:Expr}{es:List Expr}{t:TA}
  (c:XC K C fI G)(FI:FnOk P w K mg base CX0 k fI fd ps sp)(hr:Room (k+1) (A.deeper (envOfC qual scope s0.heap.objs.size f cd)))(hbI:Binds K fd ps [])
  (hg:Gl (B3 (Ck P w C) P w K mg base N qual scope f cd A ag s0 H0 E) x)(hm:mg x=some (.ref C))(ha:PA (B3 (Ck P w C) P w K mg base N qual scope f cd A ag s0 H0 E) (e₀::es) t)
  (he:starEach (e₀::es) (envOfC qual scope s0.heap.objs.size f cd)=(false,eval e₀ (envOfC qual scope s0.heap.objs.size f cd))::starEach es (envOfC qual scope s0.heap.objs.size f cd):=by rfl)
  (hpl:(backTo cpos (starEach es (envOfC qual scope s0.heap.objs.size f cd))).any (·.1)=false:=by rfl)(hdb:(x == ("__debug__" : Str))=false:=by decide) :
  PS (B3 (Ck P w C) P w K mg base N qual scope f cd A ag s0 H0 E) (.Raise (some (.Call (.Name x np) (e₀::es) [] cpos)) none pos) (WI C sp t E):=by
 intro aa s σ H D I hw
 rw[arm_exec_Raise]
 refine Ad (N3 ?_)
 show wpAny (model P w) _ (raiseStmt _ (some (do let v <- eval (.Call (.Name x np) (e₀::es) [] cpos) (envOfC qual scope s0.heap.objs.size f cd);standAt pos;pure v)) none) _ _ _
 refine YK (C:=C) (I.ok.hd rfl) (Ad (BI ?_ (λv s₃ h₃=>Ad (N3 (An h₃))) λ_ _ x=>x))
 refine Fj (Ek I hg hm ?_ hdb)
 refine Jp (h₀:=base) I.ok.mod.kin c.kp (Ap (ha cpos aa s σ H _ I hw) λus s2 hp0=>?_) he hpl
 obtain⟨vs,H1,I1,r,hz,q⟩:=hp0
 refine⟨I1.kIn,?_⟩
 have ak:sizeLine=16777216:=AL
 have hus:=r.length
 have fresh0:=λe hle=>I1.hok.fresh (a:=e) hle
 have lay:=λ(h':Heap) (e te:Addr) (k:∀b u,s2.heap.get? b=some u->h'.get? b=some u) (hle:s2.heap.objs.size<=e) (hte:h'.get? e=some { cls:=.ref C,data:=.fields #[.ref te,.none,.none,.none,.bool false,.none] })=>I1.laid (a:=e) (o:=Ce e C none) (h':=h') (t':=s2.toks) k hle (QX hte)
 have key:∀(h':Heap) (e:Addr),Heap.MadeExcOf s2.heap h' e (.ref C) us->s2.heap.objs.size<=e ->
   wpAny (model P w) ((A.deeper (envOfC qual scope s0.heap.objs.size f cd)).under (.builtin "type.__call__" ⟨.ref C::us,[]⟩)) (call (.ref fI) (.ref e::us)) (λr s'=>r=.none/\∃e' t dd,Value.ref e=.ref e'/\XAt s'.heap C/\s'.heap.get? e'=some { cls:=.ref C,dict:=dd,data:=.fields #[.ref t,.none,.none,.none,.bool false,.none] }/\(B3 (Ck P w C) P w K mg base N qual scope f cd A ag s0 H0 E).xe (.ref e') s')
    (B3 (Ck P w C) P w K mg base N qual scope f cd A ag s0 H0 E).xe { s2 with heap:=h' }:=λh' e hmade hle=>by
  obtain⟨te,hte,_,_⟩:=hmade.there
  have hne:=fresh0 e hle
  have I2:=lay h' e te hmade.keeps hle hte
  have hq:=q e hne
  have r2:Vals (V.ref e::vs) (Value.ref e::us):=.cons rfl r
  have hl:(Value.ref e::us).length=ps.length:=by rw[<- r2.length];exact FI.len _ _ _ _ hq
  have hbind:=hbI { s2 with heap:=h' } (Value.ref e::us) I2.kIn (by rw[BR];exact hl)
  rw[BR]at hbind
  refine Ez (Ea (FI.run _ (envOfC qual scope s0.heap.objs.size f cd::ag) { s2 with heap:=h' } _ ⟨Value.ref e::us,[]⟩ (Value.ref e::us) _ _ E0 (hr.make C us []) (I2.env0.make C us []) hbind r2 hq) λrs s3 hq'=>?_)
  cases rs with
  | error e'=>exact hq'.elim
  | ok fl=>
   cases fl with
   | next=>exact False.elim hq'
   | brk=>exact False.elim hq'
   | cont=>exact False.elim hq'
   | ret u=>
    obtain⟨v,H2,os3,bare3,un3,hok3,rv,ev,d,ex2,qE⟩:=hq'
    subst ev
    obtain rfl:u=.none:=rv
    obtain⟨⟨t3,hx3⟩,_,_⟩:=hok3 _ _ ex2
    have I3:=I2.call' (s':=s3) (ch:=[]) os3 un3 hok3 bare3 (λb z=>nomatch z)
    refine⟨rfl,e,t3,some d,rfl,I3.xAt c,hx3,?_⟩
    have hfree:=I3.stkFree
    have hin:∀env∈(envOfC qual scope s0.heap.objs.size f cd::ag),∀b,env.frame=some b->b∈e::frs (envOfC qual scope s0.heap.objs.size f cd::ag):=λenv hm b hb=>.tail _ (LG.mpr ⟨env,hm,hb⟩)
    obtain⟨B,eB⟩:∃B,B=hideAll s3.heap (e::frs (envOfC qual scope s0.heap.objs.size f cd::ag)):=⟨_,rfl⟩
    have funs:s3.heap.FunFrames B (envOfC qual scope s0.heap.objs.size f cd::ag):=by rw[eB];exact funFrames_hide I3.stack hin
    have hen:B.get? e=none:=by rw[eB];exact hideAll_none _ (.head _)
    have getB:∀b o,s3.heap.get? b=some o->b≠e->b∉frs (envOfC qual scope s0.heap.objs.size f cd::ag)->B.get? b=some o:=λb o z1 z2 z3=>by
     rw[eB]
     refine LC _ z1 λz=>?_
     rcases(AK.mp z)with z | z
     ·exact z2 z
     exact z3 z
    have hfr:s2.heap.get? e=none:=hmade.new
    have old:∀b o,s2.heap.get? b=some o->b≠e:=λb o z1 z2=>by rw[z2,hfr]at z1;cases z1
    have F:Hj P w (envOfC qual scope s0.heap.objs.size f cd::ag) H1 s2 e (FZ H2 e) B s3:=by
     refine⟨os3,bare3,⟨λb o z1 z2 z3 z4=>?_,λb o z1 z2 z3 z4=>?_,λb o z1 z2 z4=>?_,λb o z1 z4=>?_,λb xs z=>?_,λb o u z=>?_,λb ps' z=>?_⟩,λb u z=>?_,funs,S8,hfr,λb o z1 z2 z3=>?_,λb v z1 z2=>?_,λb o z1 z3=>?_⟩
     ·exact un3.keep b o (hmade.keeps b o z1) (by rw[Aj (old b o z1)];exact z2) z3 z4
     ·exact un3.slot b o (hmade.keeps b o z1) (by rw[Aj (old b o z1)];exact z2) z3 z4
     ·rw[Fu (old b o z1)]
      exact un3.free b o (hmade.keeps b o z1) (by rw[Aj (old b o z1)];exact z2) z4
     ·exact un3.there b o (hmade.keeps b o z1) z4
     ·have nb:=AM z hne
      rw[Fu nb]
      exact un3.tups b xs (by rw[Aj nb];exact z)
     ·have nb:=AM z hne
      rw[Fu nb]
      exact un3.frzs b o u (by rw[Aj nb];exact z)
     ·have nb:=AM z hne
      rw[Fu nb]
      exact un3.tbls b ps' (by rw[Aj nb];exact z)
     ·obtain⟨nb,z'⟩:=S7 z
      refine(hok3 b u z').stay (λ_ _ _ q=>q) (λc' q'=>?_) λc' xs q'=>?_
      ·rw[Fu (λy=>by rw[y,ex2]at q';cases q')];exact q'
      rw[Fu (λy=>by rw[y,ex2]at q';cases q')];exact q'
     ·exact getB b o (un3.keep b o (hmade.keeps b o z1) (by rw[Aj (old b o z1)];exact z2) z3 (by simp)) (old b o z1) z3
     ·cases zu:FZ H2 e b with
      | none=>exact absurd zu z1
      | some u=>
       obtain⟨nb,z'⟩:=S7 zu
       exact getB b v z2 nb λzz=>by
        have:=hfree b zz
        rw[z']at this
        cases this
     obtain⟨o',z'⟩:=un3.there b o (hmade.keeps b o z1) (by simp)
     exact⟨o',getB b o' z' (old b o z1) z3⟩
    refine BI (Kd.any (Uh _ _) (wpAny_leaving_firstW (E:=λ_ _=>False) (Q:=λ_ s''=>Heap.LeftW B (envOfC qual scope s0.heap.objs.size f cd::ag) e (.ref C) (.ref t3) s3.heap s''.heap/\s''={ s3 with heap:=s''.heap }) I3.ok.frames funs rfl hx3 (λb o q=>by rw[eB]at q;exact of_hideAll _ q) hen rfl rfl rfl λh' hL=>⟨hL,rfl⟩)) (λ_ s'' hp0=>?_) (λ_ _ z=>z.1.elim)
    obtain⟨⟨hL,es⟩,ks⟩:=hp0
    obtain⟨l1,⟨_,_,l2⟩,l3,l4⟩:=hL
    have hfl:Heap.FlyingW B ag e (.ref C) (.ref t3) s''.heap:=⟨l1,hen,l2,l3⟩
    have hD:=(DictAt.of hx3 rfl).ks ks
    rw[es]
    exact⟨e,C,t3,FZ H2 e,B,rfl,IT I1 rfl rfl rfl rfl F hfl l4,hfl,.inr ⟨rfl,d,by rw[<- es];exact hD,qE⟩⟩
 exact iL I1.kIn c (show us.length<=sizeLine by lia) key
section
variable {M:Model}{A:Around}{E:Value->Shared->Prop}{s:Shared}{base:Heap}{env:Env}{l ag:List Env}{L e d:Addr}{cls a0:Value}{Q:Unit->Shared->Prop}
def iR (hfr:A.frames=some (env::ag))(hf:env.frame=some L)(hfl:Heap.FlyingW base (env::ag) e cls a0 s.heap)(hD:DictAt s e d)
  (hQ:∀h',Heap.HeldW base (env::ag) e cls a0 L h'->s.heap.UpToSlots h'->DictAt { s with heap:=h' } e d->Q () { s with heap:=h' }):wpAny M A (noteFrame (.ref e) env) Q E s:=by
 refine BI (Kd.any (Ug _ _) (wpAny_looks_onW (E:=λ_ _=>False) (Q:=λ_ s'=>∃h',s'={ s with heap:=h' }/\Heap.HeldW base (env::ag) e cls a0 L h'/\s.heap.UpToSlots h') hfr hf hfl λh' a b=>⟨h',rfl,a,b⟩)) (λ_ s' hp0=>?_) (λ_ _ z=>z.1.elim)
 obtain⟨⟨h',es,a,b⟩,ks⟩:=hp0
 subst es
 exact hQ h' a b (hD.ks ks)
def jC (hh:Heap.HeldW base l e cls a0 L s.heap)(hD:DictAt s e d)(hQ:∀h',Heap.FlyingW base l e cls a0 h'->s.heap.UpToSlots h'->DictAt { s with heap:=h' } e d->Q () { s with heap:=h' }):wpAny M A (setFlight (.ref e) none) Q E s:=by refine BI (Kd.any (QJ _ _) (NZ (E:=λ_ _=>False) (Q:=λ_ s'=>∃h',s'={ s with heap:=h' }/\Heap.FlyingW base l e cls a0 h'/\s.heap.UpToSlots h') hh λh' a b=>⟨h',rfl,a,b⟩)) (λ_ s' hp0=>?_) (λ_ _ z=>z.1.elim);obtain⟨⟨h',es,a,b⟩,ks⟩:=hp0;subst es;exact hQ h' a b (hD.ks ks)
def jB (hh:Heap.FlyingW base l e cls a0 s.heap)(hD:DictAt s e d)(hQ:∀h',Heap.FlyingW base l e cls a0 h'->s.heap.UpToSlots h'->DictAt { s with heap:=h' } e d->Q () { s with heap:=h' }):wpAny M A (setFlight (.ref e) none) Q E s:=by refine BI (Kd.any (QJ _ _) (lands_againW (E:=λ_ _=>False) (Q:=λ_ s'=>∃h',s'={ s with heap:=h' }/\Heap.FlyingW base l e cls a0 h'/\s.heap.UpToSlots h') hh λh' a b=>⟨h',rfl,a,b⟩)) (λ_ s' hp0=>?_) (λ_ _ z=>z.1.elim);obtain⟨⟨h',es,a,b⟩,ks⟩:=hp0;subst es;exact hQ h' a b (hD.ks ks)
def T1 {h:Heap}{g:Array GenState}{d:Drawn}{t:Nat}{os:OsState}{e C:Addr}{oe:Obj}{Q:Bool->Shared->Prop}(hX:XAt h C)(he:h.get? e=some oe)(hcls:oe.cls=.ref C)(hq:Q true ⟨h,g,d,t,os⟩) :
  wpAny M A (excMatches (.ref e) (.ref C)) Q E ⟨h,g,d,t,os⟩:=by
 obtain⟨NN,nm,qn,bs,bm,hdct,sn,sub,ab,col,dd',k0,k1,k2,k3,k5,hC,T⟩:=hX.ex
 have hcB:(Value.ref C::bm).contains (.type "BaseException")=true:=by rw[Rx,T.hasType Gi.hasBase,Bool.or_true]
 (have hcC:(Value.ref C::bm).contains (.ref C)=true:=by simp)
 have nt:=tc_notTuple
 unfold excMatches
 (repeat (first | (with_reducible refine FJ he ?_;rw[hcls]) | with_reducible refine FJ hC ?_ | (with_reducible refine RC hC ?_;first | rw[hcB] | rw[hcC]) | wp_step))
 exact hq
end
section
variable {X:Cx}{aa:List (Addr×Obj)}{σ:St}{H:Hp}{s:Shared}
def Inv.track' (I:Inv X aa σ H s)(hn:H a=none)(h0:X.s₀.heap.get? a=none)(hl:a≠X.env.locals)(hc:∀x c,X.env.cells.lookup x=some c->a≠c)(hp:∀p∈X.pn++aa,a≠p.1)(new:ObjOk X.prog X.w (upd H a ob) s.heap a ob) :
  Inv X aa σ (upd H a ob) s:=by
 have ne:∀{b:Addr}{u:HO},H b=some u->b≠a:=λe=>AM e hn
 refine⟨I.ok,I.os,I.bare,⟨I.base.keep,I.base.slot,λb o e n hx=>?_,I.base.there,λb xs q=>?_,λb o u q=>?_,λb ps q=>?_⟩,I.loc,I.cell,by rw[Aj hl.symm];exact I.free,λx c e=>by rw[Aj (hc x c e).symm];exact I.freeC x c e,λp hpm=>?_,λb u e=>?_,I.len⟩
 ·rw[Aj (λz=>by rw[z,h0]at e;cases e)];exact I.base.free b o e n hx
 ·have:=I.base.tups b xs q;rw[Aj (ne this)];exact this
 ·have:=I.base.frzs b o u q;rw[Aj (ne this)];exact this
 ·obtain⟨m,q2⟩:=I.base.tbls b ps q;exact⟨m,by rw[Aj (ne q2)];exact q2⟩
 ·obtain⟨e,n,ne',nf,d⟩:=I.pin p hpm;exact⟨e,by rw[Aj (hp p hpm).symm];exact n,ne',nf,d⟩
 by_cases hb:b=a
 ·subst hb;rw[Ae]at e;cases e;exact new
 rw[Aj hb]at e
 exact(I.hok b u e).stay (λ_ _ _ q=>q) (λc q=>by rw[Aj (ne q)];exact q) λc xs q=>by rw[Aj (ne q)];exact q
end
def WB (len j:Nat)(C:Addr)(tb:XK->TS)(th:TS):TS:=λD σ H=>tb (λe c H'=>∃d,e=.ref d/\c=none/\∀a,H' a=none -> th { nx:=λσ' H2=>D.nx (σ'.set j none) H2,rt:=D.rt,bk:=λσ' H2=>D.bk (σ'.set j none) H2,ct:=λσ' H2=>D.ct (σ'.set j none) H2 } ((replicate len none).set j (some (.ref a))) (upd H' a (Ln a C d))) D σ H
def Y3 (hex:X.ex=[])(hst:X.stack=X.env::X.ag)(hfr:X.env.frame=some X.env.locals)
  (cx:XC X.K C fI G)(hg:Gl X x)(hm:X.mg x=some (.ref C))(hN:X.N.Nodup)(hi:X.N[j]? = some n)(hk:X.env.scope.names.lookup n=some .local)
  (hb:∀pn xe E',Eg (Ck X.prog X.w C) (X.at' pn xe) E'->PSs (X.at' pn xe) body (tb E'))(hs:∀a,PSs (X.held a λ_ _=>False) (b₀::suite) th)(hdb:(x == ("__debug__" : Str))=false:=by decide) :
  PS X (.Try body [.ExceptHandler (some (.Name x np)) (some n) (b₀::suite) hpos] [] [] pos) (WB X.N.length j C tb th):=by
 intro aa s σ H D I hw
 refine wpAny_Try_except (BI (hb (X.pn++aa) (λe s'=>∃σ1 H1 s1,Inv X aa σ1 H1 s1/\Ck X.prog X.w C X.stack H1 s1 _ e s') _ (λpins1 σ1 H1 s1 e s' I1 h=>⟨σ1,H1,s1,I1.unat I.ok,h⟩) [] s σ H D (I.at' _) hw) (λfl s1 h1=>?_) (λe s1 h1=>?_))
 ·cases fl with
  | next=>obtain⟨σ',H',I',q⟩:=h1;exact AD aa s1 σ' H' D (I'.unat I.ok) q
  | brk=>obtain⟨σ',H',I',q⟩:=h1;exact⟨σ',H',I'.unat I.ok,q⟩
  | cont=>obtain⟨σ',H',I',q⟩:=h1;exact⟨σ',H',I'.unat I.ok,q⟩
  | ret u=>obtain⟨v,σ',H',I',r,q⟩:=h1;exact⟨v,σ',H',I'.unat I.ok,r,q⟩
 obtain⟨σ1,H1,s0,I1,a,C',t,H',B,rfl,F,hfl,qq⟩:=h1
 obtain⟨eC,d,hD,q⟩:C'=C/\∃d,DictAt s1 a d/\∀a,H' a=none->th { nx:=λσ' H2=>D.nx (σ'.set j none) H2,rt:=D.rt,bk:=λσ' H2=>D.bk (σ'.set j none) H2,ct:=λσ' H2=>D.ct (σ'.set j none) H2 } ((replicate X.N.length none).set j (some (.ref a))) (upd H' a (Ln a C d)):=by
  rcases qq with⟨_,_,z,_⟩ | ⟨rfl,d,hd,d',ed,_,q⟩
  ·cases z
  cases ed;exact⟨rfl,d,hd,q⟩
 subst eC
 have hfree:=I1.stkFree
 have hframes:X.A.frames=some (X.env::X.ag):=by rw[<- hst];exact I1.ok.frames
 rw[hst]at hfl
 have hna:∀b o,s0.heap.get? b=some o->a≠b:=λb o e z=>by rw[<- z,F.fresh]at e;cases e
 refine iR hframes hfr hfl hD λh4 held4 ups4 hD4=>?_
 refine jC held4 hD4 λh5 hfl5 ups5 hD5=>?_
 have ups15:s1.heap.UpToSlots h5:=ups4.trans ups5
 have know:∀(h':Heap),B.StaysIn h'->s1.heap.UpToSlots h'->Inv X aa (replicate X.N.length none) H' { s1 with heap:=h' }:=λh' k ups=>by obtain⟨u,hok⟩:=QT F hfree k ups;have I2:Inv X aa σ1 H' { s1 with heap:=h' }:=I1.call' (s':={ s1 with heap:=h' }) (ch:=[]) F.os u hok F.bare (λb z=>nomatch z);exact I2.weak (by rw[Od];exact I1.len.symm) λi v e=>by rw[Ry]at e;split at e <;> cases e
 have I5:=know h5 hfl5.1 ups15
 obtain⟨oe,hoe,hoc⟩:=hfl5.there
 refine RB (RQ (Ek (X:=X.held a λ_ _=>False) (I5.held a _) hg hm ?_ hdb)) (by intro q;cases q)
 refine T1 (XAt.of I5.kIn cx.ex) hoe hoc (codeAny_handlers_suite_as ?_)
 refine jB hfl5 hD5 λh6 hfl6 ups6 hD6=>?_
 have I6:=know h6 hfl6.1 (ups15.trans ups6)
 obtain⟨m0,hn0,_⟩:=I1.loc
 obtain⟨oL,_,_,hoL,_⟩:=hn0
 obtain⟨o6,vs6,ho6,hc6,hd6,_⟩:=hfl6.first
 have I7:Inv X aa (replicate X.N.length none) (upd H' a (Ln a C' d)) { s1 with heap:=h6 }:=by
  refine I6.track' F.new ?_ (hna _ _ hoL) (λy c e=>?_) (λp hp=>hna _ _ (I1.pin p hp).1) ?_
  ·cases z:X.s₀.heap.get? a with
   | none=>rfl
   | some o=>obtain⟨o',e'⟩:=I1.base.there a o z (by rw[hex];simp);rw[F.fresh]at e';cases e'
  ·obtain⟨v,oc',hoc',_⟩:=I1.cell y c e;exact hna _ _ hoc'
  exact⟨⟨o6,ho6,hc6,hD6.get ho6,by unfold notCls;rw[hd6]⟩,⟨o6,ho6⟩,λh1 h2 ⟨o',q1,q2⟩ k=>⟨o',k _ q1,q2⟩⟩
 refine OP (X:=X.held a λ_ _=>False) (i:=j) (v:=.ref a) (I7.held a _) hN hi (.inl hk) rfl (λs7 I8=>?_) (.inr hk)
 refine BI (hs a aa s7 _ _ _ I8 (q a F.new)) (λfl s8 h8=>?_) (λ_ _ z=>z.elim)
 cases fl with
 | next=>obtain⟨σ',H2,I9,q9⟩:=h8;exact Mh (X:=X) (I9.unheld I.ok) hN hi hk λs9 I10=>⟨_,H2,I10,q9⟩
 | brk=>obtain⟨σ',H2,I9,q9⟩:=h8;exact Mh (X:=X) (I9.unheld I.ok) hN hi hk λs9 I10=>⟨_,H2,I10,q9⟩
 | cont=>obtain⟨σ',H2,I9,q9⟩:=h8;exact Mh (X:=X) (I9.unheld I.ok) hN hi hk λs9 I10=>⟨_,H2,I10,q9⟩
 | ret u=>obtain⟨v,σ',H2,I9,r,q9⟩:=h8;exact Mh (X:=X) (I9.unheld I.ok) hN hi hk λs9 I10=>⟨v,_,H2,I10,r,q9⟩
def WD (sp:Sp)(t:TA)(G:Addr)(th:TS):TS:=λD σ H=>t σ H λvs H1=>sp vs H1 (λ_ H2=>D.nx σ H2) (λe c H'=>∃a,e=.ref a/\c=some G/\(H' a=none->th D σ H'))
def Tj {k:Nat} (hex:X.ex=[])(hst:X.stack=X.env::X.ag)(hfr:X.env.frame=some X.env.locals)
  (owG:excIn X.K G Fe nG=true)(hg:Gl X x)(hm:X.mg x=some (.ref G))(F:FnOk X.prog X.w X.K X.mg X.base (CXe X.prog X.w) k f fd ps sp)(hr:Room k X.A)(hgf:Gl X y)(hmf:X.mg y=some (.ref f))(hkf:keepIn X.K (.ref f)=true)(hb:Binds X.K fd ps [])
  (ha:∀pn xe,PA (X.at' pn xe) (e::es) t)(hs:∀a,PSs (X.held a λ_ _=>False) (b₀::suite) th)(hdb:(x == ("__debug__" : Str))=false:=by decide)(hdf:(y == ("__debug__" : Str))=false:=by decide)
  (he:starEach (e::es) X.env=(false,eval e X.env)::starEach es X.env:=by rfl)(hpl:(backTo pos1 (starEach es X.env)).any (·.1)=false:=by rfl)(hsw:swapsWith (.Call (.Name y p) (e::es) [] pos1) none pos2.line X.env=pure false:=by rfl) :
  PS X (.Try [.Expr (.Call (.Name y p) (e::es) [] pos1) pos2] [.ExceptHandler (some (.Name x np)) none (b₀::suite) hpos] [] [] pos) (WD sp t G th):=by
 intro aa s σ H D I hw
 obtain⟨E',eE⟩:∃E':XK,E'=λe c H'=>∃a,e=.ref a/\c=some G/\(H' a=none->th D σ H'):=⟨_,rfl⟩
 obtain⟨xe,ex⟩:∃xe:Value->Shared->Prop,xe=λe s'=>∃H1 s1,Inv X aa σ H1 s1/\CXe X.prog X.w X.stack H1 s1 E' e s':=⟨_,rfl⟩
 have J:Inv (X.at' (X.pn++aa) xe) [] σ H s:=I.at' xe
 have body:wpAny (model X.prog X.w) X.A (execs [.Expr (.Call (.Name y p) (e::es) [] pos1) pos2] X.env) (λfl s1=>fl=.next/\∃H2,Inv X aa σ H2 s1/\D.nx σ H2) xe s:=by
  refine Of (wpAny_Expr_any ?_ I.quiet hsw);refine Fj (Ek (X:=X.at' (X.pn++aa) xe) J hgf hmf ?_ hdf);refine Jp (h₀:=X.base) I.ok.mod.kin hkf (Ap (ha (X.pn++aa) xe pos1 [] s σ H _ J hw) λus s1 hp0=>?_) he hpl;obtain⟨vs,H1,J1,r,q⟩:=hp0;refine⟨J1.kIn,?_⟩;have I1:Inv X aa σ H1 s1:=J1.unat I.ok;have hl:us.length=ps.length:=by rw[<- r.length];exact F.len _ _ _ _ q
  have hbind:=hb s1 us I1.kIn (by rw[BR];exact hl);rw[BR]at hbind;refine Ez (Ea (F.run X.A X.stack s1 H1 ⟨us,[]⟩ us vs _ E' hr I1.env0 hbind r (by rw[eE];exact q)) λrs s2 hq=>?_);cases rs with
  | error e'=>show xe e' s2;rw[ex];exact⟨H1,s1,I1,hq⟩
  | ok fl=>
   cases fl with
   | ret u=>obtain⟨v,H2,I2,_,q2⟩:=I1.after hq;exact Jm ⟨rfl,H2,I2,q2⟩
   | next=>exact False.elim hq
   | brk=>exact False.elim hq
   | cont=>exact False.elim hq
 refine wpAny_Try_except (BI body (λfl s1 ⟨ef,H2,I2,q⟩=>?_) (λe' s1 h1=>?_))
 ·subst ef;exact AD aa s1 σ H2 D I2 q
 rw[ex,eE]at h1
 obtain⟨H1,s0,I1,a,C,t',H',B,rfl,Fl,hfl,a',e1,e2,q⟩:=h1
 cases e1
 cases e2
 have hfree:=I1.stkFree
 have hframes:X.A.frames=some (X.env::X.ag):=by rw[<- hst];exact I1.ok.frames
 rw[hst]at hfl
 refine wpAny_looks_onW hframes hfr hfl λh4 held4 ups4=>?_
 refine NZ held4 λh5 hfl5 ups5=>?_
 have ups15:s1.heap.UpToSlots h5:=ups4.trans ups5
 have know:∀(h':Heap),B.StaysIn h'->s1.heap.UpToSlots h'->Inv X aa σ H' { s1 with heap:=h' }:=λh' k ups=>by obtain⟨u,hok⟩:=QT Fl hfree k ups;exact I1.call' (s':={ s1 with heap:=h' }) (ch:=[]) Fl.os u hok Fl.bare (λb z=>nomatch z)
 have I5:=know h5 hfl5.1 ups15
 obtain⟨bmG,exG⟩:=Tw I5.kIn owG
 obtain⟨N,nm,qn,bs,hdct,sn,sub,ab,col,dd,k0,k1,k2,k3,k5,mN,aG,_,_,tl⟩:=exG
 have hbaseG:bmG.contains (.type "BaseException")=true:=tl.hasType Gi.hasBase
 obtain⟨oe,hoe,hoc⟩:=hfl5.there
 refine RB (RQ (Ek (X:=X.held a λ_ _=>False) (I5.held a _) hg hm ?_ hdb)) (by intro q;cases q)
 refine wpAny_excMatches_sub_self aG hoe hoc hbaseG (codeAny_handlers_suite ?_)
 refine lands_againW hfl5 λh6 hfl6 ups6=>?_
 have I6:=know h6 hfl6.1 (ups15.trans ups6)
 refine BI (hs a aa { s1 with heap:=h6 } _ _ D (I6.held a _) (q Fl.new)) (λfl s8 h8=>?_) (λ_ _ z=>z.elim)
 cases fl with
 | next=>obtain⟨σ',H2,I9,q9⟩:=h8;exact⟨σ',H2,I9.unheld I.ok,q9⟩
 | brk=>obtain⟨σ',H2,I9,q9⟩:=h8;exact⟨σ',H2,I9.unheld I.ok,q9⟩
 | cont=>obtain⟨σ',H2,I9,q9⟩:=h8;exact⟨σ',H2,I9.unheld I.ok,q9⟩
 | ret u=>obtain⟨v,σ',H2,I9,r,q9⟩:=h8;exact⟨v,σ',H2,I9.unheld I.ok,r,q9⟩
end L2
namespace L2
open PySem PySem.W PyProof.Rows
end L2
namespace L2
open PySem PySem.Spec PyProof.Rows PySem.W
def Zi :PE X e (λ_ _ _=>False):=λ_ _ _ _ _ _ h=>h.elim
end L2
namespace L2
open PySem
def oK:bootBuiltins "min" = some (.builtin "min"):=by decide +kernel
end L2
namespace L2
open PySem PyProof.Rows
end L2
namespace L2
open PySem PySem.Spec PyProof.Rows
structure FunD (K:W.Frag)(x qual:Str)(st:Stmt)(f:Addr)(fd:FuncData)(T:Addr):Prop where
 ex:∃(oc:Value) (od:Option Addr) (kV doc pm:Value) (an:Option Addr) (aj ct:Value) (osl:Array (Option Value)),
  fd=PySem.W.fnOf x qual (Du st) (Cf st) (Ak st) (.ref T) kV doc pm an aj ct/\K.lookup f=some ⟨oc,od,.func fd,osl⟩/\PySem.W.codeIn K aj qual=true
section
variable {P:Program}{w:World}{K:W.Frag}{mg:Str->Option Value}{base:Heap}
def FunD.ok {x qual:Str}{st:Stmt}{f T:Addr}{fd:FuncData}{N ps:List Str}{k:Nat}{sp:Sp}(F:FunD K x qual st f fd T)(S:Au N ps (Ak st))(len:∀vs H Q E,sp vs H Q E->vs.length=ps.length)
  (hbody:∀(aj:Value) (A:Around) (ag:List Env) (s:Shared) (H:Hp) (vs:List V) (Q:VK) (E:XK),Room k (A.deeper (envOfC qual (Ak st) s.heap.objs.size f aj))->sp vs H Q E -> ∃t,PSs (B3 CX0 P w K mg base N qual (Ak st) f aj A ag s H E).nox (Cf st) t/\t { nx:=λ_ H'=>Q .non H',rt:=Q } (DH N vs) H):FnOk P w K mg base CX0 (k+1) f fd ps sp:=by
 obtain⟨oc,od,kV,doc,pm,an,aj,ct,osl,e,lk,hcd⟩:=F.ex
 subst e
 exact Li lk hcd S len λA ag s H vs Q E hr hsp=>(hbody aj A ag s H vs Q E hr hsp).imp λt z=>⟨z.1.nox,z.2⟩
def FunD.binds {x qual:Str}{st:Stmt}{f T:Addr}{fd:FuncData}{ps:List Str}{oc:Value}{od:Option Addr}{items:Array Value}{n:Nat}{sl:Array (Option Value)}(F:FunD K x qual st f fd T)(lT:K.lookup T=some ⟨oc,od,.seq items n,sl⟩)
  (h:∀(kV doc pm:Value) (an:Option Addr) (aj ct:Value) (us:List Value),us.length=ps.length->∃k,bindArgs (PySem.W.fnOf x qual (Du st) (Cf st) (Ak st) (.ref T) kV doc pm an aj ct) ⟨us,[]⟩=seqItems? (.ref T) >>= k/\k (some items)=pure (ps.zip us)):Binds K fd ps []:=by
 obtain⟨oc',od',kV,doc,pm,an,aj,ct,osl,e,lk,hcd⟩:=F.ex
 subst e
 intro s us KX hl
 rw[BR]at hl ⊢
 obtain⟨k,h1,h2⟩:=h kV doc pm an aj ct us hl
 exact PySem.W.binds_K KX rfl lT rfl h1 h2
def lQ {x qual:Str}{st:Stmt}{f T:Addr}{oc:Value}{od an:Option Addr}{osl:Array (Option Value)}{kV doc pm aj ct:Value}(l:K.lookup f=some ⟨oc,od,.func (PySem.W.fnOf x qual (Du st) (Cf st) (Ak st) (.ref T) kV doc pm an aj ct),osl⟩)
  (c:PySem.W.codeIn K aj qual=true):FunD K x qual st f (PySem.W.fnOf x qual (Du st) (Cf st) (Ak st) (.ref T) kV doc pm an aj ct) T:=⟨⟨oc,od,kV,doc,pm,an,aj,ct,osl,rfl,l,c⟩⟩
end
end L2
namespace L2
open PySem PySem.Spec PyProof.Rows PySem.W
section
variable {X:Cx}
def WU (C:Addr):TE:=λ_ H Q=>∀x dx,H x=none->H dx=none->dx≠x->Q (.ref x) (upd (upd H dx (.own x)) x (.ins C dx []))
def Zl (mk:makesIn X.K C=true)(hi:findIn X.K (.ref C) "__init__" = some (some (.builtin "object.__init__")))(so:subIn X.K (.ref C) (.type "object")=some true)(kp:keepIn X.K (.ref C)=true)(hg:Gl X x)(hm:X.mg x=some (.ref C))(hdb:(x == ("__debug__" : Str))=false:=by decide) :
  PE X (.Call (.Name x p) [] [] pos) (WU C):=by
 intro aa s σ H Q I h
 refine Fj (Ek I hg hm ?_ hdb)
 refine RH I.kIn kp (Ez (iJ I.kIn mk hi (λself=>Looks.of_pure (oi_bind self)) ?_))
 have I2:=Inv.made (C:=C) I
 have hq:=h (s.heap.objs.size+1) s.heap.objs.size (I.hok.fresh (Ef _)) (I.hok.fresh (Am _)) (AY (Fo _))
 have at1:((s.heap.push emptyDict).push (instObj C s.heap.objs.size)).get? (s.heap.objs.size+1)=some (instObj C s.heap.objs.size):=by have z:=A7 (s.heap.push emptyDict) (o:=instObj C s.heap.objs.size) rfl;rwa [Eb]at z
 have ty:Looks (model X.prog X.w) ((s.heap.push emptyDict).push (instObj C s.heap.objs.size)) (typeOf (.ref (s.heap.objs.size+1))) (.ref C):=(Looks.ld at1).andThen .now
 have inst:Looks (model X.prog X.w) ((s.heap.push emptyDict).push (instObj C s.heap.objs.size)) (isInstance (.ref (s.heap.objs.size+1)) (.type "object")) true:=ty.andThen (Lv I2.kIn so)
 refine Jq oi_plain entry_oi (@check_slot (model X.prog X.w) _ _ { s with heap:=(s.heap.push emptyDict).push (instObj C s.heap.objs.size) } "object.__init__" "object" "__init__" (.ref (s.heap.objs.size+1)) [] [] _ oi_kind oi_split inst (oi_args _) ?_)
 rw[oi_run]
 exact An ⟨rfl,.ref (s.heap.objs.size+1),_,I2,rfl,hq⟩
def WT (V':Addr->Sp->Prop)(m:Str)(ta:TE):TE:=λσ H Q=>ta σ H λx H1=>∃(a C dx:Addr) (fs:List (Str×V)) (sp:Sp),x=.ref a/\H1 a=some (.ins C dx fs)/\fs.lookup m=none/\V' C sp/\sp [.ref a] H1 Q E0
def Zk (he:PE X o ta)
  (hV:∀C sp,V' C sp->∃(k:Nat) (f:Addr) (fd:FuncData) (ps:List Str),Cls X.K C/\B9 X.K C m f/\FnOk X.prog X.w X.K X.mg X.base CX0 k f fd ps sp/\Room k X.A/\Binds X.K fd ps [])
  (ht:eval (.Call (.Attribute o m apos) [] [] pos) X.env=(do
   let ov <- eval o X.env;standAt apos.atName;let (f,first) <- holding [ov] (getMethod ov m pl);callWith pos f first (backTo pos (starEach [] X.env)) (backToKw pos (keywordEach [] X.env))):=by rfl) :
  PE X (.Call (.Attribute o m apos) [] [] pos) (WT V' m ta):=by
 intro aa s σ H Q I h
 refine Os (pl:=pl) (Ap (he aa s σ H _ I h) λu s1 hp0=>?_) ht
 obtain⟨x,H1,I1,rx,a,C,dx,fs,sp,ex,ea,l,v,q⟩:=hp0
 subst ex
 obtain rfl:u=Value.ref a:=rx
 obtain⟨k,f,fd,ps,c,hm,F,hr,hb⟩:=hV C sp v
 refine QO I1 ea c hm l ?_
 exact RH (first:=[.ref a]) I1.kIn hm.kp (M9 (us:=[.ref a]) (vs:=[.ref a]) F hr hb .nil Ai I1 (.cons rfl .nil) q)
end
section
variable {X:Cx}
def Za (he:PE X e te)(hr:PJ X r t) :
  PJ X (.FormattedValue e (-1) none p2::r) (λout σ H Q=>te σ H λv H1=>∃x:Str,v=.str x/\x.length<=100000/\(out++x).length<=500000/\t (out++x) σ H1 Q):=by
 intro aa s σ H out Q I hl h
 have hs:sizeLine=16777216:=AL
 refine LI (FormattedValue_plain (Ap (he aa s σ H _ I h) λu2 s2 hp0=>?_))
 obtain⟨v2,H2,I2,r2,x,e3,lx,l2,q⟩:=hp0
 subst e3
 obtain⟨t2,rfl⟩:=r2
 refine formatField_str (λt' tk=>?_) (by lia)
 exact⟨by lia,hr aa _ σ H2 _ Q (I2.tok _) l2 q⟩
end
def L9 (K:W.Frag)(a:Addr)(n:Nat):It:=
 ⟨λi H=>i<n/\∃xs x,SqL K H a xs/\xs[n-1-i]? = some x,λi H x H'=>H'=H/\∀xs,SqL K H a xs->xs[n-1-i]? = some x,λi H=>n<=i⟩
theorem Wr {P:Program}{w:World}{K:W.Frag}{tg:Expr}(a it:Addr)(n:Nat):FS P w K tg (L9 K a n) [it] it (λi h=>i<=n/\h.IsRevIter it a ((n:Int)-1-(i:Int))) where
 mem:=by simp
 obj:=λi h st b hb=>by
  have e:b=it:=by simpa using hb
  subst e;obtain⟨_,o,e,c,d⟩:=st;exact⟨o,e,λv z=>by rw[d]at z;cases z⟩
 keep:=λi h h' st k=>⟨st.1,st.2.at λo e=>k it (by simp) o e⟩
 item:=by
  intro X hP hw hK hc i aa s σ H E I hf st hg;subst hP hw hK;obtain⟨hi,xs,x,hq,hx⟩:=hg;obtain⟨its,rv,p,hz⟩:=I.list hq;obtain⟨u,hu,ru⟩:=rv.get hx;obtain⟨f0,f1,f2,f3,f4,f5⟩:=hf it (by simp);have e0:(n:Int)-1-(i:Int)=((n-1-i:Nat):Int):=by lia
  have st2:=st.2;rw[e0]at st2;refine wpAny_pyNext_rev_item st2 p.isList (x:=u) (by simpa using hu) λh' st' sb=>?_;have I1:Inv X aa σ H { s with heap:=h' }:=I.turned (t':=s.toks) (λb o hb e=>(sb.2 b hb).trans e) f0 f1 f3 f4 f5;obtain⟨o,e,c,d⟩:=id st';have e1:((n-1-i:Nat):Int)-1=(n:Int)-1-((i+1:Nat):Int):=by lia
  rw[e1]at st';exact⟨u,rfl,Lf (s:={ s with heap:=h' }) e c d (by decide) ⟨x,H,I1,ru,⟨rfl,λys hy=>by rw[I.list_inj hy hq];exact hx⟩,⟨hi,st'⟩,λb hb=>(hf b hb).1⟩⟩
 done:=by
  intro X hP hw hK hc i aa s σ H E I hf st hg;subst hP hw hK;obtain⟨f0,f1,f2,f3,f4,f5⟩:=hf it (by simp);have hg':n<=i:=hg;have e0:(n:Int)-1-(i:Int)=-1:=by have:=st.1;lia
  have st2:=st.2;rw[e0]at st2;exact wpAny_pyNext_rev_end (I.ok.hd hc) st2 λh' eb=>⟨rfl,I.turned (t':=s.toks) (λb o hb e=>eb b o hb e) f0 f1 f3 f4 f5⟩
 self:=λ_ _ _ _ _ st h=>RK st.2 h
section
variable {X:Cx}{tg:Expr}
def kR (K:W.Frag)(ta:TA):TI:=λσ H R=>ta σ H λvs H1=>∃a xs,vs=[.ref a]/\SqL K H1 a xs/\R (L9 K a xs.length) H1
def Zd (hgr:Gl X "reversed")(hmr:X.mg "reversed" = none)(hvr:bootBuiltins "reversed" = some (.type "reversed"))(ha:PA X [a] ta)(hs:starEach [a] X.env=[(false,eval a X.env)]:=by rfl) :
  PI X tg (.Call (.Name "reversed" p2) [a] [] pos2) (kR X.K ta):=by
 intro aa s σ H R I h
 refine Call_ (FF I hgr hmr hvr (Ja (Ap (ha pos2 aa s σ H _ I h) λus s1 hp0=>?_) (by rw[hs];rfl) (by rfl)))
 obtain⟨vs,H1,I1,r1,q1⟩:=hp0
 obtain⟨l,xs,rfl,hq,q⟩:=q1
 obtain⟨u,rfl,ru⟩:=CV r1
 cases ru
 obtain⟨its,rv,p,hz⟩:=I1.list hq
 have hl:=rv.length
 refine call_reversed_list p.isList ?_
 have e1:((its.toArray.size:Nat):Int)-1=(xs.length:Int)-1:=by simp;lia
 rw[e1]
 have st:(s1.heap.push (revObj l ((xs.length:Int)-1))).IsRevIter s1.heap.objs.size l ((xs.length:Int)-1):=⟨_,A7 _ rfl,rfl,rfl⟩
 refine RK (s:={ s1 with heap:=s1.heap.push (revObj l ((xs.length:Int)-1)) }) st ?_
 refine⟨s1.heap.objs.size,[s1.heap.objs.size],_,_,H1,rfl,I1.kept (t':=s1.toks) λb o e=>AG _ e,Wr l _ xs.length,⟨Bk _,?_⟩,λb hb=>?_,q⟩
 ·have e2:(xs.length:Int)-1-((0:Nat):Int)=(xs.length:Int)-1:=by lia
  rw[e2];exact st
 have e:b=s1.heap.objs.size:=by simpa using hb
 subst e
 exact I1.fpOk (Am _) (I1.hok.fresh (Am _))
def lU {K:W.Frag}{a:Addr}{xs:List V}{g:TG}{tb:TS}{D:Fp}{σ:St}{H:Hp}(Pv:Nat->St->Hp->Prop)(h0:Pv 0 σ H)(hl:∀i σ H,i<=xs.length->Pv i σ H->SqL K H a xs)
  (hs:∀i x σ H,xs.reverse[i]? = some x->Pv i σ H->g x σ H λσ2 H2=>tb { D with nx:=Pv (i+1),ct:=Pv (i+1),bk:=D.nx } σ2 H2)(hd:∀σ H,Pv xs.length σ H->D.nx σ H) :
  ∃W:Nat->Nat->St->Hp->Prop,(∃m,W 0 m σ H)/\∀i m σ H,W i m σ H ->
   ((L9 K a xs.length).stop i H/\D.nx σ H)\/((L9 K a xs.length).go i H/\∃N:St->Hp->Prop,(∀σ' H',N σ' H'->∃m',m'<m/\W (i+1) m' σ' H')/\∀x H',(L9 K a xs.length).yld i H x H'->g x σ H' λσ2 H2=>tb { D with nx:=N,ct:=N,bk:=D.nx } σ2 H2):=by
 refine⟨λi m σ H=>m=xs.length-i/\i<=xs.length/\Pv i σ H,⟨xs.length,by simp,Bk _,h0⟩,?_⟩
 rintro i m σ H ⟨rfl,hi,p⟩
 have q:=hl i σ H hi p
 by_cases hlt:i<xs.length
 ·refine .inr ⟨⟨hlt,xs,xs[xs.length-1-i],q,by rw[AC (by lia)]⟩,Pv (i+1),λσ' H' p'=>⟨xs.length-(i+1),by lia,rfl,hlt,p'⟩,λx H' y=>?_⟩;obtain⟨e,y⟩:=y;subst e;exact hs i x σ _ (by rw[List.getElem?_reverse hlt];exact y xs q) p
 have e:i=xs.length:=by lia
 subst e
 exact .inl ⟨Am _,hd σ H p⟩
end
structure OG (K:W.Frag)(D:Addr):Prop where
 hd:hasDictIn K D=true
 hg:plainGet K D "__class__" = true
 ha:findIn K (.ref D) "__class__" = some (some (.builtin "object.__class__"))
 hn:specialIn K (.builtin "object.__class__") "__get__" = some (some (.builtin "getset_descriptor.__get__"))
 ht:takesIn K (.builtin "object.__class__")=some true
 hm:PySem.W.mroIn K D (.type "object")=some true
def IW :Cj X (.builtin "isinstance") (λxs H Q=>∃(a D C' dx:Addr) (fs:List (Str×V)),xs=[.ref a,.ref C']/\H a=some (.ins D dx fs)/\((isIn X.K (.ref D) C'=true/\Q (.bl true) H)\/(OG X.K D/\kin_not X.K D C'=true/\Q (.bl false) H))):=by
 intro aa s σ H xs us Q I r h;obtain⟨a,D,C',dx,fs,rfl,ha,q⟩:=h;obtain⟨u1,u2,rfl,r1,r2⟩:=Fq r;cases r1;cases r2;rcases q with⟨hb,q⟩ | ⟨n,hb,q⟩
 ·obtain⟨_,_,_,ho,_⟩:=I.hok a _ ha;exact isi_call I.kIn (λM=>(Looks.ld ho).andThen .now) hb (by intro z;cases z) ⟨.bl true,H,I,rfl,q⟩
 obtain⟨mA,O,_⟩:=IL I.hok ha;obtain⟨od,O',_⟩:=O.look;exact kin_callC I.kIn O' hb n.hg n.hd n.ha n.hn n.ht n.hm ⟨.bl false,H,I.tok _,rfl,q⟩
end L2
namespace L2
open PySem PyProof.Rows
section
variable {X:Cx}
def YS:R2:=λx y H Q=>∃(a b:Addr) (xs:List V),x=.ref a/\y=.ref b/\H a=some (.lst xs)/\H b=some (.lst [])/\Q (.bl xs.isEmpty) H
def TB (hu:X.A.units+64<cLine):By X (compareOp .Eq) YS:=by
 intro aa s σ H x y v u Q I rx ry h;obtain⟨a,b,xs,rfl,rfl,ha,hb,q⟩:=h;obtain rfl:v=Value.ref a:=rx;obtain rfl:u=Value.ref b:=ry;obtain⟨z1,is1,n1,r1,h1⟩:=I.hok _ _ ha;obtain⟨z2,is2,n2,r2,h2⟩:=I.hok _ _ hb;cases r2;have l1:s.heap.IsList a is1.toArray:=⟨_,h1,rfl,_,rfl⟩;have l2:s.heap.IsList b ([]:List Value).toArray:=⟨_,h2,rfl,_,rfl⟩;cases xs with
 | nil=>cases r1;exact PySem.SeqAt.RcAt.lists (e:=λ_=>true) l1 l2 rfl (by lia) (λj h _=>absurd h (LJ _)) _ _ _ _ ⟨.bl _,H,I,rfl,q⟩
 | cons y r=>cases r1;exact PySem.SeqAt.RcAt.lists_lengths l1 l2 rfl (by lia) _ _ _ _ ⟨.bl _,H,I,rfl,q⟩
end
end L2
namespace SG
open PySem PySem.W PyProof.Rows L2
section
variable {prog:Program}{w:World}{A:Around}{E:Value->Shared->Prop}{s:Shared}
def sv:Value->Str
 | .str x _=>x
 | _=>Str.empty
theorem SS:∀{vs:List Value},(∀v∈vs,∃t,v=.str (sv v) t)->StrsAre vs (vs.map sv)
 | [],_=>.nil
 | v::r,h=>by obtain⟨t,e⟩:=h v Bo;rw[e];exact .cons _ t (SS λx hx=>h x (Bn _ hx))
def sorted_setS (hh:A.handled=none)(g:Gd w t)(ft:t.fits es.size=true)(hz:es.size<64)(hb:s.heap.get? b=some (DW es ep t))(hi:∀e∈es.toList,∃t,e.2=.str (sv e.2) t)
  (q:∀(h':Heap) (d:Drawn) (tk e D:Nat) (out:Array Value) (ns:List Str),StrsAre out.toList ns->ns.Perm (es.toList.map λe=>sv e.2)->sortedS ns=true->h'.get? D=some (seqObj "list" out e)->s.heap.objs.size<=D->(∀c o,s.heap.get? c=some o->h'.get? c=some o) -> Q (.ref D) { s with heap:=h',drawn:=d,toks:=tk }):wpAny (model prog w) A (call (.builtin "sorted") [.ref b]) Q E s:=by
 (refine R1 kind_sorted plain_sorted entry_sorted (args_sorted1 _) ?_)
 unfold Builtin.«sorted»
 (refine Ad (m:=checkCount "sorted" 1 1 _) (An ?_))
 refine Ad (Vg (A:=A.in1) hh g ft (by lia) hb λh1 d tk ys pm lb k1=>?_)
 have hl:ys.length=es.size:=by have:=pm.length_eq;simpa using this
 (refine Ad (N2 ?_ (by rw[AL];lia)))
 have ai:∀v∈ys,∃t,v=.str (sv v) t:=λv hv=>by obtain⟨e,he,rfl⟩:=AE.mp (pm.mem_iff.mp hv);exact hi e he
 have pi:(ys.map sv).Perm (es.toList.map λe=>sv e.2):=by have:=pm.map sv;rw[BC]at this;exact this
 have texts:=SS ai
 have oL:(h1.push (seqObj "list" ys.toArray 0)).get? h1.objs.size=some (seqObj "list" ys.toArray 0):=A7 _ rfl
 refine Ad (Dl (Fg slot_list_sort ⟨_,oL,rfl⟩ entry_list_sort ?_ (args_list_sort _)))
 refine list_sort_treeK (s:={ s with heap:=h1.push (seqObj "list" ys.toArray 0),drawn:=d,toks:=tk }) strKind_oneLt oL texts.keysOf (λv₁ v₂ rest e=>keyKind_strs (by rw[<- e];exact texts)) (by lia) λst' pm so=>?_
 obtain⟨zs,z1,z2,z3⟩:=sorted_out_str texts pm so
 obtain⟨e,he⟩:=sortedHeap_at (out:=(arrOf st').map (·.2)) oL
 refine⟨_,rfl,An ⟨_,rfl,q _ d tk e _ _ zs z1 (z2.trans pi) z3 he lb λc o z=>?_⟩⟩
 have lc:=AF (k1 c o z)
 rw[sortedHeap_old (AY lc) (by rw[size_push'];exact Ff lc)]
 exact AG _ (k1 c o z)
end
end SG
namespace L2
open PySem PySem.W PyProof.Rows
section
variable {X:Cx}
def nW (hc:X.calm=true):Cj X (.builtin "sorted") (λxs H Q=>∃(a:Addr) (ns:List Str),xs=[.ref a]/\H a=some (Do X.prog X.w a (ns.map Sum.inr))/\ns.Nodup/\ns.length<64/\∀(l:Addr) (zs:List Str),H l=none->zs.Perm ns->sortedS zs=true->Q (.ref l) (upd H l (.lst (zs.map V.str)))):=by
 intro aa s σ H xs us Q I r h;obtain⟨a,ns,rfl,ha,nd,hz,q⟩:=h;obtain⟨u,rfl,ru⟩:=CV r;cases ru;obtain⟨⟨es,ep,t,ho,i⟩,_,_⟩:=I.hok a _ ha;have sz:=i.sz;rw[Al]at sz
 have key:∀e∈es.toList,∃n t,n∈ns/\e.2=.str n t:=λe he=>by
  obtain⟨⟨k,hk,_⟩,_⟩:=i.el e he;have hm:=memB_iff.mp ((i.me k).mpr ⟨e,he,hk⟩);obtain⟨n,hn,rfl⟩:=AE.mp hm;rcases Di (show DY (.inr n) e.2=true from hk)with⟨j,t,e1,e2⟩ | ⟨y,t,e1,e2⟩
  ·cases e1
  cases e1;exact⟨n,t,hn,e2⟩
 have pm:(es.toList.map λe=>SG.sv e.2).Perm ns:=by
  refine SG.perm_of nd (λx hx=>?_) (by rw[Al,DM];lia);obtain⟨e,he,hk⟩:=(i.me (.inr x)).mp (memB_iff.mpr (RF hx));rcases Di (show DY (.inr x) e.2=true from hk)with⟨j,t,e1,e2⟩ | ⟨y,t,e1,e2⟩
  ·cases e1
  cases e1;exact AE.mpr ⟨e,he,by rw[e2];rfl⟩
 refine SG.sorted_setS (I.ok.hd hc) i.gd i.ft (by lia) ho (λe he=>?_) λh' d tk c D out zs a1 a2 a3 a4 a5 a6=>?_
 ·obtain⟨n,t,_,e2⟩:=key e he;exact⟨t,by rw[e2];rfl⟩
 have pz:=a2.trans pm;have hl:=pz.length_eq;have hs:sizeLine=16777216:=AL;refine⟨.ref _,_,(I.laid (a:=D) (o:=.lst (zs.map V.str)) (t':=tk) a6 a5 ⟨by rw[Al];lia,out.toList,c,So a1,by simpa using a4⟩).dr d,rfl,q _ _ (I.hok.fresh a5) pz a3⟩
end
end L2
namespace RL
open PySem PyProof.Rows
def iP:typeLookup (.type "list_reverseiterator") "__len__" = pure none:=by rw[Jl,Js];kernel_rfl
def iQ:typeLookup (.type "list_reverseiterator") "__length_hint__" = pure (some (.builtin "list_reverseiterator.__length_hint__")):=by rw[Jl,Js];kernel_rfl
def iO:isSubtype (.type "list_reverseiterator") (.type "list_reverseiterator")=pure true:=by rw[N8];kernel_rfl
def kU:splitId "list_reverseiterator.__length_hint__" = some ("list_reverseiterator", "__length_hint__"):=by first | rfl | decide +kernel | kernel_rfl
section
variable {prog:Program}{w:World}{A:Around}{E:Value->Shared->Prop}{s:Shared}
def kX (hit:s.heap.IsRevIter it l i)(hQ:Q false s):wpAny (model prog w) A (Builtin.List.listLengthHint (.ref it)) Q E s:=by (unfold Builtin.List.listLengthHint);refine Ad (Ob hit.typeIs iP ?_);show wpAny _ _ (specialOf (Value.ref it) (Str.ofString "__length_hint__") >>= _) _ _ _;refine Ad (Ob hit.typeIs iQ ?_);dsimp only;rw[kU];dsimp only;refine Ad (wpAny_isInstance hit.typeIs iO ?_);rw[Ao (by decide),AB (by decide +kernel),Ao (by decide +kernel)];exact An hQ
variable {R:Result->Shared->Prop}
def extend (hh:A.handled=none)(hne:l≠I)(S:Addr)(res:Value)(c₀:Nat)(hit:s.heap.IsRevIter I l ((items.size:Int)-1))(hl:s.heap.IsList l items)(hSI:S≠I)(hSl:S≠l)(hs:items.size<=sizeLine)
  (hS:s.heap.get? S=some { cls:=.type "list",data:=.seq #[] c₀ })
  (hR:∀s' acc' c',Moved (S::[I]) (λa b=>b=a) s s'->s'.heap.get? S=some { cls:=.type "list",dict:=none,data:=.seq acc' c',slots:=#[] }->ItemsOf (λi v=>items[items.size-1-i]? = some v) acc' items.size->R (.ok (.ret res)) s') :
  wpAny (model prog w) A.in1 (Builtin.List.listExtendWith (.ref S) (.ref I) res)
   (λfin s'=>match fin with | .done f=>R (.ok f) s' | .again c'=>c'.quiet=true/\codeAny (model prog w) A c' R s') (λe s'=>R (.error e) s') s:=by
 have hSf:S∉[I,l]:=λh=>by
  simp only[AK,Bw,Bv]at h;rcases h with h | h
  ·exact hSI h
  exact hSl h
 (unfold Builtin.List.listExtendWith)
 refine Ad (Jf hit.typeIs ?_)
 (have h1:Builtin.List.listSameRef (.ref S) (.ref I)=false:=by simp[Builtin.List.listSameRef,hSI])
 have h2:(Value.type "list_reverseiterator" == Value.type "list")=false:=by decide
 have h3:(Value.type "list_reverseiterator" == Value.type "tuple")=false:=by decide
 (simp only[h1,h2,h3,Bool.or_false,Gm,G8])
 refine Ad (RK hit ?_)
 refine Ad (Dl (kX hit ?_))
 (rw[Ao (by decide +kernel)])
 refine An ⟨FP RE _,codeAny_extend_loopS (Walks.listRev (prog:=prog) (w:=w) (A:=A.in1) hh I l hne items).toS hs _ hSf _ items.size 0 _ _ _ rfl (Bk _) ⟨Bk _,?_,hl⟩ hS (ItemsOf.nil _) λs' acc' c' hm hS' hacc=>?_⟩
 ·rw[show(items.size:Int)-1-((0:Nat):Int)=items.size-1 by lia];exact hit
 exact hR s' acc' c' hm hS' hacc
def init (hh:A.handled=none)(hne:l≠I)(S:Addr)(hit:s.heap.IsRevIter I l ((items.size:Int)-1))(hl:s.heap.IsList l items)(hSI:S≠I)(hSl:S≠l)(hs:items.size<=sizeLine)
  (hS:s.heap.get? S=some { cls:=.type "list",data:=.seq #[] })
  (hR:∀h' tk acc' c',(∀b o,b≠S->b≠I->s.heap.get? b=some o->h'.get? b=some o)->h'.get? S=some { cls:=.type "list",dict:=none,data:=.seq acc' c',slots:=#[] }->ItemsOf (λi v=>items[items.size-1-i]? = some v) acc' items.size->R (.ok (.ret .none)) { s with heap:=h',toks:=tk }) :
  wpAny (model prog w) A.in1 (Builtin.«list.__init__» ⟨[.ref S,.ref I],[]⟩)
   (λfin s'=>match fin with | .done f=>R (.ok f) s' | .again c'=>c'.quiet=true/\codeAny (model prog w) A c' R s') (λe s'=>R (.error e) s') s:=by
 (show wpAny _ A.in1 (do let old <- Builtin.List.listItems (.ref S);Builtin.List.listUpdate (.ref S) (λ_=>#[]);letGo old.toList.reverse;Builtin.List.listExtendWith (.ref S) (.ref I) .none) _ _ s)
 refine Ad ?_
 unfold Builtin.List.listItems
 (refine Ad (Jh hS rfl (An ?_)))
 (show wpAny _ A.in1 (updateSeq S (λ_=>#[]) >>= λ_=>letGo (#[]:Array Value).toList.reverse >>= λ_=>Builtin.List.listExtendWith (.ref S) (.ref I) .none) _ _ s)
 (refine Ad (wpAny_updateSeq hS rfl ?_))
 (have hS₂:=G5 (Obj.mapSeq (λ_=>(#[]:Array Value))) hS rfl)
 have oth:∀b o,b≠S->s.heap.get? b=some o->(s.heap.update S (Obj.mapSeq (λ_=>(#[]:Array Value)))).get? b=some o:=
  λb o hb e=>(LZ _ _ (DB hb)).trans e
 refine Ad (wpAny_letGo ?_)
 refine extend hh hne S .none _ (hit.at λo e=>oth I o hSI.symm e) (hl.at λo e=>oth l o hSl.symm e) hSI hSl hs hS₂ λs' acc' c' hm hS' hacc=>?_
 rw[Moved.eq_with hm]
 refine hR s'.heap s'.toks acc' c' (λb o hb hI e=>hm.heap b o (λh=>?_) (oth b o hb e)) hS' hacc
 rcases(AK.mp h)with h | h
 ·exact hb h
 exact hI (AQ.mp h)
def call_list (hh:A.handled=none)(hne:l≠I)(hit:s.heap.IsRevIter I l ((items.size:Int)-1))(hl:s.heap.IsList l items)(hs:items.size<=sizeLine)
  (hQ:∀h' tk acc' c',(∀b o,b≠I->s.heap.get? b=some o->h'.get? b=some o)->h'.get? s.heap.objs.size=some { cls:=.type "list",dict:=none,data:=.seq acc' c',slots:=#[] }->ItemsOf (λi v=>items[items.size-1-i]? = some v) acc' items.size->Q (.ref s.heap.objs.size) { s with heap:=h',toks:=tk }) :
  (wpAny (model prog w) A (call (.type "list") [.ref I]) Q E s):=by
 refine callType_codes (Q₁:=λobj s₁=>obj=.ref s.heap.objs.size/\s₁ = { s with heap:=s.heap.push { cls:=.type "list",data:=.seq #[] } }) F.called_list (F.typeCall_list_1 _) F.entry_list_init
  (code_list_new _ ⟨rfl,rfl⟩) λobj s₁ h₁=>?_
 obtain⟨rfl,rfl⟩:=h₁
 (have hS:(s.heap.push { cls:=.type "list",data:=.seq #[] }).get? s.heap.objs.size=some { cls:=.type "list",data:=.seq #[] }:=A7 _ rfl)
 obtain⟨oi,hoi,_⟩:=id hit
 obtain⟨ol,hol,_⟩:=id hl
 have li:=AF hoi
 have ll:=AF hol
 refine⟨⟨_,hS,rfl⟩,F.args_list_init_2 _ _,init (A:=A.in1) hh hne _ (hit.at λo e=>AG _ e) (hl.at λo e=>AG _ e) (Dk li) (Dk ll) hs hS λh' tk acc' c' hk hS' hacc=>?_⟩
 exact⟨rfl,hQ h' tk acc' c' (λb o hb e=>hk b o (AY (AF e)) hb (AG _ e)) hS' hacc⟩
end
def rev_items {items acc:Array Value}(h:ItemsOf (λi v=>items[items.size-1-i]? = some v) acc items.size):acc=items.toList.reverse.toArray:=by
 apply Array.ext_getElem?;intro i;have hl:=h.1;by_cases hi:i<items.size
 ·have h1:acc[i]? = some (acc[i]'(by lia)):=FM (by lia);rw[<- ET,<- ET,RD,List.getElem?_reverse (by simpa using hi),ET,ET,DM,h.2 i _ h1,h1]
 rw[LY (by lia),LY (by simp;lia)]
end RL
namespace L2
open PySem PySem.Spec PyProof.Rows
def WZ (K:W.Frag)(ta:TA):TE:=λσ H Q=>ta σ H λvs H1=>∃a xs,vs=[.ref a]/\SqL K H1 a xs/\∀p,H1 p=none->Q (.ref p) (upd H1 p (.lst xs.reverse))
theorem Sq:∀{xs:List V}{us:List Value},Vals xs us->Vals xs.reverse us.reverse
 | _,_,.nil=>.nil
 | _,_,.cons a b=>by (rw[LS,LS]);exact(Sq b).append (.cons a .nil)
def Zm (hc:X.calm=true) (hgl:Gl X "list")(hml:X.mg "list" = none)(hvl:bootBuiltins "list" = some (.type "list"))(hg:Gl X "reversed")(hm:X.mg "reversed" = none)(hv:bootBuiltins "reversed" = some (.type "reversed"))(ha:PA X [a] ta)
  (hs:starEach [a] X.env=[(false,eval a X.env)]:=by rfl)
  (hs0:starEach [.Call (.Name "reversed" p2) [a] [] pos2] X.env=[(false,eval (.Call (.Name "reversed" p2) [a] [] pos2) X.env)]:=by rfl) :
  PE X (.Call (.Name "list" p1) [.Call (.Name "reversed" p2) [a] [] pos2] [] pos1) (WZ X.K ta):=by
 intro aa s σ H Q I h
 refine Fj (FF I hgl hml hvl ?_)
 refine Ja ?_ (by rw[hs0];rfl) rfl
 rw[hs0]
 show wpAny _ _ (spliced ((false,eval (.Call (.Name "reversed" p2) [a] [] pos2) X.env)::backTo pos1 [])) _ _ s
 refine Ol ?_
 refine Call_ (FF I hg hm hv (Ja (Ap (ha pos2 aa s σ H _ I h) λus s1 hp0=>?_) (by rw[hs];rfl) (by rfl)))
 obtain⟨vs,H1,I1,r1,q1⟩:=hp0
 obtain⟨x,xs,rfl,qa,q⟩:=q1
 obtain⟨u,rfl,ru⟩:=CV r1
 cases ru
 obtain⟨its,r2,pa,hz⟩:=I1.list qa
 have hl:=r2.length
 have ak:sizeLine=16777216:=AL
 have hsz:its.toArray.size=its.length:=Bx
 have pl:=pa.isList
 obtain⟨ox,hox,_⟩:=id pl
 have hx:=AF hox
 refine call_reversed_list pl ?_
 refine Rv ?_
 refine RL.call_list (A:=X.A) (l:=x) (items:=its.toArray) (I1.ok.hd hc) (AY hx) ⟨_,A7 _ rfl,rfl,rfl⟩ (pl.at λo e=>AG _ e) (by lia) λh' tk acc c' kk hS hacc=>?_
 have ea:=RL.rev_items hacc
 rw[RD]at ea
 subst ea
 have D:=I1.hok.fresh (a:=(s1.heap.push (revObj x (((its.toArray.size:Nat):Int)-1))).objs.size) (by rw[Eb];exact Ef _)
 refine⟨.ref _,_,I1.laid (t':=tk) (o:=.lst xs.reverse) (λb o e=>kk b o (AY (AF e)) (AG _ e)) (by rw[Eb];exact Ef _) ⟨by rw[Oo];lia,its.reverse,c',Sq r2,hS⟩,rfl,q _ D⟩
end L2
namespace LM
open PySem PySem.Spec PyProof.Rows PySem.W
section
variable {prog:Program}{w:World}{A:Around}{s:Shared}{R:Result->Shared->Prop}
def lam_code {q c' t:Addr}{ctv pm:Value}{name qual x:Str}{params:Arguments}{scope:Scope}{p1 p2 p3:Pos}{j:Nat}{its:List Value}{k:Int}{tk:Tok}
  (hroom:A.depth<recursionLimit)(ho:s.heap.get? q=some (kla_obj name qual params (.Subscript (.Name x p1) (.Constant (.int 0) j p2) p3) scope [] pm c' ctv))(hcd:s.heap.CodeRec (.ref c') qual)(hlim:s.heap.NoLimit)
  (hb:∀v:Value,bindArgs (kla_fn name qual params (.Subscript (.Name x p1) (.Constant (.int 0) j p2) p3) scope [] pm (.ref c') ctv) ⟨[v],[]⟩=pure [(x,v)])
  (hco:scope.isCoroutine=false)(hgen:scope.isGenerator=false)(hk:scope.kind=.function)(hcell:∀y∈scope.names,y.2≠.cell)(hloc:scope.names.lookup x=some .local)(hd:(x == ("__debug__" : Str))=false)
  (ht:IsTup s.heap t its.toArray)(h0:its[0]? = some (.int k tk))
  (hR:∀h' tk',(∀b o,s.heap.get? b=some o->h'.get? b=some o)->R (.ok (.ret (.int k tk))) { s with heap:=h',toks:=tk' }) :
  codeAny (model prog w) A (.call (.ref q) ⟨[.ref t],[]⟩) R s:=by
 refine kla_callFunE hroom ho rfl hco hgen rfl hcd ?_
 rw[hb]
 refine An (wpAny_newFunctionEnv hcell (λy hy=>by rw[AQ.mp hy];exact hloc) (λh₁ hns hsb=>⟨hlim.fresh _ hsb,?_⟩) hk)
 (have hk₁:∀b o,s.heap.get? b=some o->h₁.get? b=some o:=λb o e=>hsb.extBut b o (AY (AF e)) (AG _ e))
 refine kla_codeExpr ?_
 refine Subscript_ ?_
 refine wpAny_Name (wpAny_loadName_local (v:=.ref t) hk hloc hns (by simp) ?_) hd
 refine wpAny_Constant_int ?_
 have ht1:IsTup h₁ t its.toArray:=ht.keeps hk₁
 have hl:0<its.length:=(AN.mp h0).1
 refine RT (x:=.int k tk) ht1.typeIs slot_tuple_getitem.lookup (getItem_tuple (j:=0) ht1 (by decide) (by decide) ?_ (by simpa using h0) ⟨rfl,?_⟩) ?_
 ·rw[Bx];unfold seqIndex?;simp[hl]
 ·exact hR h₁ _ hk₁
 with_unfolding_all rfl
end
end LM
namespace L2
open PySem PySem.Spec PyProof.Rows PySem.W
section
variable {X:Cx}{aa:List (Addr×Obj)}{σ:St}{H:Hp}{s:Shared}{h':Heap}
def Inv.keptL (I:Inv X aa σ H s)(k:∀b u,b≠X.env.locals->s.heap.get? b=some u->h'.get? b=some u)(ns:∀m,s.heap.Ns X.env.locals m->h'.Ns X.env.locals m):Inv X aa σ H { s with heap:=h',toks:=t' }:=by
 have nl:∀{b:Addr}{o:HO},H b=some o->b≠X.env.locals:=λe=>AM e I.free;refine I.step (g':=s.gens) (d':=s.drawn) (ch:=[]) (λ_ z=>nomatch z) (λb o hb _ _ e _=>k b o hb e) (λb o hb _ _ e _=>⟨o.slots,k b o hb e⟩) (λ_ _ _ _ n=>n) (λb o _ e=>?_) (λ_ _ e=>e) (λ_ _ _ e=>e) (λb ps e=>⟨#[],by rw[Array.append_empty];exact e⟩) ns (λa o e=>(I.hok a o e).stay (λb u hb q=>k b u ?_ q) (λ_ q=>q) λ_ _ q=>q) I.bare
 ·by_cases hb:b=X.env.locals
  ·obtain⟨m,hn,_⟩:=I.loc;obtain⟨o',_,_,e',_⟩:=ns m hn;exact⟨o',by rw[hb];exact e'⟩
  exact⟨o,k b o hb e⟩
 rcases hb with z | z
 ·rw[z];exact nl e
 exact nl z
def Inv.grown (I:Inv X aa σ H s)(hT:H T=some (.tbl ps))(k:∀b u,b≠T->s.heap.get? b=some u->h'.get? b=some u)(hp:h'.get? T=some { cls:=.none,data:=.fields (ps++more) })
  (hc:s.heap.objs.size<=c)(new:φ h'/\(∃o,h'.get? c=some o)/\∀h1 h2:Heap,φ h1->(∀o,h1.get? c=some o->h2.get? c=some o)->φ h2):Inv X aa σ (upd (upd H T (.tbl (ps++more))) c (.ext φ)) { s with heap:=h',toks:=t' }:=by
 have hcn:=I.hok.fresh hc
 have Tc:T≠c:=λz=>by rw[z,hcn]at hT;cases hT
 have LT:X.env.locals≠T:=λz=>by have:=I.free;rw[z,hT]at this;cases this
 have at':∀{b:Addr}{o:HO},b≠T->H b=some o->(upd (upd H T (.tbl (ps++more))) c (.ext φ)) b=some o:=λ{b o} n e=>by rw[Aj (AM e hcn),Aj n];exact e
 have nT:∀{b:Addr}{o:HO},H b=some o->(∀qs,o≠.tbl qs)->b≠T:=λ{b o} e d z=>by rw[z,hT]at e;cases e;exact d _ rfl
 refine I.step (g':=s.gens) (d':=s.drawn) (ch:=[]) (λ_ z=>nomatch z) (λb o _ _ _ e n=>k b o (λz=>by rw[z,hT]at n;cases n) e) (λb o _ _ _ e n=>⟨o.slots,k b o (λz=>by rw[z,hT]at n;cases n) e⟩) (λb o _ e n=>?_) (λb o _ e=>?_)
  (λb xs e=>at' (nT e λ_ z=>by cases z) e) (λb o u e=>at' (nT e λ_ z=>by cases z) e) (λb qs e=>?_) (λm hh0=>by obtain⟨o,es,ep,e,r⟩:=hh0;exact⟨o,es,ep,k _ _ LT e,r⟩) (λa o e=>?_) I.bare
 ·have b1:b≠c:=λz=>C7 c (BJ (by rw[<- z];exact AF e) hc);rw[Aj b1,Aj λz=>by rw[z,hT]at n;cases n];exact n
 ·by_cases hb:b=T
  ·exact⟨_,by rw[hb];exact hp⟩
  exact⟨o,k b o hb e⟩
 ·by_cases hb:b=T
  ·subst hb;rw[hT]at e;cases e;exact⟨more,by rw[Aj Tc,Ae]⟩
  exact⟨#[],by rw[Array.append_empty];exact at' hb e⟩
 by_cases ha:a=c
 ·subst ha;rw[Ae]at e;cases e;exact new
 rw[Aj ha]at e
 by_cases hb:a=T
 ·subst hb;rw[Ae]at e;cases e;exact hp
 rw[Aj hb]at e
 exact(I.hok a o e).stay (λb u hb' q=>k b u (by
  rcases hb' with z | z
  ·rw[z];exact hb
  exact nT z λ_ y=>by cases y) q) (λb q=>at' (nT q λ_ y=>by cases y) q) λb xs q=>at' (nT q λ_ y=>by cases y) q
def C9 (qual:Str)(lpos:Pos)(H:Hp)(T:Addr):Prop:=H T=some (.tbl #[])\/∃c',H T=some (.tbl #[rawInt lpos.line,rawInt lpos.col,.ref c'])/\H c'=some (.ext λh=>h.CodeRec (.ref c') qual)
def jD {lpos:Pos} (I:Inv X aa σ H s)(hq:X.env.qual ++ "<lambda>" = qual)(hcode:X.env.code=.ref c)(hc:codeHdIn X.K c T=true)(tb:C9 qual lpos H T)
  (hdef:defaultsOf params X.env=([],[]))(hcl:closureFor scope X.env=pure [])(hgl:X.env.globals=mainGlobals)(hbm:∃bm o,X.mg "__builtins__" = some (.ref bm)/\bm≠builtinsNs/\bm≠mainGlobals/\X.base.get? bm=some o/\o.cls=.type "module" /\ o.dict=some builtinsNs/\o.data=.plain)
  (h:∀q c' ctv pm s' H',Inv X aa σ H' s'->(∀b u,H b=some u->b≠T->H' b=some u)->C9 qual lpos H' T->s'.heap.get? q=some (kla_obj "<lambda>" qual params body scope [] pm c' ctv)->q≠X.env.locals->s'.heap.CodeRec (.ref c') qual->(∀b u,b≠T->s.heap.get? b=some u->s'.heap.get? b=some u)->Q (.ref q) s') :
  wpAny (model X.prog X.w) X.A (eval (.Lambda params body scope lpos) X.env) Q E s:=by
 subst hq
 refine kla_eval hdef ?_
 have hns:s.heap.Ns mainGlobals X.mg:=I.mod.glob.keeps I.bk
 have C:=codeHd_of_K I.kIn hc
 have gT:∀{b:Addr}{o:Obj},X.base.get? b=some o->∀{u:HO},H T=some u->b≠T:=λ{b o} e {u} hT z=>by have:=(I.bs b o e).2;rw[z,hT]at this;cases this
 obtain⟨bm,ob,b1,b2,b3,b4,b5,b6,b7⟩:=hbm
 obtain⟨og,eg,pg,hog,_⟩:=I.mod.glob
 rcases tb with hT | ⟨c',hT,hc'⟩
 ·have hP:s.heap.get? T=some (tabObj #[]):=I.hok T _ hT;refine kla_makeFunction (mg:=X.mg) (ps:=#[]) hcl hgl hns hcode C hP trivial rfl (gT hog hT) ⟨bm,ob,b1,b2,b3,gT b4 hT,I.bk _ _ b4,b5,b6,b7⟩ λc' ctv h' tk hx hge hlt hrec htb=>?_;have crS:∀h1 h2:Heap,h1.CodeRec (.ref c') (X.env.qual ++ "<lambda>")->(∀o,h1.get? c'=some o->h2.get? c'=some o)->h2.CodeRec (.ref c') (X.env.qual ++ "<lambda>"):=by rintro h1 h2 ⟨c,o,vs,t,e,e1,e2,e3⟩ k;cases e;exact⟨c',o,vs,t,rfl,k o e1,e2,e3⟩
  have kk:∀b u,b≠T->s.heap.get? b=some u->(h'.push (kla_obj "<lambda>" (X.env.qual ++ "<lambda>") params body scope [] ((X.mg "__name__").getD .none) c' ctv)).get? b=some u:=λb u n e=>AG _ (hx b u n e);have hrec':=crS h' (h'.push (kla_obj "<lambda>" (X.env.qual ++ "<lambda>") params body scope [] ((X.mg "__name__").getD .none) c' ctv)) hrec λo e=>AG _ e;have Tc:T≠c':=λz=>C7 T (BJ (AF hP) (by rw[z];exact hge))
  have G:=I.grown (t':=tk) (h':=h'.push (kla_obj "<lambda>" (X.env.qual ++ "<lambda>") params body scope [] ((X.mg "__name__").getD .none) c' ctv)) (ps:=#[]) (more:=#[rawInt lpos.line,rawInt lpos.col,.ref c']) hT kk (AG _ htb) hge
   (φ:=λh=>h.CodeRec (.ref c') (X.env.qual ++ "<lambda>")) ⟨hrec',?_,crS⟩
  ·refine h _ c' ctv _ _ _ G (λb u e n=>?_) (.inr ⟨c',?_,Ae⟩) (A7 _ rfl) ?_ hrec' kk
   ·rw[Aj (AM e (I.hok.fresh hge)),Aj n];exact e
   ·rw[Aj Tc,Ae];rfl
   exact Dk (G6 (BJ I.lt hge) hlt)
  obtain⟨c,o,vs,t,e,e1,e2,e3⟩:=hrec';cases e;exact⟨o,e1⟩
 have hP:s.heap.get? T=some (tabObj #[rawInt lpos.line,rawInt lpos.col,.ref c']):=I.hok T _ hT
 have hrec:=(I.hok c' _ hc').1
 refine kla_makeFunctionHit (mg:=X.mg) (cv:=.ref c') (ps:=#[rawInt lpos.line,rawInt lpos.col,.ref c']) hcl hgl hns hcode C hP trivial ?_ ⟨bm,ob,b1,b2,b3,gT b4 hT,I.bk _ _ b4,b5,b6,b7⟩ λctv h' tk hk hsz=>?_
 ·simp[codeAmong,rawInt]
 have kk:∀b u,s.heap.get? b=some u->(h'.push (kla_obj "<lambda>" (X.env.qual ++ "<lambda>") params body scope [] ((X.mg "__name__").getD .none) c' ctv)).get? b=some u:=λb u e=>AG _ (hk b u e)
 refine h _ c' ctv _ _ H (I.kept kk) (λb u e _=>e) (.inr ⟨c',hT,hc'⟩) (A7 _ rfl) ?_ ?_ λb u _ e=>kk b u e
 ·exact Dk (BJ I.lt hsz)
 obtain⟨c,o,vs,t,e,e1,e2,e3⟩:=hrec
 exact⟨c,o,vs,t,e,kk _ _ e1,e2,e3⟩
def iF {E:Value->Shared->Prop}{a q c':Addr}{ctv pm:Value}{name qual x:Str}{params:Arguments}{scope:Scope}{p1 p2 p3:Pos}{j:Nat}{vs:List Value}{kf:Nat->Int}{Q:Value->Shared->Prop}(I:Inv X aa σ H s)(hh:X.A.handled=none)(hroom:X.A.in1.depth<recursionLimit)
  (hl:s.heap.IsList a vs.toArray)(hne:0<vs.length)(each:∀i v,vs[i]? = some v->∃t its tk,v=.ref t/\IsTup s.heap t (List.toArray its)/\its[0]? = some (.int (kf i) tk))
  (ho:s.heap.get? q=some (kla_obj name qual params (.Subscript (.Name x p1) (.Constant (.int 0) j p2) p3) scope [] pm c' ctv))(hqL:q≠X.env.locals)(hcd:s.heap.CodeRec (.ref c') qual)
  (hb:∀v:Value,bindArgs (kla_fn name qual params (.Subscript (.Name x p1) (.Constant (.int 0) j p2) p3) scope [] pm (.ref c') ctv) ⟨[v],[]⟩=pure [(x,v)])
  (hco:scope.isCoroutine=false)(hgen:scope.isGenerator=false)(hk:scope.kind=.function)(hcell:∀y∈scope.names,y.2≠.cell)(hloc:scope.names.lookup x=some .local)(hd:(x == ("__debug__" : Str))=false)
  (h:∀i v h' tk',vs[i]? = some v->(∀j,j<vs.length->kf i<=kf j/\(j<i->kf i<kf j))->Inv X aa σ H { s with heap:=h',toks:=tk' }->Q v { s with heap:=h',toks:=tk' }) :
  wpAny (model X.prog X.w) X.A (call (.builtin "min") [.ref a] [(Str.ofString "key",.ref q)]) Q E s:=by
 obtain⟨m,hn,_⟩:=I.loc
 obtain⟨oL,esL,epL,hoL,hdL,_⟩:=id hn
 have neL:∀{b:Addr}{o:Obj},s.heap.get? b=some o->(∀es ep,o.data≠.dict es ep)->b≠X.env.locals:=λ{b o} e d z=>by rw[z,hoL]at e;cases e;exact d _ _ hdL
 have N0:News (Att.noObjs s.heap) X.env.locals s.heap (Att.ledger s.heap X.env.locals X.env.locals):=λ⟨b,o⟩ hp=>by obtain⟨n1,_,e⟩:=Att.mem_ledger.mp hp;exact⟨e,n1,Att.noObjs_get _ _⟩
 have get:∀{h1:Heap}{own:List (Addr×Obj)},News (Att.noObjs s.heap) X.env.locals h1 (Att.ledger s.heap X.env.locals X.env.locals++own)->∀b o,b≠X.env.locals->s.heap.get? b=some o->h1.get? b=some o:=λ{h1 own} N b o n e=>(N (b,o) (Ec _ (Att.mem_ledger.mpr ⟨n,n,e⟩))).1
 have get0:∀{h1:Heap},News (Att.noObjs s.heap) X.env.locals h1 (Att.ledger s.heap X.env.locals X.env.locals)->∀b o,b≠X.env.locals->s.heap.get? b=some o->h1.get? b=some o:=λ{h1} N b o n e=>(N (b,o) (Att.mem_ledger.mpr ⟨n,n,e⟩)).1
 refine kmk_min (news:=Att.ledger s.heap X.env.locals X.env.locals) (vs:=vs) kf hh (Att.fr_all hn) N0 (λh1 _ N=>?_) hne (λi v hv h1 tk own F N=>?_) λi v h1 tk hv best F N=>?_
 ·obtain⟨o,e,r⟩:=id hl;exact hl.at λo' e'=>get0 N a o' (neL e' λes ep z=>by rw[e]at e';cases e';obtain⟨_,n,d⟩:=r;rw[d]at z;cases z) e'
 ·obtain⟨t,its,tk0,rfl,ht,h0⟩:=each i v hv;have k1:=get N;have lim:h1.NoLimit:=I.ok.mod.nolimit.keeps λb o e=>k1 b o (λz=>by have h9:=AF (I.ok.bs b o e).1;rw[z]at h9;exact absurd h9 (Nat.not_lt.mpr I.ok.above)) (I.bk b o e);have cd:h1.CodeRec (.ref c') qual:=by obtain⟨c,o,us,tt,e,e1,e2,e3⟩:=hcd;exact⟨c,o,us,tt,e,k1 c o (neL e1 λ_ _ z=>by rw[e2]at z;cases z) e1,e2,e3⟩
  have ht1:IsTup h1 t its.toArray:=by obtain⟨o,e,c1,n,d⟩:=ht;exact⟨o,k1 t o (neL e λ_ _ z=>by rw[d]at z;cases z) e,c1,n,d⟩
  refine Ez (LM.lam_code (s:={ s with heap:=h1,toks:=tk }) hroom (k1 q _ hqL ho) cd lim hb hco hgen hk hcell hloc hd ht1 h0 λh' tk' kk=>?_);exact⟨h',tk',tk0,rfl,rfl,⟨F.ns.keeps kk,λb o e=>kk b o (F.keep b o e),F.above⟩,λp hp=>⟨kk _ _ (N p hp).1,(N p hp).2⟩⟩
 exact h i v h1 tk hv best (I.keptL (get0 N) λm' hn'=>by
  have e:m'=m:=by obtain⟨o1,es1,ep1,g1,d1,_,f1⟩:=hn;obtain⟨o2,es2,ep2,g2,d2,_,f2⟩:=hn';rw[g1]at g2;cases g2;rw[d1]at d2;cases d2;funext y;rw[<- f1,<- f2]
  rw[e];exact F.ns)
def WS (K:W.Frag)(qual:Str)(lpos:Pos)(T:Addr)(ta:TA):TE:=λσ H Q=>ta σ H λvs H1=>∃(a:Addr) (ts:List Addr) (kf:Nat->Int),vs=[.ref a]/\SqL K H1 a (ts.map V.ref)/\0<ts.length/\(∀i t,ts[i]? = some t->∃y,H1 t=some (.tup [.int (kf i),y]))/\C9 qual lpos H1 T /\
 ∀i t H2,ts[i]? = some t->(∀j,j<ts.length->kf i<=kf j/\(j<i->kf i<kf j))->(∀c u,H1 c=some u->c≠T->H2 c=some u)->C9 qual lpos H2 T->Q (.ref t) H2
def Zj (hc:X.calm=true){k:Nat} {lpos:Pos} (hr:Room k X.A)(hg:Gl X "min")(hm:X.mg "min" = none)(hv:bootBuiltins "min" = some (.builtin "min"))(ha:PA X [e] ta)
  (hq:X.env.qual ++ "<lambda>" = qual)(hcode:X.env.code=.ref c)(hcT:codeHdIn X.K c T=true)(hgl:X.env.globals=mainGlobals)(hbm:∃bm o,X.mg "__builtins__" = some (.ref bm)/\bm≠builtinsNs/\bm≠mainGlobals/\X.base.get? bm=some o/\o.cls=.type "module" /\ o.dict=some builtinsNs/\o.data=.plain)
  (hdef:defaultsOf params X.env=([],[]):=by rfl)(hcl:closureFor scope X.env=pure []:=by rfl)(hb:∀(v pm cv ctv:Value),bindArgs (kla_fn "<lambda>" qual params (.Subscript (.Name x p1) (.Constant (.int 0) j p2) p3) scope [] pm cv ctv) ⟨[v],[]⟩=pure [(x,v)]:=by intros;rfl)
  (hco:scope.isCoroutine=false:=by rfl)(hgen:scope.isGenerator=false:=by rfl)(hk:scope.kind=.function:=by rfl)(hcell:∀y∈scope.names,y.2≠.cell:=by decide +kernel)(hloc:scope.names.lookup x=some .local:=by rfl)(hd:(x == ("__debug__" : Str))=false:=by decide)
  (he:backTo pos (starEach [e] X.env)=(false,eval e X.env)::backTo pos (starEach [] X.env):=by rfl)(hp:(backTo pos (starEach [e] X.env)).any (·.1)=false:=by rfl) :
  PE X (.Call (.Name "min" p) [e] [⟨some "key",.Lambda params (.Subscript (.Name x p1) (.Constant (.int 0) j p2) p3) scope lpos,p4⟩] pos) (WS X.K qual lpos T ta):=by
 intro aa s σ H Q I h
 refine Fj (FF I hg hm hv ?_ (by decide) (by decide))
 refine PyProof.Rows.callWith_kw (Ap (ha pos aa s σ H _ I h) λus s1 hp0=>?_) he hp
 obtain⟨vs,H1,I1,r1,q1⟩:=hp0
 obtain⟨a,ts,kf,rfl,hS,hne,htp,tb,q⟩:=q1
 obtain⟨u,rfl,ru⟩:=CV r1
 cases ru
 refine PyProof.Rows.kws_cons (jD I1 hq hcode hcT tb hdef hcl hgl hbm λf c' ctv pm s' H' I' kp tb' ho hfL hcd kk=>PyProof.Rows.kws_nil ?_)
 obtain⟨its,rv,pl,hz⟩:=I1.list hS
 have hl:=rv.length
 rw[Al]at hl
 have aT:a≠T:=by
  intro z;obtain⟨o,e,c1,_⟩:=pl.isList;rw[z]at e;rcases tb with hT | ⟨_,hT,_⟩
  ·rw[show s1.heap.get? T=some (tabObj _) from I1.hok T _ hT]at e;cases e;cases c1
  rw[show s1.heap.get? T=some (tabObj _) from I1.hok T _ hT]at e;cases e;cases c1
 have pl':s'.heap.IsList a its.toArray:=pl.isList.at λo e=>kk a o aT e
 have tat:∀(i:Nat) (v:Value),its[i]? = some v->∃t,ts[i]? = some t/\v=Value.ref t:=λi v hv=>by
  have hi:i<ts.length:=by have:=(AN.mp hv).1;lia
  have e1:(ts.map V.ref)[i]? = some (.ref ts[i]):=by rw[AV,AC hi];rfl
  obtain⟨u,e2,r2⟩:=rv.get e1;rw[hv]at e2;cases e2;exact⟨ts[i],AC hi,r2⟩
 refine iF (kf:=kf) I' (I1.ok.hd hc) ?_ pl' (by lia) (λi v hv=>?_) ho hfL hcd (λv=>hb v _ _ _) hco hgen hk hcell hloc hd λi v h' tk' hv best I2=>?_
 ·exact hr.depth
 ·obtain⟨t,h1,rfl⟩:=tat i v hv;obtain⟨y,h2⟩:=htp i t h1
  have tT:t≠T:=λz=>by
   rw[z]at h2;rcases tb with hT | ⟨_,hT,_⟩
   ·rw[hT]at h2;cases h2
   rw[hT]at h2;cases h2
  obtain⟨_,its',rv',tup⟩:=I'.hok t _ (kp t _ h2 tT);obtain⟨u0,u1,rfl,r0,_⟩:=Fq rv';obtain⟨tk,rfl⟩:=r0;exact⟨t,_,tk,rfl,tup,rfl⟩
 obtain⟨t,h1,rfl⟩:=tat i v hv
 exact⟨.ref t,H',I2,rfl,q i t H' h1 (λj hj=>best j (by lia)) kp tb'⟩
end
def Bm (mg:Str->Option Value)(base:Heap):Prop:=∃bm o,mg "__builtins__" = some (.ref bm)/\bm≠builtinsNs/\bm≠mainGlobals/\base.get? bm=some o/\o.cls=.type "module" /\ o.dict=some builtinsNs/\o.data=.plain
def Xq {P:Program}{w:World}{K:W.Frag}{mg mb:Str->Option Value}{CX:DD}{k:Nat}{fa a c T:Addr}{fd:FuncData}{x:Str}{sp:Sp}{s₁:Shared}{vs:List Value}{ns:List Int}
  (KX:K.In s₁.heap)(hns:s₁.heap.Ns mainGlobals mg)(hb:s₁.heap.Ns builtinsNs mb)(hbb:∀x:Str,x ≠ "__name__" -> mb x=bootBuiltins x)(hlim:s₁.heap.NoLimit)(hg:s₁.gens=#[])
  (ha:s₁.heap.get? a=some { cls:=.type "list",data:=.seq vs.toArray })(hi:IntsAre vs ns)(hl:ns.length<=sizeLine)(hr:Room k callerA)(hT:s₁.heap.get? T=some (tabObj #[]))(hKT:K.lookup T=none)(hc:codeHdIn K c T=true)
  (hbm:Bm mg s₁.heap)(F:∀base:Heap,K.In base->base.Ns mainGlobals mg->Bm mg base->FnOk P w K mg base CX k fa fd [x] sp)(hbind:∀(s:Shared) (u:Value),BindsTo s fd ⟨[u],[]⟩ [(x,u)])
  (hsp:∀H:Hp,SqL K H a (ns.map V.int)->H T=some (.tbl #[])->sp [.ref a] H (λv _=>v=.bl true) λ_ _ _=>False)
  (hCX:∀H e s',CX [] H s₁ (λ_ _ _=>False) e s'->False) :
  codeAny (model P w) callerA (.call (.ref fa) ⟨[.ref a],[]⟩) (λr s'=>r=.ok (.ret (.bool true))/\OldK s₁.heap s'.heap/\s'.os=s₁.os/\AllBare s'.gens) s₁:=by
 have rv:=Su hi
 have lenV:=hi.length
 have aT:a≠T:=λz=>by rw[z,hT]at ha;cases ha
 obtain⟨H,HT,Ha,Hn⟩:∃H:Hp,H T=some (.tbl #[])/\H a=(if (K.lookup a).isSome=true then none else some (.frz { cls:=.type "list",data:=.seq vs.toArray } (.lst (ns.map V.int))))/\∀b,b≠T->b≠a->H b=none:=
  ⟨λb=>if b=T then some (.tbl #[])else if b=a then(if (K.lookup a).isSome=true then none else some (.frz { cls:=.type "list",data:=.seq vs.toArray } (.lst (ns.map V.int))))else none,AB rfl,(Ao aT).trans (AB rfl),λb h1 h2=>(Ao h1).trans (Ao h2)⟩
 have hS:SqL K H a (ns.map V.int):=by
  cases hk:K.lookup a with
  | some o=>have e:=KX a o hk;rw[ha]at e;cases e;exact .inr ⟨_,vs.toArray,_,hk,rfl,rfl,rfl,by rw[Bx,lenV];exact hl,by simpa using rv⟩
  | none=>rw[hk]at Ha;exact .inl (.inr ⟨_,Ha⟩)
 have cases3:∀b u,H b=some u->(b=T/\u=.tbl #[])\/(b=a/\K.lookup a=none/\u=.frz { cls:=.type "list",data:=.seq vs.toArray } (.lst (ns.map V.int))):=λb u e=>by
  by_cases h1:b=T
  ·rw[h1,HT]at e;cases e;exact .inl ⟨h1,rfl⟩
  by_cases h2:b=a
  ·rw[h2,Ha]at e;cases hk:K.lookup a with
   | some o=>rw[hk]at e;cases e
   | none=>rw[hk]at e;cases e;exact .inr ⟨h2,rfl,rfl⟩
  rw[Hn b h1 h2]at e;cases e
 have hok:HOk P w H s₁.heap:=λb u e=>by
  rcases cases3 b u e with⟨rfl,rfl⟩ | ⟨rfl,_,rfl⟩
  ·exact hT
  exact⟨ha,by rw[Al];exact hl,vs,_,rv,ha⟩
 have base_of:∀{b:Addr}{o:Obj},s₁.heap.get? b=some o->H b=none->(E9 s₁.heap H).get? b=some o:=λe n=>kZ e n
 have noD:∀{b:Addr}{o:Obj}{es:Array DictEntry}{ep:Nat},s₁.heap.get? b=some o->o.data=.dict es ep->H b=none:=λ{b o es ep} e d=>by
  cases q:H b with
  | none=>rfl
  | some u=>
   rcases cases3 b u q with⟨rfl,_⟩ | ⟨rfl,_⟩
   ·rw[hT]at e;cases e;cases d
   rw[ha]at e;cases e;cases d
 have nsK:∀{b:Addr}{m:Str->Option Value},s₁.heap.Ns b m->(E9 s₁.heap H).Ns b m:=λ{b m} ⟨o,es,ep,e,d,r⟩=>⟨o,es,ep,base_of e (noD e d),d,r⟩
 have hKb:K.In (E9 s₁.heap H):=λb o e=>base_of (KX b o e) (by
  cases q:H b with
  | none=>rfl
  | some u=>
   rcases cases3 b u q with⟨rfl,_⟩ | ⟨rfl,hk,_⟩
   ·rw[hKT]at e;cases e
   rw[hk]at e;cases e)
 have hBm:Bm mg (E9 s₁.heap H):=by
  obtain⟨bm,ob,h1,h2,h3,h4,h5,h6,h7⟩:=hbm;refine⟨bm,ob,h1,h2,h3,base_of h4 ?_,h5,h6,h7⟩;cases q:H bm with
  | none=>rfl
  | some u=>
   rcases cases3 bm u q with⟨rfl,_⟩ | ⟨rfl,_⟩
   ·rw[hT]at h4;cases h4;cases h7
   rw[ha]at h4;cases h4;cases h7
 have hM:Mod K mg (E9 s₁.heap H):=⟨hKb,nsK hns,⟨mb,nsK hb,hbb⟩,let ⟨mc,h1,h2⟩:=hlim;⟨mc,nsK h1,h2⟩⟩
 have e0:Env0 P w K mg (E9 s₁.heap H) callerA [] s₁ H:=⟨rfl,hM,λb o e=>cJ e,le_of_eq (kY _ _),trivial,λb hb=>absurd (show b∈([]:List Addr) from hb) (by simp),hok,.of_eq hg⟩
 refine Ea ((F _ hKb (nsK hns) hBm).run callerA [] s₁ H ⟨[.ref a],[]⟩ [.ref a] [.ref a] _ _ hr e0 (hbind s₁ (.ref a)) (.cons rfl .nil) (hsp H hS HT)) λr s' h=>?_
 cases r with
 | error e=>exact(hCX H e s' h).elim
 | ok fl=>
  cases fl with
  | next=>exact False.elim h
  | brk=>exact False.elim h
  | cont=>exact False.elim h
  | ret u=>
   obtain⟨v,H',os,bare,un,hok',r',q⟩:=h;have q':v=.bl true:=q;subst q';obtain rfl:u=Value.bool true:=r';have nf:∀b:Addr,b∉frs ([]:List Env):=λb z=>absurd (show b∈([]:List Addr) from z) (by simp);obtain⟨more,hT'⟩:=un.tbls T _ HT;have gT:s'.heap.get? T=some (tabObj (#[]++more)):=hok' T _ hT'
   have keep:∀b o,b≠T->s₁.heap.get? b=some o->s'.heap.get? b=some o:=λb o n e=>by
    cases q2:H b with
    | none=>exact un.keep b o e q2 (nf b) (by simp)
    | some u2=>
     rcases cases3 b u2 q2 with⟨z,_⟩ | ⟨rfl,_,rfl⟩
     ·exact absurd z n
     obtain⟨e2,_⟩:=hok' b _ (un.frzs b _ _ q2);rw[ha]at e;cases e;exact e2
   refine⟨rfl,⟨λb o e=>?_,λb o e=>?_⟩,os,bare⟩
   ·by_cases hbT:b=T
    ·subst hbT;rw[hT]at e;cases e;exact .inr (.inl ⟨((codeHd_of_K KX hc).tab hT).isCodeTable,rfl,#[],more,rfl,gT⟩)
    exact .inl (keep b o hbT e)
   by_cases hbT:b=T
   ·exact⟨_,by rw[hbT];exact gT⟩
   exact⟨o,keep b o hbT e⟩
def walk_tbl {l:PySem.W.OpenLaw}{n k:Nat}{q:Program}{loose:List Str}{XP:(Str->Option Value)->Heap->Prop}{YP:World->Heap->Prop}{d:DefRec}{K:Params->W.Frag}{CX:World->DD}{sp:World->Sp}{x:Str}{T:Addr}
  (hn:l.most=some n)(hn2:n<=sizeLine)(hdf:d.params.defaults=[])(hr:Room k callerA)
  (hY:∀(w:World) (h:Heap),YP w h->(K w.params).In h/\h.get? T=some (tabObj #[]))
  (F:∀(w:World) (mg:Str->Option Value) (fa:Addr) (h:Heap),(K w.params).In h->h.Ns mainGlobals mg->mg d.name=some (.ref fa)->((K w.params).lookup T=none/\∃c,codeHdIn (K w.params) c T=true) /\ ∃fd:FuncData,(∀(s:Shared) (u:Value),BindsTo s fd ⟨[u],[]⟩ [(x,u)])/\∀base:Heap,(K w.params).In base->base.Ns mainGlobals mg->Bm mg base->FnOk l.prog w (K w.params) mg base (CX w) k fa fd [x] (sp w))
  (hsp:∀(w:World) (H:Hp) (a:Addr) (ns:List Int),ns.length<=n->SqL (K w.params) H a (ns.map V.int)->H T=some (.tbl #[])->sp w [.ref a] H (λv _=>v=.bl true) λ_ _ _=>False)
  (hCX:∀(w:World) (H:Hp) (s:Shared) (e:Value) (s':Shared),CX w [] H s (λ_ _ _=>False) e s'->False) :
  PySem.W.WalkO q loose XP YP l.row.toRowW d [] (λf vs=>PySem.call f vs):=by
 refine Att.attach_call hn hdf λw s₀ s₁ mg mb fa o pm cd doc a vs ns G Y ho hd hcd hmg hobj hints hlen hg=>?_
 obtain⟨KX,hT⟩:=hY w _ Y
 obtain⟨⟨hKT,c,hc⟩,fd,hb,hF⟩:=F w mg fa _ KX G.T.g hmg
 have hbm:Bm mg s₁.heap:=by obtain⟨bm,ob,h1,h2,h4,h5,h6,h7⟩:=G.T.bmain;refine⟨bm,ob,h1,h2,λz=>?_,h4,h5,h6,h7⟩;obtain⟨o,es,ep,e,d,_⟩:=G.T.g;rw[z,e]at h4;cases h4;rw[h7]at d;cases d
 exact Xq KX G.T.g G.T.b G.T.builtins G.T.nolimit hg hobj hints (BV hlen hn2) hr hT hKT hc hbm hF hb (λH hS h2=>hsp w H a ns hlen hS h2) λH e s'=>hCX w H s₁ e s'
section
variable {M:Model}{A:Around}{E:Value->Shared->Prop}
def iH {K:Frag}{h:Heap}{g:Array GenState}{d:Drawn}{t:Nat}{os:OsState}{e C G:Addr}{oe:Obj}{Q:Bool->Shared->Prop}(hX:XAt h G)(he:h.get? e=some oe)(hcls:oe.cls=.ref C)(hK:K.In h)(hs:subIn K (.ref C) (.ref G)=some false)(hq:Q false ⟨h,g,d,t,os⟩) :
  wpAny M A (excMatches (.ref e) (.ref G)) Q E ⟨h,g,d,t,os⟩:=by
 obtain⟨NN,nm,qn,bs,bm,hdct,sn,sub,ab,col,dd',k0,k1,k2,k3,k5,hC,T⟩:=hX.ex
 have hcB:(Value.ref G::bm).contains (.type "BaseException")=true:=by rw[Rx,T.hasType Gi.hasBase,Bool.or_true]
 have nt:=tc_notTuple
 have hsub:=Lv (M:=M) hK hs
 unfold excMatches
 (repeat (first | (with_reducible refine FJ he ?_;rw[hcls]) | with_reducible refine FJ hC ?_ | (with_reducible refine RC hC ?_;rw[hcB]) | wp_step))
 refine hsub.at ?_
 repeat wp_step
 exact hq
end
def VW (X:Cx)(E:XK):Prop:=∀(aa:List (Addr×Obj)) (σ:St) (H:Hp) (s:Shared) (a C t:Addr) (H':Hp) (B:Heap) (s':Shared) (h':Heap),Inv X aa σ H s->Hj X.prog X.w X.stack H s a H' B s'->Heap.HeldW B X.stack a (.ref C) (.ref t) X.env.locals h'->s'.heap.UpToSlots h'->E (.ref a) (some C) H'->X.xe (.ref a) { s' with heap:=h' }
def Zs {P:Program}{w:World}{K:W.Frag}{mg:Str->Option Value}{base:Heap}{N:List Str}{qual:Str}{scope:Scope}{f:Addr}{cd:Value}{A:Around}{ag:List Env}{s0:Shared}{H0:Hp}{E:XK}:VW (B3 (CXe P w) P w K mg base N qual scope f cd A ag s0 H0 E) E:=by intro aa σ H s a C t H' B s' h' I F hh ups q;show wpAny _ _ (leaving _ _) _ _ _;unfold leaving;(refine Ad (wpAny_noteFrame_againW rfl hh.2.2.2 ?_));refine NZ hh λh2 hfl hs=>?_;(obtain⟨k1,k2,⟨_,_,k3⟩,k4⟩:=hfl);have hfl2:Heap.FlyingW B ag a (.ref C) (.ref t) h2:=⟨k1,k2,k3,k4⟩;exact⟨a,C,t,H',B,rfl,IT (s':=s') I rfl rfl rfl rfl F hfl2 (ups.trans hs),hfl2,q⟩
def WC (K:Frag)(sp:Sp)(t:TA)(G:Addr)(th:TS)(E:XK):TS:=λD σ H=>t σ H λvs H1=>sp vs H1 (λ_ H2=>D.nx σ H2) (λe c H'=>∃a,e=.ref a/\((c=some G/\(H' a=none->th D σ H'))\/∃C,c=some C/\subIn K (.ref C) (.ref G)=some false/\E e c H'))
def Y4 {k:Nat} (hx:VW X E)(hex:X.ex=[])(hst:X.stack=X.env::X.ag)(hfr:X.env.frame=some X.env.locals)
  (owG:Lm X.K G=true)(hg:Gl X x)(hm:X.mg x=some (.ref G))(F:FnOk X.prog X.w X.K X.mg X.base (CXe X.prog X.w) k f fd ps sp)(hr:Room k X.A)(hgf:Gl X y)(hmf:X.mg y=some (.ref f))(hkf:keepIn X.K (.ref f)=true)(hb:Binds X.K fd ps [])
  (ha:∀pn xe,PA (X.at' pn xe) (e::es) t)(hs:∀a,PSs (X.held a λ_ _=>False) (b₀::suite) th)(hdb:(x == ("__debug__" : Str))=false:=by decide)(hdf:(y == ("__debug__" : Str))=false:=by decide)
  (he:starEach (e::es) X.env=(false,eval e X.env)::starEach es X.env:=by rfl)(hpl:(backTo pos1 (starEach es X.env)).any (·.1)=false:=by rfl)(hsw:swapsWith (.Call (.Name y p) (e::es) [] pos1) none pos2.line X.env=pure false:=by rfl) :
  PS X (.Try [.Expr (.Call (.Name y p) (e::es) [] pos1) pos2] [.ExceptHandler (some (.Name x np)) none (b₀::suite) hpos] [] [] pos) (WC X.K sp t G th E):=by
 intro aa s σ H D I hw
 obtain⟨E',eE⟩:∃E':XK,E'=λe c H'=>∃a,e=.ref a/\((c=some G/\(H' a=none->th D σ H'))\/∃C,c=some C/\subIn X.K (.ref C) (.ref G)=some false/\E e c H'):=⟨_,rfl⟩
 obtain⟨xe,ex⟩:∃xe:Value->Shared->Prop,xe=λe s'=>∃H1 s1,Inv X aa σ H1 s1/\CXe X.prog X.w X.stack H1 s1 E' e s':=⟨_,rfl⟩
 have J:Inv (X.at' (X.pn++aa) xe) [] σ H s:=I.at' xe
 have body:wpAny (model X.prog X.w) X.A (execs [.Expr (.Call (.Name y p) (e::es) [] pos1) pos2] X.env) (λfl s1=>fl=.next/\∃H2,Inv X aa σ H2 s1/\D.nx σ H2) xe s:=by
  refine Of (wpAny_Expr_any ?_ I.quiet hsw);refine Fj (Ek (X:=X.at' (X.pn++aa) xe) J hgf hmf ?_ hdf);refine Jp (h₀:=X.base) I.ok.mod.kin hkf (Ap (ha (X.pn++aa) xe pos1 [] s σ H _ J hw) λus s1 hp0=>?_) he hpl;obtain⟨vs,H1,J1,r,q⟩:=hp0;refine⟨J1.kIn,?_⟩;have I1:Inv X aa σ H1 s1:=J1.unat I.ok;have hl:us.length=ps.length:=by rw[<- r.length];exact F.len _ _ _ _ q
  have hbind:=hb s1 us I1.kIn (by rw[BR];exact hl);rw[BR]at hbind;refine Ez (Ea (F.run X.A X.stack s1 H1 ⟨us,[]⟩ us vs _ E' hr I1.env0 hbind r (by rw[eE];exact q)) λrs s2 hq=>?_);cases rs with
  | error e'=>show xe e' s2;rw[ex];exact⟨H1,s1,I1,hq⟩
  | ok fl=>
   cases fl with
   | ret u=>obtain⟨v,H2,I2,_,q2⟩:=I1.after hq;exact Jm ⟨rfl,H2,I2,q2⟩
   | next=>exact False.elim hq
   | brk=>exact False.elim hq
   | cont=>exact False.elim hq
 refine wpAny_Try_except (BI body (λfl s1 ⟨ef,H2,I2,q⟩=>?_) (λe' s1 h1=>?_))
 ·subst ef;exact AD aa s1 σ H2 D I2 q
 rw[ex,eE]at h1
 obtain⟨H1,s0,I1,a,C,t',H',B,rfl,Fl,hfl,a',e1,q⟩:=h1
 cases e1
 have hfree:=I1.stkFree
 have hframes:X.A.frames=some (X.env::X.ag):=by rw[<- hst];exact I1.ok.frames
 rw[hst]at hfl
 refine wpAny_looks_onW hframes hfr hfl λh4 held4 ups4=>?_
 refine NZ held4 λh5 hfl5 ups5=>?_
 have ups15:s1.heap.UpToSlots h5:=ups4.trans ups5
 have know:∀(h':Heap),B.StaysIn h'->s1.heap.UpToSlots h'->Inv X aa σ H' { s1 with heap:=h' }:=λh' k ups=>by obtain⟨u,hok⟩:=QT Fl hfree k ups;exact I1.call' (s':={ s1 with heap:=h' }) (ch:=[]) Fl.os u hok Fl.bare (λb z=>nomatch z)
 have I5:=know h5 hfl5.1 ups15
 obtain⟨oe,hoe,hoc⟩:=hfl5.there
 refine RB (RQ (Ek (X:=X.held a λ_ _=>False) (I5.held a _) hg hm ?_ hdb)) (by intro q;cases q)
 rcases q with⟨e2,q⟩ | ⟨C',e2,hsb,q⟩
 ·cases e2;refine T1 (XAt.of I5.kIn owG) hoe hoc (codeAny_handlers_suite ?_);refine lands_againW hfl5 λh6 hfl6 ups6=>?_;have I6:=know h6 hfl6.1 (ups15.trans ups6);refine BI (hs a aa { s1 with heap:=h6 } _ _ D (I6.held a _) (q Fl.new)) (λfl s8 h8=>?_) (λ_ _ z=>z.elim);cases fl with
  | next=>obtain⟨σ',H2,I9,q9⟩:=h8;exact⟨σ',H2,I9.unheld I.ok,q9⟩
  | brk=>obtain⟨σ',H2,I9,q9⟩:=h8;exact⟨σ',H2,I9.unheld I.ok,q9⟩
  | cont=>obtain⟨σ',H2,I9,q9⟩:=h8;exact⟨σ',H2,I9.unheld I.ok,q9⟩
  | ret u=>obtain⟨v,σ',H2,I9,r,q9⟩:=h8;exact⟨v,σ',H2,I9.unheld I.ok,r,q9⟩
 cases e2
 refine iH (XAt.of I5.kIn owG) hoe hoc I5.kIn hsb ?_
 dsimp only
 refine wpAny_handleBy_nil ?_
 obtain⟨_,_,_,oe',ws,T,oT,ts,he',hc',hd',h1',_⟩:=id hfl5
 unfold PySem.passOn
 refine Ad (Lw he' hd' h1' ?_)
 (rw[Ao (show ¬((Value.ref T == Value.none)=true) from by simp)])
 rw[hfr]
 refine Ad (setFlight_onW hfl5 λh' hh hs=>wpAny_throw ?_)
 rw[<- hst]at hh
 exact hx aa σ H1 s0 a C t' H' B s1 h' I1 Fl hh (ups15.trans hs) q
def FnOk.dw {P:Program}{w:World}{K:W.Frag}{mg:Str->Option Value}{base:Heap}{f C0:Addr}{k:Nat}{fd:FuncData}{ps:List Str}{sp:Sp}(F:FnOk P w K mg base (Ck P w C0) k f fd ps sp):FnOk P w K mg base (CXe P w) k f fd ps (λvs H Q E=>sp vs H Q (λe c H'=>(c=none->∀a,E (.ref a) (some C0) H')/\(c≠none->E e c H'))):=
 ⟨λvs H Q E h=>F.len vs H Q _ h,λA ag s H args us vs Q E hr he hb hv h=>Ea (F.run A ag s H args us vs Q _ hr he hb hv h) λr s' z=>by
  cases r with
  | ok u=>cases u <;> exact z
  | error e=>
   obtain⟨a,C,t,H',B,rfl,F',hfl,q⟩:=z;refine⟨a,C,t,H',B,rfl,F',hfl,?_⟩;rcases q with q | ⟨rfl,d,_,q⟩
   ·exact q.2 (λz=>by cases z)
   exact q.1 rfl a⟩
end L2
namespace L2
open PySem PySem.Spec PyProof.Rows
def Ds {a b:Str}{p q:Prop}(h:q)(n:¬a=b:=by decide +kernel):if decide (V.str a=V.str b)=true then p else q:=by rw[Ao (λz=>n (V.str.inj (BF z)))];exact h
def E8 {a:V}{p q:Prop}(h:p):if decide (a=a)=true then p else q:=by rw[AB (Bb rfl)];exact h
def AW (h:Nat.ble n 16777216=true:=by rfl):n<=sizeLine:=by rw[AL];exact Nat.le_of_ble_eq_true h
abbrev Be (a b:List Str):List Str:=a++b
def AA (h1:sc.kind=.function:=by rfl)(h2:sc.isCoroutine=false:=by rfl)(h3:sc.isGenerator=false:=by rfl)(h4:N.Nodup:=by decide +kernel)(h5:N.take ps.length=ps:=by rfl)
  (h6:∀x∈ps,sc.names.lookup x=some .local\/sc.names.lookup x=some .cell:=by decide +kernel)(h7:∀y∈sc.names,y.2≠.free:=by decide +kernel):Au N ps sc:=⟨h1,h2,h3,h4,h5,h6,h7⟩
def B2 (h1:X.env.scope=sc:=by rfl)(h2:N=own++fr:=by rfl)(h3:scope.kind=.function:=by rfl)(h4:sc.kind=.function:=by rfl)(h5:∀y∈scope.names,y.2≠NameKind.cell:=by decide +kernel)
  (h6:∀y∈scope.names,y.2=NameKind.free->sc.names.lookup y.1=some NameKind.cell:=by decide +kernel)(h7:∀y∈scope.names,y.2=NameKind.local->scope.names.lookup y.1=some NameKind.local:=by decide +kernel)(h8:js.map (λj=>X.N[j]?)=fr.map some:=by rfl)
  (h9:∀x∈fr,sc.names.lookup x=some NameKind.cell/\scope.names.lookup x=some NameKind.free:=by decide +kernel):LcOk X N sc scope own fr js:=⟨h1,h2,h3,h4,h5,h6,h7,h8,h9⟩
section
variable {X:Cx}{i:Nat}{x:Str}{pos pos':Pos}
def Ay (hN:X.N.Nodup)(he:PE X e te)(hi:X.N[i]? = some x:=by rfl)(hx:Ju X.env.scope x:=by exact .inl rfl)(hs:swapsWith e (some (.Name x pos')) pos.line X.env=pure false:=by rfl)(hf:X.fn x=true\/X.env.scope.names.lookup x=some .local:=by first | exact .inl rfl | exact .inr rfl | assumption) :
  PS X (.Assign [.Name x pos'] e pos) (SQ te (EJ i)):=Kb hN hi hx he hs hf
def AU (hN:X.N.Nodup)(hi:X.N[i]? = some x:=by rfl)(hx:Ju X.env.scope x:=by exact .inl rfl)(hf:X.fn x=true\/X.env.scope.names.lookup x=some .local:=by first | exact .inl rfl | exact .inr rfl | assumption):PG X (.Name x pos) (EJ i):=Qr hN hi hx hf
end
section
variable {P:Program}{w:World}{K:W.Frag}{mg:Str->Option Value}{base:Heap}{x qual:Str}{st:Stmt}{f:Addr}{fd:FuncData}{N ps:List Str}{k:Nat}{sp:Sp}
def Fun.oq (F:Fun K x qual st f fd)(S:Au N ps (Ak st))
  (hbody:∀(aj:Value) (A:Around) (ag:List Env) (s:Shared) (H:Hp) (vs:List V) (Q:VK) (E:XK),Room k (A.deeper (envOfC qual (Ak st) s.heap.objs.size f aj))->sp vs H Q E->∃t,PSs (B3 CX0 P w K mg base N qual (Ak st) f aj A ag s H E).nox (Cf st) t/\t { nx:=λ_ H'=>Q .non H',rt:=Q } (DH N vs) H)
  (len:∀vs H Q E,sp vs H Q E->vs.length=ps.length:=by intro _ _ _ _ h;cases h;subst_vars;rfl):FnOk P w K mg base CX0 (k+1) f fd ps sp:=F.ok S len hbody
def Fun.oqE (F:Fun K x qual st f fd)(S:Au N ps (Ak st))
  (hbody:∀(aj:Value) (A:Around) (ag:List Env) (s:Shared) (H:Hp) (vs:List V) (Q:VK) (E:XK),Room k (A.deeper (envOfC qual (Ak st) s.heap.objs.size f aj))->sp vs H Q E->∃t,PSs (B3 (CXe P w) P w K mg base N qual (Ak st) f aj A ag s H E) (Cf st) t/\t { nx:=λ_ H'=>Q .non H',rt:=Q } (DH N vs) H)
  (len:∀vs H Q E,sp vs H Q E->vs.length=ps.length:=by intro _ _ _ _ h;cases h;subst_vars;rfl):FnOk P w K mg base (CXe P w) (k+1) f fd ps sp:=F.okE S len hbody
end
def Bu (h:H p=none):∃H',upd H p o=H'/\Same H H'/\H' p=some o:=⟨_,rfl,Same.new h,Ae⟩
def ND (hx:H x=none)(hd:H d=none)(n:d≠x):∃H',upd (upd H d (.own x)) x (.ins C d [])=H'/\Same H H'/\H' x=some (.ins C d []):=⟨_,rfl,(Same.new hd).trans (Same.new (by rw[Aj n.symm];exact hx)),Ae⟩
inductive Qf (K:W.Frag)(x:Str)(s:Stmt)(f:Addr):Prop
 | mk {od an:Option Addr}{sl:Array (Option Value)}{oc kV dc pm cd ct:Value}(a:PySem.W.nsIn K mainGlobals x=some (some (.ref f))) (l:K.lookup f=some ⟨oc,od,.func (PySem.W.fnOf x x (Du s) (Cf s) (Ak s) .none kV dc pm an cd ct),sl⟩)
   (c:PySem.W.codeIn K cd x=true) (k:PySem.W.keepIn K (.ref f)=true):Qf K x s f
def Qf.df {K:W.Frag}{h:Heap}{mg:Str->Option Value}{x:Str}{s:Stmt}{f:Addr}(q:Qf K x s f)(X:K.In h)(G:h.Ns mainGlobals mg)(ps:List Str)
  (hb:∀(kV doc pm:Value) (an:Option Addr) (aj ct:Value) (us:List Value),us.length=ps.length->bindArgs (PySem.W.fnOf x x (Du s) (Cf s) (Ak s) .none kV doc pm an aj ct) ⟨us,[]⟩=pure (ps.zip us)):∃fd,Df K mg x s ps f fd:=by
 obtain⟨a,l,c,k⟩:=q
 exact⟨_,IS l c k,Dz X G a,(IS l c k).binds hb⟩
inductive Qm (K:W.Frag)(C:Addr)(x q:Str)(s:Stmt)(f:Addr):Prop
 | mk {od an:Option Addr}{sl:Array (Option Value)}{oc kV dc pm cd ct:Value}(a:PySem.W.findIn K (.ref C) x=some (some (.ref f))) (i:PySem.W.isFn K (.ref f)=true) (l:K.lookup f=some ⟨oc,od,.func (PySem.W.fnOf x q (Du s) (Cf s) (Ak s) .none kV dc pm an cd ct),sl⟩)
   (c:PySem.W.codeIn K cd q=true) (k:PySem.W.keepIn K (.ref f)=true):Qm K C x q s f
def Qm.df {K:W.Frag}{C:Addr}{x qu:Str}{s:Stmt}{f:Addr}(q:Qm K C x qu s f)(ps:List Str)
  (hb:∀(kV doc pm:Value) (an:Option Addr) (aj ct:Value) (us:List Value),us.length=ps.length->bindArgs (PySem.W.fnOf x qu (Du s) (Cf s) (Ak s) .none kV doc pm an aj ct) ⟨us,[]⟩=pure (ps.zip us)):∃fd,Fun K x qu s f fd/\Binds K fd ps []/\B9 K C x f:=by
 obtain⟨a,i,l,c,k⟩:=q
 exact⟨_,IS l c k,(IS l c k).binds hb,a,i,k⟩
inductive Ca (P:Program)(w:World)(K:W.Frag)(mg:Str->Option Value)(base:Heap)(CX:DD)(k:Nat)(x:Str)(st:Stmt)(ps:List Str)(sp:Sp):Prop
 | mk {f:Addr}{fd:FuncData}(D:Df K mg x st ps f fd) (G:FnOk P w K mg base CX k f fd ps sp):Ca P w K mg base CX k x st ps sp
section
variable {X:Cx}{CX:DD}{k:Nat}{ps:List Str}{sp:Sp}{E:XK}{x:Str}{st:Stmt}{p pos:Pos}{e:Expr}{es:List Expr}{t:TA}
def Aq (c:Ca X.prog X.w X.K X.mg X.base CX k x st ps sp)(hr:Room k X.A)(hx:Eg CX X E)(ha:PA X (e::es) t)(hg:Gl X x:=by rfl)(hdb:(x == ("__debug__" : Str))=false:=by decide)(he:starEach (e::es) X.env=(false,eval e X.env)::starEach es X.env:=by rfl)
  (hpl:(backTo pos (starEach es X.env)).any (·.1)=false:=by rfl):PE X (.Call (.Name x p) (e::es) [] pos) (SN sp [] E t):=by
 obtain⟨D,G⟩:=c
 exact Br G hr hg D.m D.F.kp D.b .nil hx ha hdb he hpl
end
end L2
namespace K40
open PySem L2 Tx Rk PyProof.Rows PySem.SeqAt
open PySem.PyData (strOk)
section
variable {P:Program}{w:World}{K:W.Frag}{mg:Str->Option Value}{base:Heap}
def Az (i:Nat):Stmt:=PySem.Challenge.pw_grope_k40_astray.main.body.getD i (.Pass ⟨0,0,0,0⟩)
abbrev Qb:Stmt:=CZ (Az 7) 0
abbrev Hy:Stmt:=Az 9
abbrev Hw:Stmt:=Az 10
abbrev MM:Stmt:=Az 11
abbrev MB:Stmt:=Az 12
abbrev MA:Stmt:=Az 13
abbrev M6:Stmt:=Az 15
abbrev M8:Stmt:=Az 16
abbrev JP:Stmt:=Az 17
abbrev J9:Stmt:=Az 18
abbrev MJ:Stmt:=Az 19
abbrev M5:Stmt:=Az 25
abbrev J7:Stmt:=Az 26
abbrev M4:Stmt:=Az 27
abbrev M1:Stmt:=Az 28
abbrev J6:Stmt:=Az 29
abbrev J8:Stmt:=Az 30
abbrev JO:Stmt:=Az 31
abbrev MG:Stmt:=Az 32
abbrev MH:Stmt:=Az 33
abbrev HQ:Stmt:=Az 34
abbrev J2:Stmt:=CZ (Az 35) 0
abbrev PY:Stmt:=CZ (Az 35) 7
abbrev Qc:Stmt:=CZ (Az 35) 8
abbrev P5:Stmt:=CZ (Az 35) 9
abbrev Qa:Stmt:=CZ (Az 35) 10
abbrev P9:Stmt:=CZ (Az 35) 11
abbrev P8:Stmt:=CZ (Az 35) 12
abbrev MF:Stmt:=Az 37
abbrev J5:Stmt:=Az 38
abbrev PX:Stmt:=CZ (Az 40) 0
abbrev P6:Stmt:=CZ (Az 41) 0
abbrev P7:Stmt:=CZ (Az 41) 1
abbrev MI:Stmt:=CZ (Az 42) 0
abbrev PZ:Stmt:=CZ (Az 42) 1
abbrev P0:Stmt:=CZ (Az 42) 2
abbrev Hx:Stmt:=Az 44
abbrev J4:Stmt:=Az 45
abbrev M3:Stmt:=Az 46
abbrev MK:Stmt:=Az 47
abbrev HR:Stmt:=Az 48
abbrev M0:Stmt:=Az 49
abbrev M7:Stmt:=Az 50
abbrev J3:Stmt:=CZ (Az 52) 0
abbrev P4:Stmt:=CZ (Az 52) 1
abbrev P3:Stmt:=CZ (Az 52) 2
abbrev P2:Stmt:=CZ (Az 52) 3
abbrev HN:Stmt:=Az 54
abbrev Ei:Stmt:=Az 55
abbrev MR:Stmt:=Az 56
abbrev FY:Stmt:=Az 57
abbrev JT:Stmt:=Az 58
abbrev MX:Stmt:=Az 59
abbrev JZ:Stmt:=Az 60
abbrev MQ:Stmt:=Az 61
abbrev JU:Stmt:=Az 62
abbrev JS:Stmt:=Az 63
abbrev Ft:Stmt:=Az 64
abbrev GB:Stmt:=Az 65
abbrev J0:Stmt:=Az 66
abbrev MW:Stmt:=Az 67
abbrev MT:Stmt:=Az 68
abbrev MO:Stmt:=Az 69
abbrev JY:Stmt:=Az 70
abbrev GC:Stmt:=Az 71
abbrev JQ:Stmt:=Az 72
abbrev MN:Stmt:=Az 73
abbrev HP:Stmt:=Az 74
abbrev GF:Stmt:=Az 75
abbrev JR:Stmt:=Az 76
abbrev MY:Stmt:=Az 77
abbrev GG:Stmt:=Az 78
abbrev JW:Stmt:=Az 79
abbrev JX:Stmt:=Az 80
abbrev JV:Stmt:=Az 81
abbrev MZ:Stmt:=Az 82
abbrev MU:Stmt:=Az 83
abbrev MP:Stmt:=Az 84
abbrev MS:Stmt:=Az 85
abbrev Hz:Stmt:=Az 86
structure Bl (mg:Str->Option Value):Prop where
 len:mg "len" = none
 range:mg "range" = none
 tuple:mg "tuple" = none
 zip:mg "zip" = none
 isi:mg "isinstance" = none
 str:mg "str" = none
 list:mg "list" = none
 set:mg "set" = none
 all:mg "all" = none
 sorted:mg "sorted" = none
 int:mg "int" = none
 bool:mg "bool" = none
 sum:mg "sum" = none
 max:mg "max" = none
 enumerate:mg "enumerate" = none
 dict:mg "dict" = none
 ve:mg "ValueError" = none
 min:mg "min" = none
 reversed:mg "reversed" = none
def Wd (ns:List Int):Prop:=∀n∈ns,0<=n/\n<200
def bt (ns:List Int):Nat:=ns.foldl (λm n=>m|||2^n.toNat) 0
def E7 (a b:Nat):Builtin.bitOr (a:Int) b=((a|||b:Nat):Int):=by
 have h1:¬(0:Int)<=Builtin.bitNot a:=by unfold Builtin.bitNot;lia
 have h2:¬(0:Int)<=Builtin.bitNot b:=by unfold Builtin.bitNot;lia
 have h3:∀x:Int,Builtin.bitNot (Builtin.bitNot x)=x:=λx=>by unfold Builtin.bitNot;lia
 unfold Builtin.bitOr Builtin.bitAnd;rw[Cg h1,Cg h2];dsimp only;rw[h3,h3,h3,A1,A1]
def G2 (a b:Nat):Builtin.bitAnd (a:Int) b=((a&&&b:Nat):Int):=rfl
def VG (h:a&&&b=0):a|||b=a+b:=by have e:=bitOr_and (a:Int) b;rw[E7,G2,h]at e;lia
theorem UJ:∀(ns:List Int) (m i:Nat),(ns.foldl (λm n=>m|||2^n.toNat) m).testBit i=(m.testBit i || ns.any λn=>n.toNat == i)
 | [],m,i=>by simp
 | n::r,m,i=>by rw[Hd,UJ r,Jd,testBit_two_pow,G7,Bool.or_assoc,Bool.beq_eq_decide_eq]
def Ep (ns:List Int)(i:Nat):(bt ns).testBit i=ns.any λn=>n.toNat == i:=by unfold bt;rw[UJ,FO,N4]
def Q8 (h:Wd ns) (h0:0<=n):(bt ns).testBit n.toNat=decide (n∈ns):=by
 rw[Ep,CT,DK,CI];constructor
 ·rintro⟨m,hm,e⟩;have e2:m.toNat=n.toNat:=by simpa using e
  have:=(h m hm).1;rw[show n=m by lia];exact hm
 intro hm;exact⟨n,hm,by simp⟩
def Q7 (ns:List Int)(n:Int):bt (ns++[n])=bt ns|||2^n.toNat:=by unfold bt;rw[Rn];rfl
def HX (k:Nat):(2:Int)^k=((2^k:Nat):Int):=by rw[Int.natCast_pow];rfl
theorem UI:∀(ns:List Int) (m:Nat),ns.Nodup->(∀n∈ns,0<=n/\m.testBit n.toNat=false)->(m:Int)+(ns.map λn=>(2:Int)^n.toNat).sum=((ns.foldl (λm n=>m|||2^n.toNat) m:Nat):Int)
 | [],m,_,_=>by simp
 | n::r,m,nd,h=>by
  (obtain⟨n1,n2⟩:=Ey.mp nd);obtain⟨h0,hb⟩:=h n Bo
  have d:m&&&2^n.toNat=0:=by
   refine Ee λi=>?_;rw[DZ,testBit_two_pow,FO];by_cases hi:n.toNat=i
   ·rw[<- hi,hb];rfl
   rw[Cg hi,Re]
  have e:=UI r (m|||2^n.toNat) n2 (λx hx=>⟨(h x (Bn _ hx)).1,?_⟩)
  ·rw[BU,List.sum_cons,Hd,<- e,VG d,HX,Int.natCast_add];lia
  rw[Jd,(h x (Bn _ hx)).2,testBit_two_pow,N4];refine Cg λz=>n1 ?_;have:=(h x (Bn _ hx)).1;rw[show n=x by lia];exact hx
def SR (nd:ns.Nodup)(h:∀n∈ns,0<=n):(ns.map λn=>(2:Int)^n.toNat).sum=(bt ns:Int):=by have e:=UI ns 0 nd λn hn=>⟨h n hn,FO _⟩;unfold bt;rw[<- e];simp
def nb (m:Nat):Nat:=Builtin.Int.intBits (m:Int)
def cM (h:nb m<=i):m.testBit i=false:=by
 unfold nb Builtin.Int.intBits at h;refine Oh ?_;split at h
 ·rename_i c;have:m=0:=by simpa using c
  rw[this];exact Es i
 rw[Int.natAbs_natCast]at h;exact BJ Nat.lt_log2_self (Gp (by decide) h)
def Ny {k:Nat}(h:m<2^k):nb m<=k:=by
 unfold nb Builtin.Int.intBits;split
 ·exact Bk _
 rename_i c;have:m≠0:=by simpa using c
 rw[Int.natAbs_natCast];exact(Nat.log2_lt this).mpr h
def wl (m:Nat):List Int:=((List.range (nb m)).filter λi=>m.testBit i).map λ(i:Nat)=>(i:Int)
def wl_mem :n∈wl m↔0<=n/\m.testBit n.toNat=true:=by
 unfold wl;rw[AE];constructor
 ·rintro⟨i,hi,rfl⟩;rw[A1];exact⟨by lia,(C4.mp hi).2⟩
 rintro⟨h0,hb⟩;refine⟨n.toNat,C4.mpr ⟨DO.mpr ?_,hb⟩,by lia⟩;rcases Gj n.toNat (nb m)with z | z
 ·exact z
 rw[cM z]at hb;cases hb
def Ho (m:Nat):(wl m).Pairwise (· < ·):=by unfold wl;refine LA.mpr ((List.Pairwise.filter _ Rt).imp λh=>?_);lia
def NV (m i:Nat):Builtin.bitAnd ((m:Int) / 2^i) 1=if m.testBit i then 1 else 0:=by
 rw[HX,<- Int.natCast_ediv];show Builtin.bitAnd ((m / 2^i:Nat):Int) ((1:Nat):Int)=_;rw[G2,Nat.and_one_is_mod,Nat.testBit_eq_decide_div_mod_eq];have:m / 2^i % 2<2:=mod_lt _ (by decide);by_cases h:m / 2^i % 2=1
 ·simp[h]
 have h2:m / 2^i % 2=0:=by lia
 simp[h2]
def Zv (hx:Wd xs)(hy:Wd ys):Builtin.bitXor (bt xs:Int) (Builtin.bitAnd (bt xs:Int) (bt ys))=(bt (xs.filter λx=>!decide (x∈ys)):Int):=by
 have hf:Wd (xs.filter λx=>!decide (x∈ys)):=λn hn=>hx n (C4.mp hn).1
 have bitF:∀i:Nat,(bt (xs.filter λx=>!decide (x∈ys))).testBit i=((bt xs).testBit i && !(bt ys).testBit i):=λi=>by
  have h0:(0:Int)<=(i:Int):=by lia
  have e1:=Q8 hx h0;have e2:=Q8 hy h0;have e3:=Q8 hf h0;rw[A1]at e1 e2 e3;rw[e1,e2,e3,CT,CI,C4];simp
 have c1:bt xs|||(bt xs&&&bt ys)=bt xs:=by refine Ee λi=>?_;rw[Jd,DZ];cases (bt xs).testBit i <;> rfl
 have c2:bt xs&&&(bt xs&&&bt ys)=bt xs&&&bt ys:=by refine Ee λi=>?_;rw[DZ,DZ];cases (bt xs).testBit i <;> rfl
 have c3:bt (xs.filter λx=>!decide (x∈ys))&&&(bt xs&&&bt ys)=0:=by refine Ee λi=>?_;rw[DZ,DZ,bitF,FO];cases (bt xs).testBit i <;> cases (bt ys).testBit i <;> rfl
 have c4:bt (xs.filter λx=>!decide (x∈ys))|||(bt xs&&&bt ys)=bt xs:=by refine Ee λi=>?_;rw[Jd,DZ,bitF];cases (bt xs).testBit i <;> cases (bt ys).testBit i <;> rfl
 have c5:=VG c3;rw[c4]at c5;unfold Builtin.bitXor;rw[G2,E7,G2,c1,c2];lia
def QM {c:Bool}{A B:Prop}(h:c=true)(a:A):if c=true then A else B:=by rw[AB h];exact a
def QN {c:Bool}{A B:Prop}(h:¬c=true)(b:B):if c=true then A else B:=by rw[Ao h];exact b
def FX (I:L2.St->Hp->Prop)(hR:∀σ' H',I σ' H'->R D σ' H')(hs:∀N:L2.St->Hp->Prop,(∀σ' H',I σ' H'->N σ' H')->s { D with nx:=N } σ H):OO s R D σ H:=hs (R D) hR
def Gz (I:L2.St->Hp->Prop)(hR:∀σ' H',I σ' H'->R D σ' H')(hs:∀N:L2.St->Hp->Prop,(∀σ' H',I σ' H'->N σ' H')->EJ i v σ H λσ2 H2=>s { D with nx:=N } σ2 H2):EJ i v σ H (OO s R D):=hs (R D) hR
theorem Fv :∀ns:List Int,RdVs H (ns.map V.int) (ns.map PyData.int)
 | []=>.nil
 | n::r=>.cons (.int n) (Fv r)
def mM (n:Int):PyData.eqv (.int n) (.int n)=true:=by simp[PyData.eqv]
theorem UV:∀ns:List Int,PyData.eqvAll (ns.map PyData.int) (ns.map PyData.int)=true
 | []=>by simp[PyData.eqvAll]
 | n::r=>by rw[BU,PyData.eqvAll,mM,UV r];rfl
def QZ (ns:List Int):PyData.eqv (.list (ns.map PyData.int)) (.list (ns.map PyData.int))=true:=by rw[PyData.eqv,UV]
theorem Ua:∀ns:List Int,PyData.canLayAll0 (ns.map PyData.int)=true
 | []=>by rw[map_nil,PyData.canLayAll0]
 | n::r=>by rw[BU,PyData.canLayAll0,Ua r,PyData.canLay0];rfl
theorem U6:∀ns:List Int,PyData.depthAll (ns.map PyData.int)<=0
 | []=>by rw[map_nil,PyData.depthAll];exact Bk _
 | n::r=>by have h:=U6 r;rw[BU,PyData.depthAll,PyData.depth];lia
def FW (ns:List Int):shaped (.list (ns.map PyData.int))=true:=by unfold shaped;rw[PyData.canLay0,Ua,PyData.depth];have:=U6 ns;(rw[Bb (by lia)]);rfl
def Vc (ns:List Int):∃ds:List Int,SK.dd (BX (ns.map (Sum.inl:Int->Ag))) (ns.map (Sum.inl:Int->Ag)).length=ds.map Sum.inl/\ds.Nodup/\(∀n,n∈ds↔n∈ns)/\ds.length<=ns.length:=by
 have hl:(ns.map (Sum.inl:Int->Ag)).length=ns.length:=Al ..;rw[hl]
 have go:∀i,i<=ns.length->∃ds:List Int,SK.dd (BX (ns.map (Sum.inl:Int->Ag))) i=ds.map Sum.inl/\ds.Nodup/\(∀n,n∈ds↔n∈ns.take i)/\ds.length<=i:=by
  intro i;induction i with
  | zero=>exact λ_=>⟨[],rfl,nodup_nil,λn=>by simp,Am _⟩
  | succ i ih=>
   intro hi;have hi2:i<ns.length:=hi;obtain⟨ds,e,nd,me,le⟩:=ih (by lia);have ev:BX (ns.map (Sum.inl:Int->Ag)) i=Sum.inl ns[i]:=by simp[BX,List.getD,hi2]
   have htk:=BK hi2;have hin:(Sum.inl ns[i]:Ag)∈ds.map (Sum.inl:Int->Ag)↔ns[i]∈ds:=by rw[AE];exact⟨λ⟨m,hm,e⟩=>by cases e;exact hm,λh=>⟨_,h,rfl⟩⟩
   by_cases hm:ns[i]∈ds
   ·refine⟨ds,?_,nd,λn=>?_,by lia⟩
    ·unfold SK.dd;rw[e,ev,AB (hin.mpr hm)]
    rw[htk,A5,AQ,me n];exact⟨.inl,λz=>z.elim id λz=>by rw[z];exact(me _).mp hm⟩
   refine⟨ds++[ns[i]],?_,Nw nd hm,λn=>?_,by rw[AR];exact Ex le⟩
   ·unfold SK.dd;rw[e,ev,Ao λz=>hm (hin.mp z),AX];rfl
   rw[htk,A5,A5,me n]
 obtain⟨ds,e,nd,me,le⟩:=go ns.length (Am _);rw[Bq]at me;exact⟨ds,e,nd,me,le⟩
inductive JH (K:W.Frag)(vs:List V)(H:Hp)(Q:VK)(E0_:XK):Prop
 | mk (a:Addr) (ns:List Int) (c0:vs=[.ref a]) (c1:SqL K H a (ns.map V.int)) (c2:Wd ns) (c3:Q (.int (bt ns:Nat)) H):JH K vs H Q E0_
inductive EX (vs:List V)(H:Hp)(Q:VK)(E0_:XK):Prop
 | mk (m:Nat) (c0:vs=[.int (m:Nat)]) (c1:m<2^200) (c2:∀(l:Addr) (H':Hp),Same H H'->H l=none->H' l=some (.lst ((wl m).map V.int))->Q (.ref l) H'):EX  vs H Q E0_
def lA:List Int->V
 | []=>.non
 | n::_=>.int n
inductive Pf (vs:List V)(H:Hp)(Q:VK)(E0_:XK):Prop
 | mk (m:Nat) (c0:vs=[.int (m:Nat)]) (c1:m<2^200) (c2:∀(H':Hp),Same H H'->Q (lA (wl m)) H'):Pf  vs H Q E0_
inductive Pj (vs:List V)(H:Hp)(Q:VK)(E0_:XK):Prop
 | mk (i j:Int) (c0:vs=[.int i,.int j]) (c1:Q (.bl (decide (V.int (Builtin.bitAnd i j)=V.int i))) H):Pj  vs H Q E0_
inductive O7 (vs:List V)(H:Hp)(Q:VK)(E0_:XK):Prop
 | mk (i j:Int) (c0:vs=[.int i,.int j]) (c1:Q (.int (Builtin.bitXor i (Builtin.bitAnd i j))) H):O7  vs H Q E0_
abbrev GJ:List Str:=["worlds"]
abbrev cS:List Str:=Be GJ ["some", "world"]
def scSetOf:Au cS GJ (Ak Hy):=AA
abbrev Ic:List Str:=["some"]
abbrev cN:List Str:=Ic
def XO:Au cN Ic (Ak Hw):=AA
abbrev Kn:List Str:=["some"]
abbrev dH:List Str:=Be Kn ["worlds"]
def scLeastOf:Au dH Kn (Ak MM):=AA
abbrev Kg:List Str:=["one", "other"]
abbrev cP:List Str:=Kg
def XR:Au cP Kg (Ak MB):=AA
abbrev Kf:List Str:=["one", "other"]
abbrev cO:List Str:=Kf
def XQ:Au cO Kf (Ak MA):=AA
abbrev E5:List Str:=["_law_some"]
abbrev eT:List Str:=E5
def X5:Au eT E5 (Ak Ft):=AA
abbrev Kr:List Str:=["_law_script", "_law_k", "_law_answers"]
abbrev dW:List Str:=Kr
def X0:Au dW Kr (Ak MQ):=AA
abbrev Tv:List Str:=["_law_script"]
abbrev dJ:List Str:=Be Tv ["_law_many_here", "_law_deeds_here", "_law_looks_here", "_law_far", "_law_part_here", "_law_tree", "_law_goal", "_law_keep", "_law_some", "_law_data", "_law_rows", "_law_due", "_law_errand", "_law_plan_here", "_law_said"]
def scLaw:Au dJ Tv (Ak Hz):=AA
def ZR (F:Fun K "set_of" "set_of" Hy f fd):FnOk P w K mg base CX0 1 f fd GJ (JH K):=by
 refine F.oq scSetOf λaj A ag s H vs Q E hr h=>?_;obtain⟨a,ns,rfl,hS,wd,q⟩:=h;refine⟨_,(Af (Ay (i:=1) scSetOf.nd Ac) (Af (BW B4 rfl (BG (pv 0)) (AU (i:=2) scSetOf.nd) (Ah (Ay (i:=1) scSetOf.nd (Aw F4 (pv 1) (Aw GQ Ac (pv 2)))))) (Ah (Ar (pv 1))))),?_⟩;refine⟨_,rfl,a,rfl,⟨_,hS⟩,C1 (K:=K) (a:=a) (xs:=ns.map V.int) (λi σ H2=>∃v2:Option V,σ = [some (.ref a),some (.int (bt (ns.take i):Nat)),v2]/\H2=H) ⟨none,rfl,rfl⟩ (λi σ H2 _ hh0=>by obtain⟨_,_,e⟩:=hh0;rw[e];exact hS) ?_ ?_⟩
 ·rintro i x σ H2 hx ⟨v2,rfl,e⟩;rw[AV]at hx;obtain⟨n,en,rfl⟩:=CH.mp hx;have hi:i<ns.length:=(AN.mp en).1;have hni:ns[i]=n:=(AN.mp en).2;have hw:=wd n (Bt en);have key:Builtin.bitOr ((bt (ns.take i):Nat):Int) (1*2^n.toNat)=((bt (ns.take (i+1)):Nat):Int):=by rw[BK hi,hni,Q7,one_mul,HX,E7]
  refine⟨_,rfl,_,rfl,_,_,rfl,rfl,⟨hw.1,by lia,by decide⟩,_,_,rfl,rfl,?_⟩;exact⟨some (.int n),by rw[<- key];rfl,e⟩
 rintro σ H2 ⟨v2,rfl,e⟩;rw[show(ns.map V.int).length=ns.length from Al ..,Bq,e];exact⟨_,rfl,q⟩
structure Mc (mg:Str->Option Value):Prop where
 mw:∃t,mg "MOST_WORLDS" = some (.int 200 t)
 ms:∃t,mg "MOST_STEPS" = some (.int 40 t)
 mn:∃t,mg "MOST_SIGNS" = some (.int 30 t)
 mp:∃t,mg "MOST_PRICE" = some (.int 1000000000 t)
inductive StV (H:Hp)(v:V)(n:Str)(p:Int)(t:Addr):Prop
 | mk (a:Addr) (e:v=.ref a) (h:H a=some (.tup [.str n,.int p,.ref t])):StV H v n p t
def StV.same (s:Same H H')(h:StV H v n p t):StV H' v n p t:=by obtain⟨a,e,h⟩:=h;exact⟨a,e,s _ _ h⟩
structure A2 {α:Type}(R:V->α->Prop)(vs:List V)(ts:List α):Prop where
 len:vs.length=ts.length
 got:∀(i:Nat) v t,vs[i]? = some v->ts[i]? = some t->R v t
def A2.mono {α:Type}{R S:V->α->Prop}{vs:List V}{ts:List α}(h:A2 R vs ts)(m:∀v t,v∈vs->R v t->S v t):A2 S vs ts:=⟨h.len,λi v t hv ht=>m v t (Bt hv) (h.got i v t hv ht)⟩
def A2.at {α:Type}{R:V->α->Prop}{vs:List V}{ts:List α}(h:A2 R vs ts){i:Nat}{v:V}(hv:vs[i]? = some v):∃t,ts[i]? = some t/\t∈ts/\R v t:=by
 have hl:=(AN.mp hv).1;have hl2:i<ts.length:=by rw[<- h.len];exact hl
 exact⟨ts[i],AC hl2,CQ hl2,h.got i v _ hv (AC hl2)⟩
def A2.app {α:Type}{R:V->α->Prop}{vs vs':List V}{ts ts':List α}(h:A2 R vs ts)(h':A2 R vs' ts'):A2 R (vs++vs') (ts++ts'):=⟨by rw[AR,AR,h.len,h'.len],λi v t hv ht=>by
 by_cases hi:i<vs.length
 ·rw[Cr hi]at hv;rw[Cr (by rw[<- h.len];exact hi)]at ht;exact h.got i v t hv ht
 rw[Ci (by lia)]at hv;rw[Ci (by rw[<- h.len];lia),<- h.len]at ht;exact h'.got _ v t hv ht⟩
structure Dee where
 name:Str
 price:Int
 tab:List (List Int)
structure Loo where
 name:Str
 price:Int
 tab:List (Option Str)
def oS:Option Str->V
 | none=>.non
 | some x=>.str x
inductive EnV (H:Hp)(v:V)(ns:List Int):Prop
 | mk (b:Addr) (e:v=.ref b) (h:H b=some (.lst (ns.map V.int))):EnV H v ns
inductive DeV (H:Hp)(v:V)(d:Dee):Prop
 | mk (t:Addr) (es:List V) (s:StV H v d.name d.price t) (ht:H t=some (.lst es)) (he:A2 (EnV H) es d.tab):DeV H v d
inductive LoV (H:Hp)(v:V)(l:Loo):Prop
 | mk (t:Addr) (s:StV H v l.name l.price t) (ht:H t=some (.lst (l.tab.map oS))):LoV H v l
def EnV.same (s:Same H H')(h:EnV H v ns):EnV H' v ns:=by obtain⟨b,e,h⟩:=h;exact⟨b,e,s _ _ h⟩
def DeV.same (s:Same H H')(h:DeV H v d):DeV H' v d:=by obtain⟨t,es,st,ht,he⟩:=h;exact⟨t,es,st.same s,s _ _ ht,he.mono λv t _ r=>r.same s⟩
def LoV.same (s:Same H H')(h:LoV H v l):LoV H' v l:=by obtain⟨t,st,ht⟩:=h;exact⟨t,st.same s,s _ _ ht⟩
inductive PL (vs:List V)(H:Hp)(Q:VK)(E0_:XK):Prop
 | mk (m:Int) (c0:vs=[.int m]) (c1:1<=m) (c2:m<=200) (c3:Q .non H):PL  vs H Q E0_
inductive PK (vs:List V)(H:Hp)(Q:VK)(E0_:XK):Prop
 | mk (x:Str) (c0:vs=[.str x]) (c1:1<=x.length) (c2:x.length<=30) (c3:Q .non H):PK  vs H Q E0_
inductive PF (vs:List V)(H:Hp)(Q:VK)(E0_:XK):Prop
 | mk (p:Int) (c0:vs=[.int p]) (c1:1<=p) (c2:p<=1000000000) (c3:Q .non H):PF  vs H Q E0_
inductive Mv (vs:List V)(H:Hp)(Q:VK)(E0_:XK):Prop
 | mk (m:Int) (n:V) (t:Addr) (xs:List V) (c0:vs=[.int m,n,.ref t]) (c1:H t=some (.lst xs)) (c2:(xs.length:Int)=m) (c3:Q .non H):Mv  vs H Q E0_
inductive PM (vs:List V)(H:Hp)(Q:VK)(E0_:XK):Prop
 | mk (m:Int) (n:V) (b:Addr) (ns:List Int) (c0:vs=[.int m,n,.ref b]) (c1:H b=some (.lst (ns.map V.int))) (c2:ns.Pairwise (· < ·)) (c3:(∀x∈ns,0<=x/\x<m)) (c4:ns.length<=60) (c5:∀H':Hp,Same H H'->Q .non H'):PM  vs H Q E0_
abbrev Iz:List Str:=["many"]
abbrev gL:List Str:=Iz
def Yn:Au gL Iz (Ak M5):=AA
abbrev KQ:List Str:=["name"]
abbrev gK:List Str:=KQ
def Ym:Au gK KQ (Ak M4):=AA
abbrev KO:List Str:=["price"]
abbrev gI:List Str:=KO
def Yl:Au gI KO (Ak M1):=AA
abbrev Iw:List Str:=["many", "name", "table"]
abbrev gD:List Str:=Iw
def Yj:Au gD Iw (Ak J6):=AA
abbrev KR:List Str:=["many", "name", "entry"]
abbrev gO:List Str:=KR
def Yp:Au gO KR (Ak J8):=AA
abbrev Iy:List Str:=["deeds", "looks"]
abbrev gE:List Str:=Be Iy ["steps", "names", "step"]
def scCheckSteps:Au gE Iy (Ak J7):=AA
structure L3 (s:Str×Int):Prop where
 n1:1<=s.1.length
 n2:s.1.length<=30
 p1:1<=s.2
 p2:s.2<=1000000000
inductive Pz (vs:List V)(H:Hp)(Q:VK)(E0_:XK):Prop
 | mk (a b:Addr) (ds ls:List V) (st:List (Str×Int)) (c0:vs=[.ref a,.ref b]) (c1:H a=some (.lst ds)) (c2:H b=some (.lst ls)) (c3:A2 (λv s=>∃t,StV H v s.1 s.2 t) (ds++ls) st) (c4:ds.length<=40) (c5:ls.length<=40) (c6:(st.map (·.1)).Nodup) (c7:(∀s∈st,L3 s)) (c8:∀H':Hp,Same H H'->Q .non H'):Pz  vs H Q E0_
structure KA {α:Type}(nm:α->Str)(R:V->α->Prop)(kvs:List (Ag×V))(ds:List α):Prop where
 len:kvs.length=ds.length
 got:∀(i:Nat) kv d,kvs[i]? = some kv->ds[i]? = some d->kv.1=Sum.inr (nm d)/\R kv.2 d
def KA.nil {α:Type}{nm:α->Str}{R:V->α->Prop}:KA nm R [] []:=⟨rfl,λi kv d h _=>by cases h⟩
def KA.mono {α:Type}{nm:α->Str}{R S:V->α->Prop}{kvs:List (Ag×V)}{ds:List α}(h:KA nm R kvs ds)(m:∀v d,d∈ds->R v d->S v d):KA nm S kvs ds:=⟨h.len,λi kv d h1 h2=>⟨(h.got i kv d h1 h2).1,m _ _ (Bt h2) (h.got i kv d h1 h2).2⟩⟩
def KA.snoc {α:Type}{nm:α->Str}{R:V->α->Prop}{kvs:List (Ag×V)}{ds:List α}{d:α}{v:V}(h:KA nm R kvs ds)(r:R v d):KA nm R (kvs++[(Sum.inr (nm d),v)]) (ds++[d]):=⟨by simp[h.len],λi kv x hk hx=>by
 by_cases hi:i<kvs.length
 ·rw[Cr hi]at hk;rw[Cr (by rw[<- h.len];exact hi)]at hx;exact h.got i kv x hk hx
 rw[Ci (by lia)]at hk;rw[Ci (by rw[<- h.len];lia),<- h.len]at hx;have h0:i-kvs.length=0:=by have:=(AN.mp hk).1;simp at this;lia
 rw[h0]at hk hx;cases hk;cases hx;exact⟨rfl,r⟩⟩
def KA.keysE {α:Type}{nm:α->Str}{R:V->α->Prop}{kvs:List (Ag×V)}{ds:List α}(h:KA nm R kvs ds):kvs.map (·.1)=ds.map λd=>(Sum.inr (nm d):Ag):=by
 apply List.ext_getElem?;intro i;rw[AV,AV];cases hk:kvs[i]? with
 | none=>have:kvs.length<=i:=List.getElem?_eq_none_iff.mp hk;rw[Gq (by rw[<- h.len];exact this)];rfl
 | some kv=>
  have hl:=(AN.mp hk).1;have hl2:i<ds.length:=by rw[<- h.len];exact hl
  rw[AC hl2];show some kv.1=some _;rw[(h.got i kv _ hk (AC hl2)).1]
theorem KA.none {α:Type}{nm:α->Str}{R:V->α->Prop}{kvs:List (Ag×V)}{ds:List α}(h:KA nm R kvs ds){x:Str}(hx:x∉ds.map nm):BM kvs (Sum.inr x:Ag)=none:=by
 cases e:BM kvs (Sum.inr x:Ag)with
 | none=>rfl
 | some v=>exfalso;have:=Mg e;rw[h.keysE]at this;obtain⟨d,hd,ed⟩:=AE.mp this;exact hx (AE.mpr ⟨d,hd,Et ed⟩)
def OM {kvs:List (Ag×V)}(nd:(kvs.map (·.1)).Nodup){i:Nat}{kv:Ag×V}(h:kvs[i]? = some kv):BM kvs kv.1=some kv.2:=by
 induction (kvs) generalizing i with
 | nil=>cases h
 | cons p r ih=>
  rw[BU]at nd;(obtain⟨n1,n2⟩:=Ey.mp nd);cases i with
  | zero=>cases h;exact Me rfl
  | succ i=>have h':r[i]? = some kv:=h;rw[Mf (λe=>n1 (by rw[e];exact AE.mpr ⟨kv,Bt h',rfl⟩))];exact ih n2 h'
def KA.val {α:Type}{nm:α->Str}{R:V->α->Prop}{kvs:List (Ag×V)}{ds:List α}(h:KA nm R kvs ds)(nd:(ds.map nm).Nodup){d:α}(hd:d∈ds):∃v,BM kvs (Sum.inr (nm d):Ag)=some v/\R v d:=by
 obtain⟨i,hi⟩:=DL hd;have hl:=(AN.mp hi).1;have hl2:i<kvs.length:=by rw[h.len];exact hl
 have hk:kvs[i]? = some kvs[i]:=AC hl2;obtain⟨e,r⟩:=h.got i _ d hk hi;refine⟨kvs[i].2,?_,r⟩;rw[<- e];refine OM ?_ hk;rw[h.keysE];have:(ds.map λd=>(Sum.inr (nm d):Ag))=(ds.map nm).map Sum.inr:=by rw[BC];rfl
 rw[this];exact LA.mpr (Rm (λh e=>h (Et e)) nd)
inductive OuV (H:Hp)(v:V)(d:Dee):Prop
 | mk (t:Addr) (e:v=.ref t) (h:H t=some (.tup (d.tab.map λn=>V.int (bt n:Nat)))):OuV H v d
inductive AnV (H:Hp)(v:V)(l:Loo):Prop
 | mk (t:Addr) (e:v=.ref t) (h:H t=some (.tup (l.tab.map oS))):AnV H v l
structure DeOk (many:Nat)(d:Dee):Prop where
 len:d.tab.length=many
 up:∀e∈d.tab,e.Pairwise (· < ·)
 inn:∀e∈d.tab,∀x∈e,0<=x/\x<(many:Int)
 few:∀e∈d.tab,e.length<=60
def DeOk.wd (h:DeOk many d)(m:many<=200):∀e∈d.tab,Wd e:=λe he n hn=>⟨(h.inn e he n hn).1,by have:=(h.inn e he n hn).2;lia⟩
inductive O3 (vs:List V)(H:Hp)(Q:VK)(E0_:XK):Prop
 | mk (m:Nat) (a:Addr) (us:List V) (ds:List Dee) (c0:vs=[.int (m:Int),.ref a]) (c1:m<=200) (c2:H a=some (.lst us)) (c3:A2 (DeV H) us ds) (c4:(∀d∈ds,DeOk m d)) (c5:(ds.map Dee.name).Nodup) (c6:ds.length<=40) (c7:∀(d:Addr) (kvs:List (Ag×V)) (H':Hp),Same H H'->H d=none->H' d=some (.dK kvs)->KA Dee.name (OuV H') kvs ds->Q (.ref d) H'):O3  vs H Q E0_
inductive O2 (vs:List V)(H:Hp)(Q:VK)(E0_:XK):Prop
 | mk (m:Nat) (a:Addr) (us:List V) (ls:List Loo) (c0:vs=[.int (m:Int),.ref a]) (c1:m<=200) (c2:H a=some (.lst us)) (c3:A2 (LoV H) us ls) (c4:(∀l∈ls,l.tab.length=m)) (c5:(ls.map Loo.name).Nodup) (c6:ls.length<=40) (c7:∀(d:Addr) (kvs:List (Ag×V)) (H':Hp),Same H H'->H d=none->H' d=some (.dK kvs)->KA Loo.name (AnV H') kvs ls->Q (.ref d) H'):O2  vs H Q E0_
abbrev Ig:List Str:=["many", "deeds"]
abbrev cV:List Str:=Be Ig ["found", "deed", "name", "table", "entry"]
def scReadDeeds:Au cV Ig (Ak JO):=AA
abbrev Ie:List Str:=["many", "looks"]
abbrev cU:List Str:=Be Ie ["found", "look"]
def scReadLooks:Au cU Ie (Ak MG):=AA
def OuV.keep (k:∀b xs,H b=some (.tup xs)->H' b=some (.tup xs))(h:OuV H v d):OuV H' v d:=by obtain⟨t,e,h⟩:=h;exact⟨t,e,k _ _ h⟩
def AnV.keep (k:∀b xs,H b=some (.tup xs)->H' b=some (.tup xs))(h:AnV H v l):AnV H' v l:=by obtain⟨t,e,h⟩:=h;exact⟨t,e,k _ _ h⟩
def bU (F:Fun K "check_many" "check_many" M5 f fd)(M:Mc mg):FnOk P w K mg base CX0 1 f fd Iz PL:=by obtain⟨t1,m1⟩:=M.mw;refine F.oq Yn λaj A ag s H vs Q E hr h=>?_;obtain⟨m,rfl,h1,h2,q⟩:=h;refine⟨_,(Ah (AH (Dp (Qi GR GR Ac (pv 0) (EH (v:=.int 200) (by rfl) m1 ⟨_,rfl⟩))) EF AD)),?_⟩;refine⟨_,rfl,_,_,rfl,rfl,_,rfl,?_⟩;rw[Bb h1];refine BH ?_;refine⟨_,_,rfl,rfl,_,rfl,?_⟩;rw[Bb h2];exact A4 q
def bT (F:Fun K "check_name" "check_name" M4 f fd)(T:Bl mg)(M:Mc mg):FnOk P w K mg base CX0 1 f fd KQ PK:=by obtain⟨t1,m1⟩:=M.mn;refine F.oq Ym λaj A ag s H vs Q E hr h=>?_;obtain⟨x,rfl,h1,h2,q⟩:=h;have ak:sizeLine=16777216:=AL;refine⟨_,(Ah (AH (Dp (Qi GR GR Ac (Bf C2 (by rfl) T.len CG (Aa (pv 0) Ab)) (EH (v:=.int 30) (by rfl) m1 ⟨_,rfl⟩))) EF AD)),?_⟩;refine⟨_,rfl,_,_,rfl,⟨by lia,rfl⟩,_,_,rfl,rfl,_,rfl,?_⟩;rw[Bb (show(1:Int)<=(x.length:Int) by lia)];refine BH ?_;refine⟨_,_,rfl,rfl,_,rfl,?_⟩;rw[Bb (show(x.length:Int)<=30 by lia)];exact A4 q
def bR (F:Fun K "check_price" "check_price" M1 f fd)(M:Mc mg):FnOk P w K mg base CX0 1 f fd KO PF:=by obtain⟨t1,m1⟩:=M.mp;refine F.oq Yl λaj A ag s H vs Q E hr h=>?_;obtain⟨m,rfl,h1,h2,q⟩:=h;refine⟨_,(Ah (AH (Dp (Qi GR GR Ac (pv 0) (EH (v:=.int 1000000000) (by rfl) m1 ⟨_,rfl⟩))) EF AD)),?_⟩;refine⟨_,rfl,_,_,rfl,rfl,_,rfl,?_⟩;rw[Bb h1];refine BH ?_;refine⟨_,_,rfl,rfl,_,rfl,?_⟩;rw[Bb h2];exact A4 q
def bN (F:Fun K "check_table" "check_table" J6 f fd)(T:Bl mg):FnOk P w K mg base CX0 1 f fd Iw Mv:=by refine F.oq Yj λaj A ag s H vs Q E hr h=>?_;obtain⟨m,n,t,xs,rfl,ht,hm,q⟩:=h;refine⟨_,(Ah (AH (AS IE (Bf C2 (by rfl) T.len CG (Aa (pv 2) Ab)) (pv 0) (AO _)) EF AD)),?_⟩;refine⟨_,rfl,_,_,rfl,.inl ⟨_,SqL.of ht,rfl⟩,_,rfl,rfl,_,rfl,?_⟩;rw[hm];refine AZ (λz=>?_) (λ_=>q);simp at z
def bW (F:Fun K "check_entry" "check_entry" J8 f fd)(T:Bl mg):FnOk P w K mg base CX0 1 f fd KR PM:=by
 refine F.oq Yp λaj A ag s H vs Q E hr h=>?_;obtain⟨m,n,b,ns,rfl,hb,hp,hx,hl,q⟩:=h;have ao:=hr.units;have ak:sizeLine=16777216:=AL;refine⟨_,(Af (AH (AS (Zz ao) (Cb Gh (by rfl) T.list EO (Aa (pv 2) Ab)) (Bf (Vp rfl) (by rfl) T.sorted NT (Aa (Cb (Q6 rfl) (by rfl) T.set Lr (Aa (pv 2) Ab)) Ab)) (AO _)) EF AD) (Ah (AH (Dp (Cn (Bf (oB rfl) (by rfl) T.all oQ (Aa (CK (N:=["world", "many"]) (sc:=Ak J8) (own:=["world"]) (fr:=["many"]) (js:=[0]) B2 rfl (BG (pv 2)) (λ_ _ _ _=>AU (i:=0) (show List.Nodup (["world", "many"]:List Str) by decide +kernel)) (λ_ _ _ _=>Dd) (λ_ _ _ _=>(Zp GR K2 Ac (pv 0) (pv 1)))) Ab)))) EF AD))),?_⟩;refine⟨_,rfl,b,_,rfl,.inl (SqL.of hb),λl1 hl1=>?_⟩;obtain⟨H1,g0,s1,e1⟩:=Bu (H:=H) (o:=.lst (ns.map V.int)) hl1;rw[g0];have hb1:=s1 _ _ hb;obtain⟨ds,ed,nd,me,ld⟩:=Vc ns;have ek:ns.map V.int=(ns.map (Sum.inl:Int->Ag)).map kV:=by rw[BC];rfl
 refine⟨_,rfl,b,ns.map Sum.inl,rfl,SqL.of (by rw[<- ek];exact hb1),by rw[Al];lia,λst hst=>?_⟩;rw[ed];have s2:Same H1 (upd H1 st (Do P w st (ds.map Sum.inl))):=Same.new hst;refine⟨st,ds,rfl,Ae,nd,by lia,λl2 zs hl2 pm so=>?_⟩;have hz:zs=ns:=by have pn:ds.Perm ns:=(perm_ext_iff_of_nodup nd (hp.imp λh=>Int.ne_of_lt h)).mpr me;exact List.Perm.eq_of_pairwise (le:=(·<=·)) (λa b _ _ h1 h2=>by lia) so (hp.imp λh=>Int.le_of_lt h) (pm.trans pn)
 subst hz;have s3:Same H1 (upd (upd H1 st (Do P w st (ds.map Sum.inl))) l2 (.lst (zs.map V.int))):=Same.put (H':=upd H1 st (Do P w st (ds.map Sum.inl))) (o:=.lst (zs.map V.int)) s2 (s2.free hl2);have e3:(upd (upd H1 st (Do P w st (ds.map Sum.inl))) l2 (.lst (zs.map V.int))) l2=some (.lst (zs.map V.int)):=Ae;refine⟨l1,l2,_,_,_,_,rfl,rfl,s3 _ _ e1,e3,Fv _,Fv _,FW _,FW _,_,rfl,?_⟩;rw[QZ];refine A4 ?_;have hb2:=s3 _ _ hb1;refine⟨_,rfl,b,rfl,⟨_,SqL.of hb2⟩,λD hD=>?_⟩
 refine Cd (n:=zs.length) (λi ys H3=>ys=(replicate i true).map V.bl/\Same (upd (upd H1 st (Do P w st (ds.map Sum.inl))) l2 (.lst (zs.map V.int))) H3/\H3 D=some (.lst ys)) ⟨rfl,Same.new hD,Ae⟩
  (λi ys H3 hi hh0=>by obtain⟨_,s4,_⟩:=hh0;exact⟨_,.int zs[i],SqL.of (s4 _ _ hb2),by simp[hi]⟩) (λys H3 hh0=>by obtain⟨_,s4,_⟩:=hh0;exact⟨_,SqL.of (s4 _ _ hb2),by simp⟩) ?_ ?_
 ·rintro i ys H3 y H4 hi ⟨rfl,s4,e4⟩ ⟨rfl,hy⟩;refine CW ?_;have hy2:y=.int zs[i]:=by have:=hy _ (SqL.of (s4 _ _ hb2));rw[AV,AC hi]at this;(exact(BS this).symm)
  subst hy2;obtain⟨x0,x1⟩:=hx _ (CQ hi);refine⟨_,rfl,_,_,rfl,rfl,_,rfl,?_⟩;rw[Bb x0];refine BH ?_;refine⟨_,rfl,_,_,rfl,rfl,?_⟩;rw[Bb x1];refine⟨_,e4,by rw[Al,Od];lia,?_,s4.put hD,Ae⟩;rw[List.replicate_succ',AX];rfl
 rintro ys H3 ⟨rfl,s4,e4⟩;refine⟨D,_,rfl,SqL.of e4,_,rfl,?_⟩;rw[show(replicate zs.length true).all (λb=>b)=true from He.mpr λb hb=>(List.mem_replicate.mp hb).2];exact A4 (q H3 ((s1.trans s3).trans s4))
def bO (F:Fun K "check_steps" "check_steps" J7 f fd)(T:Bl mg)(M:Mc mg)(C_check_name:Ca P w K mg base CX0 1 "check_name" M4 KQ PK)(C_check_price:Ca P w K mg base CX0 1 "check_price" M1 KO PF):FnOk P w K mg base CX0 2 f fd Iy Pz:=by
 obtain⟨t1,m1⟩:=M.ms;refine F.oq scCheckSteps λaj A ag s H vs Q E hr1 h=>?_;obtain⟨a,b,ds,ls,st,rfl,ha,hb,hst,fd',fl,nd,ok,q⟩:=h;have ak:sizeLine=16777216:=AL;refine⟨_,(Af (AH (PW.pt (F1 (AS K3 (Bf C2 (by rfl) T.len CG (Aa (pv 0) Ab)) (EH (v:=.int 40) (by rfl) m1 ⟨_,rfl⟩) (AO _)) (HU (AS K3 (Bf C2 (by rfl) T.len CG (Aa (pv 1) Ab)) (EH (v:=.int 40) (by rfl) m1 ⟨_,rfl⟩) (AO _))))) EF AD) (Af (Ay (i:=2) scCheckSteps.nd (Aw Nu (Cb Gh (by rfl) T.list EO (Aa (pv 0) Ab)) (Cb Gh (by rfl) T.list EO (Aa (pv 1) Ab)))) (Af (HW (i:=3) (N:=["step"]) (sc:=Ak J7) (own:=["step"]) (fr:=[]) (js:=[]) scCheckSteps.nd rfl rfl B2 rfl (BG (pv 2)) (λ_ _ _ _=>AU (i:=0) (show List.Nodup (["step"]:List Str) by decide +kernel)) (λ_ _ _ _=>Dd) (λ_ _ _ _=>(As (El K rfl) (pv 0) Ac (λ_ _=>rfl)))) (Af (AH (AS K2 (Bf Vr (by rfl) T.len CG (Aa (Cb (Vq rfl) (by rfl) T.set Lr (Aa (pv 3) Ab)) Ab)) (Bf C2 (by rfl) T.len CG (Aa (pv 3) Ab)) (AO _)) EF AD) (Ah (BW B4 rfl (BG (pv 2)) (AU (i:=4) scCheckSteps.nd) (Af (BD (Aq C_check_name hr1 Ai (Aa (As AJ (pv 4) Ac (λ_ _=>rfl)) Ab))) (Ah (BD (Aq C_check_price hr1 Ai (Aa (As AJ (pv 4) Ac (λ_ _=>rfl)) Ab))))))))))),?_⟩;refine⟨_,rfl,_,_,rfl,.inl ⟨_,SqL.of ha,rfl⟩,_,_,rfl,rfl,_,rfl,?_⟩;refine AZ (λz=>?_) (λ_=>?_)
 ·exfalso;have:=BF z;lia
 refine⟨_,rfl,_,_,rfl,.inl ⟨_,SqL.of hb,rfl⟩,_,_,rfl,rfl,_,rfl,?_⟩;refine AZ (λz=>?_) (λ_=>?_)
 ·exfalso;have:=BF z;lia
 refine⟨_,rfl,a,_,rfl,.inl (SqL.of ha),λl1 hl1=>?_⟩;obtain⟨H1,g0,s1,e1⟩:=Bu (H:=H) (o:=.lst ds) hl1;rw[g0];refine⟨_,rfl,b,_,rfl,.inl (SqL.of (s1 _ _ hb)),λl2 hl2=>?_⟩;obtain⟨H2,g0,s2,e2⟩:=Bu (H:=H1) (o:=.lst ls) hl2;rw[g0];refine⟨l1,l2,_,_,rfl,rfl,s2 _ _ e1,e2,by lia,λl3 hl3=>?_⟩;obtain⟨H3,g0,s3,e3⟩:=Bu (H:=H2) (o:=.lst (ds++ls)) hl3;rw[g0];have s13:=(s1.trans s2).trans s3;have hst3:=hst.mono λv s _ ⟨t,r⟩=>(⟨t,r.same s13⟩:∃t,StV H3 v s.1 s.2 t);have hsl2:=hst.len;have hdl:(ds++ls).length<=80:=by rw[AR];lia
 generalize ds++ls=xs at e3 hst3 hsl2 hdl;refine⟨_,rfl,l3,rfl,⟨_,SqL.of e3⟩,λD hD=>?_⟩
 refine Cd (n:=xs.length) (λi ys H4=>ys=((st.take i).map (·.1)).map V.str/\Same H3 H4/\H4 D=some (.lst ys)) ⟨rfl,Same.new hD,Ae⟩
  (λi ys H4 hi hh0=>by obtain⟨_,s4,_⟩:=hh0;exact⟨_,xs[i],SqL.of (s4 _ _ e3),by simp[hi]⟩) (λys H4 hh0=>by obtain⟨_,s4,_⟩:=hh0;exact⟨_,SqL.of (s4 _ _ e3),by simp⟩) ?_ ?_
 ·rintro i ys H4 y H5 hi ⟨rfl,s4,e4⟩ ⟨rfl,hy⟩;refine CW ?_;obtain⟨sp,hsp,hmem,t,a',rfl,et⟩:=hst3.at (hy _ (SqL.of (s4 _ _ e3)));have at0:Ax [V.str sp.1,V.int sp.2,V.ref t] ((0:Nat):Int)=some (.str sp.1):=Av rfl;refine⟨_,rfl,a',_,_,_,rfl,rfl,SqT.of (s4 _ _ et),at0,_,e4,by simp only[Al,BO];lia,?_,s4.put hD,Ae⟩;obtain⟨hi2,e⟩:=AN.mp hsp;rw[BK hi2,AX,AX,e];rfl
 rintro ys H4 ⟨rfl,s4,e4⟩;rw[hsl2,Bq]at e4;have hnl:(st.map (·.1)).length=st.length:=Al ..;have ek:(st.map (·.1)).map V.str=((st.map (·.1)).map (Sum.inr:Str->Ag)).map kV:=by rw[BC,BC,BC];rfl
 have hdd:=S1 nd;have hks:((st.map (·.1)).map (Sum.inr:Str->Ag)).length=st.length:=by rw[Al,Al]
 refine⟨_,rfl,D,(st.map (·.1)).map Sum.inr,rfl,SqL.of (by rw[<- ek];exact e4),by lia,λst' hst'=>?_⟩;have s5:Same H4 (upd H4 st' (JN P w st' (SK.dd (BX ((st.map (·.1)).map (Sum.inr:Str->Ag))) ((st.map (·.1)).map (Sum.inr:Str->Ag)).length).length)):=Same.new hst';refine⟨st',_,rfl,Ae,_,rfl,_,_,rfl,.inl ⟨_,SqL.of (s5 _ _ e4),rfl⟩,_,_,rfl,rfl,_,rfl,?_⟩;have hml:((st.map (·.1)).map V.str).length=(st.map (·.1)).length:=Al ..;refine AZ (λhlt=>?_) (λ_=>?_)
 ·exfalso;have:=BF hlt;rw[hml,hdd]at this;lia
 have s45:=s4.trans s5;have e35:=s45 _ _ e3;refine⟨_,rfl,l3,rfl,⟨_,SqL.of e35⟩,C1 (K:=K) (a:=l3) (xs:=xs) (λi σ H6=>∃v4:Option V,σ = [some (.ref a),some (.ref b),some (.ref l3),some (.ref D),v4]/\Same H3 H6) ⟨none,rfl,s45⟩ (λi σ H6 _ hh0=>by obtain⟨_,_,s6⟩:=hh0;exact SqL.of (s6 _ _ e3)) ?_ ?_⟩
 ·rintro i y σ H6 hy ⟨v4,rfl,s6⟩;obtain⟨sp,hsp,hmem,t,a',rfl,et⟩:=hst3.at hy;have at0:Ax [V.str sp.1,V.int sp.2,V.ref t] ((0:Nat):Int)=some (.str sp.1):=Av rfl;have at1:Ax [V.str sp.1,V.int sp.2,V.ref t] ((1:Nat):Int)=some (.int sp.2):=Av rfl;have et6:=s6 _ _ et;have o:=ok _ hmem;refine⟨_,rfl,a',_,_,_,rfl,rfl,SqT.of et6,at0,sp.1,rfl,o.n1,o.n2,?_⟩;refine⟨_,rfl,a',_,_,_,rfl,rfl,SqT.of et6,at1,sp.2,rfl,o.p1,o.p2,?_⟩;exact⟨_,rfl,s6⟩
 rintro σ H6 ⟨v4,rfl,s6⟩;exact q H6 (s13.trans s6)
def ZV (F:Fun K "read_looks" "read_looks" MG f fd)(T:Bl mg)(C_check_table:Ca P w K mg base CX0 1 "check_table" J6 Iw Mv):FnOk P w K mg base CX0 2 f fd Ie O2:=by
 refine F.oq scReadLooks λaj A ag s H vs Q E hr1 h=>?_;obtain⟨m,a,us,ls,rfl,hm,ha,hl,ok,nd,few,q⟩:=h;have hu:=Em hr1;have ak:sizeLine=16777216:=AL;have hul:=hl.len;refine⟨_,(Af (Ay (i:=2) scReadLooks.nd Ni) (Af (BW B4 rfl (BG (pv 1)) (AU (i:=3) scReadLooks.nd) (Af (BD (Aq C_check_table hr1 Ai (Aa (pv 0) (Aa (As AJ (pv 3) Ac (λ_ _=>rfl)) (Aa (As AJ (pv 3) Ac (λ_ _=>rfl)) Ab))))) (Ah (Kc hu (pv 2) (As AJ (pv 3) Ac (λ_ _=>rfl)) (Cb NR (by rfl) T.tuple Lq (Aa (As AJ (pv 3) Ac (λ_ _=>rfl)) Ab)) rfl)))) (Ah (Ar (pv 2))))),?_⟩;intro d hd;have s0:Same H (upd H d (.dK [])):=Same.new hd;refine⟨_,rfl,a,rfl,⟨_,SqL.of (s0 _ _ ha)⟩,C1 (K:=K) (a:=a) (xs:=us) (λi σ H2=>∃(v3:Option V) (kvs:List (Ag×V)),σ = [some (.int (m:Int)),some (.ref a),some (.ref d),v3]/\Same H H2/\H2 d=some (.dK kvs)/\KA Loo.name (AnV H2) kvs (ls.take i)) ⟨none,[],rfl,s0,Ae,by rw[Dv];exact KA.nil⟩ (λi σ H2 _ hh0=>by obtain⟨_,_,_,s2,_⟩:=hh0;exact SqL.of (s2 _ _ ha)) ?_ ?_⟩
 ·rintro i y σ H2 hy ⟨v3,kvs,rfl,s2,e2,ka⟩;obtain⟨l,hli,hlm,t,⟨a',rfl,et⟩,ht⟩:=hl.at hy;have at0:Ax [V.str l.name,V.int l.price,V.ref t] ((0:Nat):Int)=some (.str l.name):=Av rfl;have at2:Ax [V.str l.name,V.int l.price,V.ref t] ((2:Nat):Int)=some (.ref t):=Av rfl;have et2:=s2 _ _ et;have ht2:=s2 _ _ ht;have htl:(l.tab.map oS).length=m:=by rw[Al];exact ok l hlm
  have hkl:=ka.len;rw[BO]at hkl;obtain⟨hi2,ei⟩:=AN.mp hli
  have hnone:BM kvs (Sum.inr l.name:Ag)=none:=ka.none λz=>by
   have hnd:((ls.take (i+1)).map Loo.name).Nodup:=by rw[Jc];exact LV (Hf _ _) nd
   rw[BK hi2,ei,AX]at hnd;exact(BZ.mp hnd).2.2 _ z l.name (AQ.mpr rfl) rfl
  refine⟨_,rfl,_,rfl,a',_,_,_,rfl,rfl,SqT.of et2,at0,_,rfl,a',_,_,_,rfl,rfl,SqT.of et2,at2,_,_,t,_,rfl,ht2,by rw[htl],?_⟩;refine⟨_,rfl,a',_,_,_,rfl,rfl,SqT.of et2,at2,t,_,rfl,.inl ⟨SqL.of ht2,λtp htp=>?_⟩⟩;have s3:Same H2 (upd H2 tp (.tup (l.tab.map oS))):=Same.new htp;refine⟨_,rfl,_,rfl,a',_,_,_,rfl,rfl,SqT.of (s3 _ _ et2),at0,d,_,rfl,DPut.k (k:=(Sum.inr l.name:Ag)) (s3 _ _ e2) (by lia),?_⟩;rw[HV _ hnone];refine⟨_,_,rfl,(s2.trans s3).put hd,Ae,?_⟩;have dt:tp≠d:=(AM e2 htp).symm;rw[BK hi2,ei];refine KA.snoc (ka.mono λv x _ r=>r.keep λb xs e=>?_) ⟨tp,rfl,by rw[Aj dt];exact Ae⟩;rw[Aj (Bg e e2 (by intro z;cases z))];exact s3 _ _ e
 rintro σ H2 ⟨v3,kvs,rfl,s2,e2,ka⟩;rw[hul,Bq]at ka;exact⟨_,rfl,q d kvs H2 s2 hd e2 ka⟩
def ZW (F:Fun K "read_deeds" "read_deeds" JO f fd)(T:Bl mg)(C_check_table:Ca P w K mg base CX0 1 "check_table" J6 Iw Mv)(C_check_entry:Ca P w K mg base CX0 1 "check_entry" J8 KR PM)(C_set_of:Ca P w K mg base CX0 1 "set_of" Hy GJ (JH K)):FnOk P w K mg base CX0 2 f fd Ig O3:=by
 refine F.oq scReadDeeds λaj A ag s H vs Q E hr1 h=>?_;obtain⟨m,a,us,ds,rfl,hm,ha,hl,ok,nd,few,q⟩:=h;have hu:=Em hr1;have ak:sizeLine=16777216:=AL;have hul:=hl.len;refine⟨_,(Af (Ay (i:=2) scReadDeeds.nd Ni) (Af (BW B4 rfl (BG (pv 1)) (AU (i:=3) scReadDeeds.nd) (Af (Ay (i:=4) scReadDeeds.nd (As AJ (pv 3) Ac (λ_ _=>rfl))) (Af (Ay (i:=5) scReadDeeds.nd (As AJ (pv 3) Ac (λ_ _=>rfl))) (Af (BD (Aq C_check_table hr1 Ai (Aa (pv 0) (Aa (pv 4) (Aa (pv 5) Ab))))) (Af (BW B4 rfl (BG (pv 5)) (AU (i:=6) scReadDeeds.nd) (Ah (BD (Aq C_check_entry hr1 Ai (Aa (pv 0) (Aa (pv 4) (Aa (pv 6) Ab))))))) (Ah (Kc hu (pv 2) (pv 4) (Cb NR (by rfl) T.tuple Lq (Aa (CK (N:=["entry"]) (sc:=Ak JO) (own:=["entry"]) (fr:=[]) (js:=[]) B2 rfl (BG (pv 5)) (λ_ _ _ _=>AU (i:=0) (show List.Nodup (["entry"]:List Str) by decide +kernel)) (λ_ _ _ _=>Dd) (λ_ _ _ _=>(Aq C_set_of hr1 Ai (Aa (pv 0) Ab)))) Ab)) rfl))))))) (Ah (Ar (pv 2))))),?_⟩;intro d hd;have s0:Same H (upd H d (.dK [])):=Same.new hd;refine⟨_,rfl,a,rfl,⟨_,SqL.of (s0 _ _ ha)⟩,C1 (K:=K) (a:=a) (xs:=us) (λi σ H2=>∃(v3 v4 v5 v6:Option V) (kvs:List (Ag×V)),σ = [some (.int (m:Int)),some (.ref a),some (.ref d),v3,v4,v5,v6]/\Same H H2/\H2 d=some (.dK kvs)/\KA Dee.name (OuV H2) kvs (ds.take i)) ⟨none,none,none,none,[],rfl,s0,Ae,by rw[Dv];exact KA.nil⟩ (λi σ H2 _ hh0=>by obtain⟨_,_,_,_,_,_,s2,_⟩:=hh0;exact SqL.of (s2 _ _ ha)) ?_ ?_⟩
 ·rintro i y σ H2 hy ⟨v3,v4,v5,v6,kvs,rfl,s2,e2,ka⟩;obtain⟨l,hli,hlm,t,es,⟨a',rfl,et⟩,ht,he⟩:=hl.at hy;have at0:Ax [V.str l.name,V.int l.price,V.ref t] ((0:Nat):Int)=some (.str l.name):=Av rfl;have at2:Ax [V.str l.name,V.int l.price,V.ref t] ((2:Nat):Int)=some (.ref t):=Av rfl;have et2:=s2 _ _ et;have ht2:=s2 _ _ ht;have o:=ok l hlm;have hel:=he.len;have hkl:=ka.len;rw[BO]at hkl;obtain⟨hi2,ei⟩:=AN.mp hli
  have hnone:BM kvs (Sum.inr l.name:Ag)=none:=ka.none λz=>by
   have hnd:((ds.take (i+1)).map Dee.name).Nodup:=by rw[Jc];exact LV (Hf _ _) nd
   rw[BK hi2,ei,AX]at hnd;exact(BZ.mp hnd).2.2 _ z l.name (AQ.mpr rfl) rfl
  refine⟨_,rfl,a',_,_,_,rfl,rfl,SqT.of et2,at0,?_⟩;refine⟨_,rfl,a',_,_,_,rfl,rfl,SqT.of et2,at2,?_⟩;refine⟨_,rfl,_,rfl,_,rfl,_,_,t,_,rfl,ht2,by rw[hel,o.len],?_⟩;refine⟨_,rfl,t,rfl,⟨_,SqL.of ht2⟩,C1 (K:=K) (a:=t) (xs:=es) (λj σ H3=>(∃v6':Option V,σ = [some (.int (m:Int)),some (.ref a),some (.ref d),some (.ref a'),some (.str l.name),some (.ref t),v6'])/\Same H2 H3) ⟨⟨_,rfl⟩,Same.refl _⟩ (λj σ H3 _ hh0=>by obtain⟨_,s3⟩:=hh0;exact SqL.of (s3 _ _ ht2)) ?_ ?_⟩
  ·rintro j y σ H3 hy' ⟨⟨v6',rfl⟩,s3⟩;obtain⟨ns,hns,hnm,b,rfl,eb⟩:=he.at hy';exact⟨_,rfl,_,rfl,_,rfl,_,_,b,ns,rfl,(s2.trans s3) _ _ eb,o.up ns hnm,o.inn ns hnm,o.few ns hnm,λH4 s4=>⟨⟨_,rfl⟩,s3.trans s4⟩⟩
  rintro σ H3 ⟨⟨v6',rfl⟩,s3⟩;have ht3:=s3 _ _ ht2;refine⟨_,rfl,t,rfl,⟨_,SqL.of ht3⟩,λD hD=>?_⟩
  refine Cd (n:=es.length) (λj ys H4=>ys=(l.tab.take j).map (λn=>V.int (bt n:Nat))/\Same H3 H4/\H4 D=some (.lst ys)) ⟨rfl,Same.new hD,Ae⟩
   (λj ys H4 hj hh0=>by obtain⟨_,s4,_⟩:=hh0;exact⟨_,es[j],SqL.of (s4 _ _ ht3),by simp[hj]⟩) (λys H4 hh0=>by obtain⟨_,s4,_⟩:=hh0;exact⟨_,SqL.of (s4 _ _ ht3),by simp⟩) ?_ ?_
  ·rintro j ys H4 y H5 hj ⟨rfl,s4,e4⟩ ⟨rfl,hy'⟩;refine CW ?_;obtain⟨ns,hns,hnm,b,rfl,eb⟩:=he.at (hy' _ (SqL.of (s4 _ _ ht3)));refine⟨_,rfl,b,ns,rfl,SqL.of (((s2.trans s3).trans s4) _ _ eb),o.wd hm ns hnm,_,e4,by rw[Al,BO,o.len];lia,?_,s4.put hD,Ae⟩;obtain⟨hj2,ej⟩:=AN.mp hns;rw[BK hj2,AX,ej];rfl
  rintro ys H4 ⟨rfl,s4,e4⟩;rw[hel,Bq]at e4;refine⟨D,_,rfl,.inl ⟨SqL.of e4,λtp htp=>?_⟩⟩;have s24:=s3.trans s4;have s3':Same H4 (upd H4 tp (.tup (l.tab.map λn=>V.int (bt n:Nat)))):=Same.new htp;have e24:=s24 _ _ e2;refine⟨_,rfl,_,rfl,d,_,rfl,DPut.k (k:=(Sum.inr l.name:Ag)) (s3' _ _ e24) (by lia),?_⟩;rw[HV _ hnone];refine⟨_,_,_,_,_,rfl,((s2.trans s24).trans s3').put hd,Ae,?_⟩;have dt:tp≠d:=(AM e24 htp).symm;rw[BK hi2,ei];refine KA.snoc (ka.mono λv x _ r=>r.keep λb xs e=>?_) ⟨tp,rfl,by rw[Aj dt];exact Ae⟩;rw[Aj (Bg e e2 (by intro z;cases z))];exact s3' _ _ (s24 _ _ e)
 rintro σ H2 ⟨v3,v4,v5,v6,kvs,rfl,s2,e2,ka⟩;rw[hul,Bq]at ka;exact⟨_,rfl,q d kvs H2 s2 hd e2 ka⟩
def Q9:bootBuiltins "enumerate" = some (.type "enumerate"):=by decide +kernel
def NU:bootBuiltins "dict" = some (.type "dict"):=by decide +kernel
def NA (Pv:Nat->List V->Hp->Prop)(h0:Pv 0 [] (upd H0 D (.lst [])))
  (go:∀i ys H,i<n->Pv i ys H->J.go i H)(stop:∀ys H,Pv n ys H->J.stop n H)
  (hs:∀i ys H x H1,i<n->Pv i ys H->J.yld i H x H1->∃(a:Addr) (u v:V),x=.ref a/\SqT K H1 a [u,v]/\tc (some u::some v::ρ) H1 λb H3=>if b=true then te (some u::some v::ρ) H3 λy H4=>∃zs,H4 D=some (.lst zs)/\zs.length<sizeLine/\Pv (i+1) (zs++[y]) (upd H4 D (.lst (zs++[y])))else Pv (i+1) ys H3)
  (hd:∀ys H,Pv n ys H->fin H):∃W:Nat->Nat->List V->Hp->Prop,(∃m,W 0 m [] (upd H0 D (.lst [])))/\Hq J D (none::none::ρ) (IM K 2 (IQ (EJ 0) (IQ (EJ 1) QP))) tc te fin W:=by
 refine⟨λi m ys H=>m=n-i/\i<=n/\Pv i ys H,⟨n,rfl,Bk _,h0⟩,?_⟩
 rintro i m ys H ⟨rfl,hi,p⟩
 by_cases hlt:i<n
 ·refine .inr ⟨go i ys H hlt p,Pv (i+1),λys' H' p'=>⟨n-(i+1),by lia,rfl,hlt,p'⟩,λx H1 y=>?_⟩;obtain⟨a,u,v,rfl,hq,h⟩:=hs i ys H x H1 hlt p y;exact⟨a,_,rfl,hq,rfl,_,_,rfl,_,_,rfl,rfl,Xk,h⟩
 have e:i=n:=by lia
 subst e
 exact .inl ⟨stop ys H p,hd ys H p⟩
def lV {a:Addr}{xs:List V}{g:TG}{tb:TS}{D:Fp}{σ:L2.St}{H:Hp}(Pv:Nat->L2.St->Hp->Prop)(h0:Pv 0 σ H)(hl:∀i σ H,i<=xs.length->Pv i σ H->SqT K H a xs)
  (hs:∀i x p σ H,xs[i]? = some x->Pv i σ H->H p=none->g (.ref p) σ (upd H p (.tup [.int (i:Nat),x])) λσ2 H2=>tb { D with nx:=Pv (i+1),ct:=Pv (i+1),bk:=D.nx } σ2 H2)(hd:∀σ H,Pv xs.length σ H->D.nx σ H) :
  ∃W:Nat->Nat->L2.St->Hp->Prop,(∃m,W 0 m σ H)/\∀i m σ H,W i m σ H ->
   ((Jy K a).stop i H/\D.nx σ H)\/((Jy K a).go i H/\∃N:L2.St->Hp->Prop,(∀σ' H',N σ' H'->∃m',m'<m/\W (i+1) m' σ' H')/\∀x H',(Jy K a).yld i H x H'->g x σ H' λσ2 H2=>tb { D with nx:=N,ct:=N,bk:=D.nx } σ2 H2):=by
 refine⟨λi m σ H=>m=xs.length-i/\i<=xs.length/\Pv i σ H,⟨xs.length,by simp,Bk _,h0⟩,?_⟩
 rintro i m σ H ⟨rfl,hi,p⟩
 have q:=hl i σ H hi p
 by_cases hlt:i<xs.length
 ·refine .inr ⟨⟨xs,xs[i],q,by simp[hlt]⟩,Pv (i+1),λσ' H' p'=>⟨xs.length-(i+1),by lia,rfl,hlt,p'⟩,λx H' y=>?_⟩;obtain⟨pp,x',rfl,hp,rfl,hx⟩:=y;exact hs i x' pp σ H (hx xs q) p hp
 have e:i=xs.length:=by lia
 subst e
 exact .inl ⟨⟨xs,q,rfl⟩,hd σ H p⟩
def UH {a:Addr}{o:Obj}{kvs:List (Ag×V)}{g:TG}{tb:TS}{D:Fp}{σ:L2.St}{H:Hp}(Pv:Nat->L2.St->Hp->Prop)(h0:Pv 0 σ H)(hl:∀i σ H,i<=kvs.length->Pv i σ H->H a=some (.frz o (.dK kvs)))
  (hs:∀i kv p σ H,kvs[i]? = some kv->Pv i σ H->H p=none->g (.ref p) σ (upd H p (.tup [kV kv.1,kv.2])) λσ2 H2=>tb { D with nx:=Pv (i+1),ct:=Pv (i+1),bk:=D.nx } σ2 H2)(hd:∀σ H,Pv kvs.length σ H->D.nx σ H) :
  ∃W:Nat->Nat->L2.St->Hp->Prop,(∃m,W 0 m σ H)/\∀i m σ H,W i m σ H ->
   ((Jx a o kvs).stop i H/\D.nx σ H)\/((Jx a o kvs).go i H/\∃N:L2.St->Hp->Prop,(∀σ' H',N σ' H'->∃m',m'<m/\W (i+1) m' σ' H')/\∀x H',(Jx a o kvs).yld i H x H'->g x σ H' λσ2 H2=>tb { D with nx:=N,ct:=N,bk:=D.nx } σ2 H2):=by
 refine⟨λi m σ H=>m=kvs.length-i/\i<=kvs.length/\Pv i σ H,⟨kvs.length,by simp,Bk _,h0⟩,?_⟩
 rintro i m σ H ⟨rfl,hi,p⟩
 have q:=hl i σ H hi p
 by_cases hlt:i<kvs.length
 ·refine .inr ⟨⟨hlt,q⟩,Pv (i+1),λσ' H' p'=>⟨kvs.length-(i+1),by lia,rfl,hlt,p'⟩,λx H' y=>?_⟩;obtain⟨pp,k,v,rfl,hp,rfl,hx⟩:=y;exact hs i (k,v) pp σ H hx p hp
 have e:i=kvs.length:=by lia
 subst e
 exact .inl ⟨⟨Am _,q⟩,hd σ H p⟩
def Bi (tab:List (Option Str))(s:Str):List Int:=((List.range tab.length).filter λi=>decide (tab[i]? = some (some s))).map λi:Nat=>(i:Int)
def QL (tab:List (Option Str))(x:Option Str)(s:Str):Bi (tab++[x]) s=Bi tab s++(if x=some s then [(tab.length:Int)]else []):=by
 unfold Bi;rw[AR,Fh,Hc,Eu,AX];congr 1
 ·congr 1;refine Lz λi hi=>?_;rw[Cr (DO.mp hi)]
 by_cases h:x=some s
 ·rw[AB h,List.filter_cons_of_pos (by simp[h])];rfl
 rw[Ao h,List.filter_cons_of_neg (by simp[h])];rfl
structure PsOk (tab:List (Option Str))(ps:List (Str×V)):Prop where
 nd:(ps.map (·.1)).Nodup
 val:∀p∈ps,p.2=V.int (bt (Bi tab p.1):Nat)
 has:∀s,some s∈tab↔s∈ps.map (·.1)
abbrev kf (p:Str×V):Ag×V:=(Sum.inr p.1,p.2)
def PsOk.zero:PsOk [] []:=⟨nodup_nil,(λp h=>nomatch h),λs=>⟨(λh=>nomatch h),(λh=>nomatch h)⟩⟩
def PsOk.skip (h:PsOk tab ps):PsOk (tab++[none]) ps:=⟨h.nd,λp hp=>by
 rw[QL,Ao (by simp),BR];exact h.val p hp,λs=>by
 rw[<- h.has s];simp⟩
def Sv {ps:List (Str×V)}{s:Str}(h:s∉ps.map (·.1)):BM (ps.map kf) (Sum.inr s:Ag)=none:=by
 cases e:BM (ps.map kf) (Sum.inr s:Ag)with
 | none=>rfl
 | some v=>exfalso;have:=Mg e;rw[BC]at this;obtain⟨p,hp,ep⟩:=AE.mp this;exact h (AE.mpr ⟨p,hp,Et ep⟩)
def PsOk.old (h:PsOk tab ps)(s:Str):(BM (ps.map kf) (Sum.inr s:Ag)).getD (.int 0)=V.int (bt (Bi tab s):Nat):=by
 by_cases hs:s∈ps.map (·.1)
 ·obtain⟨p,hp,ep⟩:=AE.mp hs;obtain⟨i,hi⟩:=DL hp;have hk:(ps.map kf)[i]? = some (kf p):=by rw[AV,hi];rfl
  have nd:((ps.map kf).map (·.1)).Nodup:=by rw[BC,show((λx:Ag×V=>x.1) ∘ kf)=(Sum.inr ∘ λp:Str×V=>p.1) from rfl,<- BC];exact LA.mpr (Rm (λh e=>h (Et e)) h.nd)
  have:=OM nd hk;rw[show(kf p).1=(Sum.inr s:Ag) from by rw[<- ep]]at this;rw[this,<- ep];exact h.val p hp
 rw[Sv hs]
 have e:Bi tab s=[]:=by
  unfold Bi;rw[LR.mpr λi hi z=>?_]
  ·rfl
  exact hs ((h.has s).mp (Bt (BF z)))
 rw[e];rfl
def PsOk.put (h:PsOk tab ps)(s:Str):∃ps':List (Str×V),Cm (ps.map kf) (Sum.inr s:Ag) (V.int (bt (Bi (tab++[some s]) s):Nat))=ps'.map kf/\PsOk (tab++[some s]) ps':=by
 generalize hv:V.int (bt (Bi (tab++[some s]) s):Nat)=v;have other:∀x,x≠s->Bi (tab++[some s]) x=Bi tab x:=λx hx=>by rw[QL,Ao (λe=>hx (BS e).symm),BR]
 have mem:∀x,some x∈tab++[some s]↔(some x∈tab\/x=s):=λx=>by rw[A5,AQ,Og]
 by_cases hs:s∈ps.map (·.1)
 ·refine⟨ps.map λp=>if p.1=s then(p.1,v)else p,?_,?_⟩
  ·unfold Cm;rw[AB]
   ·rw[BC,BC];refine map_congr_left λp _=>?_;show(if (Sum.inr p.1:Ag)=Sum.inr s then((Sum.inr p.1:Ag),v)else(Sum.inr p.1,p.2))=kf (if p.1=s then(p.1,v)else p);by_cases e:p.1=s
    ·rw[AB (by rw[e]),AB e]
    rw[Ao (λz=>e (Et z)),Ao e]
   obtain⟨p,hp,ep⟩:=AE.mp hs;exact DK.mpr ⟨kf p,AE.mpr ⟨p,hp,rfl⟩,Bb (by rw[<- ep])⟩
  have ek:(ps.map λp=>if p.1=s then(p.1,v)else p).map (·.1)=ps.map (·.1):=by rw[BC];refine map_congr_left λp _=>?_;show(if p.1=s then(p.1,v)else p).1=p.1;split <;> rfl
  refine⟨by rw[ek];exact h.nd,λp hp=>?_,λx=>?_⟩
  ·obtain⟨p0,hp0,e⟩:=AE.mp hp;by_cases e0:p0.1=s
   ·rw[AB e0]at e;rw[<- e];show v=_;rw[<- hv,e0]
   rw[Ao e0]at e;rw[<- e,other _ e0];exact h.val p0 hp0
  rw[ek,mem,h.has];exact⟨λz=>z.elim id (λe=>by rw[e];exact hs),.inl⟩
 refine⟨ps++[(s,v)],?_,?_⟩
 ·rw[HV _ (Sv hs),AX];rfl
 refine⟨?_,λp hp=>?_,λx=>?_⟩
 ·rw[AX];exact BZ.mpr ⟨h.nd,by simp,λa ha b hb e=>hs (by have hb':b=s:=AQ.mp hb;rw[<- hb',<- e];exact ha)⟩
 ·rcases(A5.mp hp)with z | z
  ·rw[other _ (λe=>hs (by rw[<- e];exact AE.mpr ⟨p,z,rfl⟩))];exact h.val p z
  rw[AQ.mp z];exact hv.symm
 rw[mem,h.has,AX,A5];simp
inductive O5 (vs:List V)(H:Hp)(Q:VK)(E0_:XK):Prop
 | mk (t:Addr) (tab:List (Option Str)) (as:List Str) (c0:vs=[.ref t]) (c1:H t=some (.tup (tab.map oS))) (c2:tab.length<=200) (c3:(∀s,some s∈tab->s∈as)) (c4:as.length<=3) (c5:as.Nodup) (c6:∀(r:Addr) (ro:Obj) (ts:List Addr) (ps zs:List (Str×V)) (H':Hp),Same H H'->ro.dict=none->H' r=some (.frz ro (.tup (ts.map V.ref)))->OD H' ts zs->zs.Perm ps->F7 zs=true->PsOk tab ps->Q (.ref r) H'):O5  vs H Q E0_
abbrev Ih:List Str:=["answers"]
abbrev cX:List Str:=Be Ih ["found", "world", "answer"]
def scParted:Au cX Ih (Ak MH):=AA
def ZZ (F:Fun K "parted" "parted" MH f fd)(T:Bl mg)(C_set_of:Ca P w K mg base CX0 1 "set_of" Hy GJ (JH K)):FnOk P w K mg base CX0 2 f fd Ih O5:=by
 refine F.oq scParted λaj A ag s H vs Q E hr1 h=>?_;obtain⟨t,tab,as,rfl,ht,hl,has,a3,and',q⟩:=h;have hu:=Em hr1;have ak:sizeLine=16777216:=AL;refine⟨_,(Af (Ay (i:=1) scParted.nd Ni) (Af (BW B4 rfl (Qq (by rfl) T.enumerate Q9 (Aa (pv 0) Ab)) (DV rfl (BP (AU (i:=2) scParted.nd) (BP (AU (i:=3) scParted.nd) DU))) (Ah (AH (AS Nt (pv 3) Cw (AO _)) (Ah (Kc hu (pv 1) (pv 3) (Aw F4 (Tt hu (pv 1) (pv 3) Ac ⟨by rfl,by rfl,by rfl,by rfl⟩) (Aq C_set_of hr1 Ai (Aa (Cy (Aa (pv 2) Ab)) Ab))) rfl)) AD))) (Ah (Ar (Cb nU (by rfl) T.tuple Lq (Aa (Bf (nX rfl) (by rfl) T.sorted NT (Aa (Nk RX Ou PySem.F.type_dict_items hZ (pv 1)) Ab)) Ab)))))),?_⟩;intro d hd;have s0:Same H (upd H d (.dK [])):=Same.new hd;refine⟨_,rfl,t,rfl,⟨_,SqT.of (s0 _ _ ht)⟩,lV (K:=K) (a:=t) (xs:=tab.map oS) (λi σ H2=>∃(v2 v3:Option V) (ps:List (Str×V)),σ = [some (.ref t),some (.ref d),v2,v3]/\Same H H2/\H2 d=some (.dK (ps.map kf))/\PsOk (tab.take i) ps) ⟨none,none,[],rfl,s0,Ae,by rw[Dv];exact PsOk.zero⟩ (λi σ H2 _ hh0=>by obtain⟨_,_,_,_,s2,_⟩:=hh0;exact SqT.of (s2 _ _ ht)) ?_ ?_⟩
 ·rintro i x p σ H2 hx ⟨v2,v3,ps,rfl,s2,e2,po⟩ hp;rw[AV]at hx;cases hti:tab[i]? with
  | none=>rw[hti]at hx;cases hx
  | some o=>
   rw[hti]at hx;have hx':x=oS o:=(BS hx).symm;subst hx';obtain⟨hi,ei⟩:=AN.mp hti;have htk:tab.take (i+1)=tab.take i++[o]:=by rw[BK hi,ei]
   have s3:Same H2 (upd H2 p (.tup [.int (i:Nat),oS o])):=Same.new hp;refine⟨p,_,rfl,SqT.of Ae,rfl,_,_,rfl,_,_,rfl,rfl,?_⟩;generalize (upd H2 p (.tup [.int (i:Nat),oS o]))=H3 at s3 ⊢;have e3:=s3 _ _ e2;cases o with
   | none=>refine⟨_,rfl,rfl,_,rfl,?_⟩;refine A4 ⟨_,_,ps,rfl,s2.trans s3,e3,?_⟩;rw[htk];exact po.skip
   | some sa=>
    refine⟨_,rfl,rfl,_,rfl,?_⟩;refine BH ?_;refine⟨_,rfl,d,rfl,.inl ⟨_,.inl e3⟩,_,rfl,_,DGet.k (k:=(Sum.inr sa:Ag)) e3,?_⟩;rw[po.old sa];refine⟨_,rfl,AW,λlb hlb=>?_⟩;have s4:Same H3 (upd H3 lb (.lst [.int (i:Nat)])):=Same.new hlb;refine⟨lb,[(i:Int)],rfl,SqL.of Ae,λn hn=>by rw[AQ.mp hn];exact⟨by lia,by lia⟩,_,_,rfl,rfl,?_⟩;have hbo:Builtin.bitOr ((bt (Bi (tab.take i) sa):Nat):Int) ((bt [(i:Int)]:Nat):Int)=((bt (Bi (tab.take (i+1)) sa):Nat):Int):=by rw[E7,htk,QL,AB rfl,BO,Nat.min_eq_left (by lia),Q7,show bt [(i:Int)]=2^((i:Int)).toNat from by unfold bt;simp]
    rw[hbo];obtain⟨ps',e',po'⟩:=po.put sa;rw[<- htk]at e' po';have hpl:(ps.map kf).length<=200:=by have h1:(ps.map (·.1)).length<=as.length:=Oz po.nd λz hz=>has z (Jk ((po.has z).mpr hz));rw[Al]at h1 ⊢;lia
    refine⟨_,rfl,_,rfl,d,_,rfl,DPut.k (k:=(Sum.inr sa:Ag)) (s4 _ _ e3) (by lia),?_⟩;rw[e'];exact⟨_,_,ps',rfl,((s2.trans s3).trans s4).put hd,Ae,po'⟩
 rintro σ H2 ⟨v2,v3,ps,rfl,s2,e2,po⟩;rw[Al,Bq]at po;have h3:ps.length<=3:=by have h1:(ps.map (·.1)).length<=as.length:=Oz po.nd λz hz=>has z ((po.has z).mpr hz);rw[Al]at h1;lia
 refine⟨_,rfl,.inr (.inr (.inl ⟨rfl,.inl ⟨_,e2⟩⟩)),d,_,rfl,rfl,e2,λv hv=>?_⟩;have s3:Same H2 (upd H2 v (Cu v d)):=Same.new hv;refine⟨v,d,ps,rfl,Ae,s3 _ _ e2,h3,λl ts zs H4 s4 hl4 pm lt el pr=>?_⟩;refine⟨l,_,rfl,SqL.of el,λr ro hr hd0=>?_⟩;have s5:Same H4 (upd H4 r (.frz ro (.tup (ts.map V.ref)))):=Same.new hr;exact q r ro ts ps zs _ (((s2.trans s3).trans s4).trans s5) hd0 Ae ⟨pr.1,λi a p h1 h2=>s5 _ _ (pr.2 i a p h1 h2)⟩ pm lt po
abbrev Iu:List Str:=["outs", "answers"]
abbrev fY:List Str:=Be Iu ["found", "name", "sets", "told"]
def scDoableSets:Au fY Iu (Ak HQ):=AA
def BN {α:Type}(p:α->Bool)(tab:List α):List Int:=((List.range tab.length).filter λi=>(tab[i]?.map p).getD false).map λi:Nat=>(i:Int)
def U4 {α:Type}(p:α->Bool)(tab:List α)(x:α):BN p (tab++[x])=BN p tab++(if p x=true then [(tab.length:Int)]else []):=by
 unfold BN;rw[AR,Fh,Hc,Eu,AX];congr 1
 ·congr 1;refine Lz λi hi=>?_;rw[Cr (DO.mp hi)]
 by_cases h:p x=true
 ·rw[AB h,List.filter_cons_of_pos (by simp[h])];rfl
 rw[Ao h,List.filter_cons_of_neg (by simp[h])];rfl
def U3 {α:Type}(p:α->Bool){tab:List α}(h:tab.length<=200):Wd (BN p tab):=λn hn=>by unfold BN at hn;obtain⟨i,hi,rfl⟩:=AE.mp hn;have:=DO.mp (C4.mp hi).1;exact⟨by lia,by lia⟩
def mX {α:Type}(p:α->Bool)(tab:List α):(BN p tab).length<=tab.length:=by unfold BN;rw[Al];exact BV (Gn _ _) (by rw[Dw];exact Am _)
inductive Pt (vs:List V)(H:Hp)(Q:VK)(E0_:XK):Prop
 | mk (a b:Addr) (ka kb:List (Ag×V)) (ds:List Dee) (ls:List Loo) (o2:Obj) (c0:vs=[.ref a,.ref b]) (c1:a≠b) (c2:H a=some (.dK ka)) (c3:H b=some (.frz o2 (.dK kb))) (c4:KA Dee.name (OuV H) ka ds) (c5:KA Loo.name (AnV H) kb ls) (c6:(ds.map Dee.name++ls.map Loo.name).Nodup) (c7:ds.length<=40) (c8:ls.length<=40) (c9:(∀d∈ds,d.tab.length<=200)) (c10:(∀l∈ls,l.tab.length<=200)) (c11:∀(d:Addr) (kvs:List (Ag×V)) (H':Hp) (o1:Obj),(∀c u,H c=some u->c≠a->H' c=some u)->H d=none->H' d=some (.dK kvs)->H' a=some (.frz o1 (.dK ka)) ->     KA (λp:Str×Nat=>p.1) (λv p=>v=V.int (p.2:Int)) kvs (ds.map (λd=>(d.name,bt (BN (λn=>decide (bt n≠0)) d.tab)))++ls.map λl=>(l.name,bt (BN isSome l.tab)))->Q (.ref d) H'):Pt  vs H Q E0_
def KA.snoc2 {k:Nat}(h:KA (λp:Str×Nat=>p.1) (λv p=>v=V.int (p.2:Int)) kvs L):KA (λp:Str×Nat=>p.1) (λv p=>v=V.int (p.2:Int)) (kvs++[(Sum.inr n,V.int (k:Int))]) (L++[(n,k)]):=KA.snoc (d:=(n,k)) h rfl
def Gu {α:Type}{xs:List α}{i:Nat}{x:α}(h:xs[i]? = some x):xs.take (i+1)=xs.take i++[x]:=by (obtain⟨hi,e⟩:=AN.mp h);rw[BK hi,e]
def U2 {α:Type}(p:α->Bool){K:W.Frag}{t D:Addr}{xs:List V}{tab:List α}{H3:Hp}(hlen:xs.length=tab.length)(ht3:H3 t=some (.tup xs))(hl:tab.length<=200){fin:Hp->Prop}{tc:TT}{ρ:L2.St}(hD:H3 D=none)
  (test:∀(j:Nat) (x:V) (y:α) (H4:Hp) (A B:Hp->Prop),xs[j]? = some x->tab[j]? = some y->(p y=true->A H4)->(¬p y=true->B H4)->tc (some (.int (j:Nat))::some x::ρ) H4 λb H5=>if b=true then A H5 else B H5)
  (q:∀H4:Hp,Same H3 H4->H4 D=some (.lst ((BN p tab).map V.int))->fin H4):∃W:Nat->Nat->List V->Hp->Prop,(∃m,W 0 m [] (upd H3 D (.lst [])))/\Hq (Jy K t) D (none::none::ρ) (IM K 2 (IQ (EJ 0) (IQ (EJ 1) QP))) tc (Mm 0) fin W:=by
 have ak:sizeLine=16777216:=AL
 refine NA (K:=K) (n:=xs.length) (λj ys H4=>ys=(BN p (tab.take j)).map V.int/\Same H3 H4/\H4 D=some (.lst ys)) ⟨rfl,Same.new hD,Ae⟩
  (λj ys H4 hj hh0=>by obtain⟨_,s4,_⟩:=hh0;exact⟨_,xs[j],SqT.of (s4 _ _ ht3),by simp[hj]⟩) (λys H4 hh0=>by obtain⟨_,s4,_⟩:=hh0;exact⟨_,SqT.of (s4 _ _ ht3),rfl⟩) ?_ ?_
 ·rintro j ys H4 x H5 hj ⟨rfl,s4,e4⟩ ⟨pp,x',rfl,hpp,rfl,hx⟩;have hx2:=hx _ (SqT.of (s4 _ _ ht3));have hjt:j<tab.length:=by lia
  have hy:tab[j]? = some tab[j]:=AC hjt;have s5:Same H4 (upd H4 pp (.tup [.int (j:Nat),x'])):=Same.new hpp;have htk:tab.take (j+1)=tab.take j++[tab[j]]:=Gu hy;have hlk:(tab.take j).length=j:=by rw[BO];lia
  have hle:=mX p (tab.take j);refine⟨pp,_,_,rfl,SqT.of Ae,test j x' _ _ _ _ hx2 hy (λh=>?_) (λh=>⟨?_,s4.trans s5,s5 _ _ e4⟩)⟩
  ·refine⟨_,rfl,_,s5 _ _ e4,by rw[Al];lia,?_,(s4.trans s5).put hD,Ae⟩;rw[htk,U4,AB h,AX,hlk];rfl
  rw[htk,U4,Ao h,BR]
 rintro ys H4 ⟨rfl,s4,e4⟩
 rw[hlen,Bq]at e4
 exact q H4 s4 e4
def bG (F:Fun K "doable_sets" "doable_sets" HQ f fd)(T:Bl mg)(C_set_of:Ca P w K mg base CX0 1 "set_of" Hy GJ (JH K)):FnOk P w K mg base CX0 2 f fd Iu Pt:=by
 refine F.oq scDoableSets λaj A ag s H vs Q E hr1 h=>?_;obtain⟨a,b,ka,kb,ds,ls,o2,rfl,ab,ha,hb,hka,hkb,nd,fd',fl,td,tl,q⟩:=h;have hu:=Em hr1;have ak:sizeLine=16777216:=AL;refine⟨_,(Af (Ay (i:=2) scDoableSets.nd Ni) (Af (BW B4 rfl (Qp (Qt (pv 0))) (DV rfl (BP (AU (i:=3) scDoableSets.nd) (BP (AU (i:=4) scDoableSets.nd) DU))) (Ah (Kc hu (pv 2) (pv 3) (Aq C_set_of hr1 Ai (Aa (CK (N:=["world", "some"]) (sc:=Ak HQ) (own:=["world", "some"]) (fr:=[]) (js:=[]) B2 rfl (Qq (by rfl) T.enumerate Q9 (Aa (pv 4) Ab)) (λ_ _ _ _=>Le K rfl (DV (n:=2) rfl (BP (AU (i:=0) (show List.Nodup (["world", "some"]:List Str) by decide +kernel)) (BP (AU (i:=1) (show List.Nodup (["world", "some"]:List Str) by decide +kernel)) DU)))) (λ_ _ _ _=>Fw (AS IE (pv 1) Ac (AO _))) (λ_ _ _ _=>(pv 0))) Ab)) rfl))) (Af (BW B4 rfl (Qp (Qt (pv 1))) (DV rfl (BP (AU (i:=3) scDoableSets.nd) (BP (AU (i:=5) scDoableSets.nd) DU))) (Ah (Kc hu (pv 2) (pv 3) (Aq C_set_of hr1 Ai (Aa (CK (N:=["world", "answer"]) (sc:=Ak HQ) (own:=["world", "answer"]) (fr:=[]) (js:=[]) B2 rfl (Qq (by rfl) T.enumerate Q9 (Aa (pv 5) Ab)) (λ_ _ _ _=>Le K rfl (DV (n:=2) rfl (BP (AU (i:=0) (show List.Nodup (["world", "answer"]:List Str) by decide +kernel)) (BP (AU (i:=1) (show List.Nodup (["world", "answer"]:List Str) by decide +kernel)) DU)))) (λ_ _ _ _=>Fw (AS Nt (pv 1) Cw (AO _))) (λ_ _ _ _=>(pv 0))) Ab)) rfl))) (Ah (Ar (pv 2)))))),?_⟩;intro d hd;have s0:Same H (upd H d (.dK [])):=Same.new hd;have da:a≠d:=AM ha hd;have db:b≠d:=AM hb hd;refine⟨_,rfl,a,ka,rfl,.inl (s0 _ _ ha),λv hv=>?_⟩;have s1:Same (upd H d (.dK [])) (upd (upd H d (.dK [])) v (Cu v a)):=Same.new hv;have s01:=s0.trans s1;have vd:d≠v:=λz=>by rw[<- z,Ae]at hv;cases hv
 refine⟨v,a,ka,rfl,Ae,.inl ⟨s01 _ _ ha,λo1=>?_⟩⟩;have kp0:∀c u,H c=some u->c≠a->(upd (upd (upd H d (.dK [])) v (Cu v a)) a (.frz o1 (.dK ka))) c=some u:=λc u e hc=>by rw[Aj hc];exact s01 _ _ e
 have ea0:(upd (upd (upd H d (.dK [])) v (Cu v a)) a (.frz o1 (.dK ka))) a=some (.frz o1 (.dK ka)):=Ae;have ed0:(upd (upd (upd H d (.dK [])) v (Cu v a)) a (.frz o1 (.dK ka))) d=some (.dK []):=by rw[Aj da.symm,Aj vd];exact Ae
 generalize (upd (upd (upd H d (.dK [])) v (Cu v a)) a (.frz o1 (.dK ka)))=H1 at kp0 ea0 ed0 ⊢;have hkl:=hka.len;have hkl2:=hkb.len
 refine UH (a:=a) (o:=o1) (kvs:=ka) (λi σ H2=>∃(v3 v4 v5:Option V) (kvs:List (Ag×V)),σ = [some (.ref a),some (.ref b),some (.ref d),v3,v4,v5]/\(∀c u,H c=some u->c≠a->H2 c=some u)/\H2 a=some (.frz o1 (.dK ka))/\H2 d=some (.dK kvs)/\KA (λp:Str×Nat=>p.1) (λv p=>v=V.int (p.2:Int)) kvs ((ds.map (λd=>(d.name,bt (BN (λn=>decide (bt n≠0)) d.tab)))).take i)) ⟨none,none,none,[],rfl,kp0,ea0,ed0,by rw[Dv];exact KA.nil⟩
  (λi σ H2 _ hh0=>by obtain⟨_,_,_,_,_,_,e,_⟩:=hh0;exact e) ?_ ?_
 ·rintro i kv p σ H2 hkv ⟨v3,v4,v5,kvs,rfl,kp,ea,ed,kk⟩ hp;have hil:i<ds.length:=by have:=(AN.mp hkv).1;lia
  have hdi:ds[i]? = some ds[i]:=AC hil;obtain⟨ek,t,ev,ht⟩:=hka.got i kv _ hkv hdi;have hdm:ds[i]∈ds:=CQ hil;generalize ds[i]=de at hdi ek ht hdm;obtain⟨k0,v0⟩:=kv;have ek':k0=Sum.inr de.name:=ek;have ev':v0=V.ref t:=ev;subst ek' ev';have s3:Same H2 (upd H2 p (.tup [kV (Sum.inr de.name:Ag),V.ref t])):=Same.new hp;refine⟨p,_,rfl,SqT.of Ae,rfl,_,_,rfl,_,_,rfl,rfl,?_⟩;have ta:t≠a:=Bg ht ha (by intro z;cases z);have ht3:=s3 _ _ (kp _ _ ht ta);have ed3:=s3 _ _ ed;have ea3:=s3 _ _ ea;have kp3:∀c u,H c=some u->c≠a->(upd H2 p (.tup [kV (Sum.inr de.name:Ag),V.ref t])) c=some u:=λc u e hc=>s3 _ _ (kp c u e hc);generalize (upd H2 p (.tup [kV (Sum.inr de.name:Ag),V.ref t]))=H3 at ht3 ed3 ea3 kp3 ⊢;have htl:=td de hdm;refine⟨_,rfl,t,rfl,⟨_,SqT.of ht3⟩,λD hD=>?_⟩;refine U2 (λn=>decide (bt n≠0)) (Al ..) ht3 htl hD (λj x y H4 A B hx hy h1 h2=>?_) λH4 s4 e4=>?_
  ·rw[AV,hy]at hx;have hx':x=V.int (bt y:Nat):=(BS hx).symm;subst hx';refine⟨_,rfl,rfl,_,rfl,?_⟩;refine AZ (λz=>h1 (Bb λe=>?_)) (λz=>h2 λe=>z ?_)
   ·rw[e]at z;exact absurd z (by decide)
   have:=BF e;show(!decide (V.int ((bt y:Nat):Int)=V.int 0))=true;rw[Cg λw=>this (by have:=V.int.inj w;lia)];rfl
  refine⟨D,_,rfl,SqL.of e4,U3 _ htl,?_⟩;have ed4:=s4 _ _ ed3;have hnone:BM kvs (Sum.inr de.name:Ag)=none:=kk.none λz=>?_
  ·have hkl4:=kk.len;rw[BO,Al]at hkl4;refine⟨_,rfl,_,rfl,d,_,rfl,DPut.k (k:=(Sum.inr de.name:Ag)) ed4 (by lia),?_⟩;rw[HV _ hnone];refine⟨_,_,_,_,rfl,λc u e hc=>?_,?_,Ae,?_⟩
   ·rw[Aj (λz=>by rw[z,hd]at e;cases e)];exact s4 _ _ (kp3 c u e hc)
   ·rw[Aj da];exact s4 _ _ ea3
   rw[Gu (x:=(de.name,bt (BN (λn=>decide (bt n≠0)) de.tab))) (by rw[AV,hdi];rfl)];exact kk.snoc2
  rw[<- Jc,BC]at z;have nd1:=(BZ.mp nd).1;have hnd:((ds.take (i+1)).map Dee.name).Nodup:=by rw[Jc];exact LV (Hf _ _) nd1
  rw[Gu hdi,AX]at hnd;exact(BZ.mp hnd).2.2 _ z de.name (AQ.mpr rfl) rfl
 rintro σ H2 ⟨v3,v4,v5,kvs0,rfl,kp,ea,ed,kk0⟩;rw[hkl,LQ (by rw[Al];exact Am _)]at kk0;have hb2:=kp _ _ hb ab.symm;refine⟨_,rfl,b,kb,rfl,.inr ⟨o2,hb2⟩,λv hv=>?_⟩;have s1:Same H2 (upd H2 v (Cu v b)):=Same.new hv;refine⟨v,b,kb,rfl,Ae,.inr ⟨o2,s1 _ _ hb2,?_⟩⟩;have hb1:=s1 _ _ hb2;have kp1:∀c u,H c=some u->c≠a->(upd H2 v (Cu v b)) c=some u:=λc u e hc=>s1 _ _ (kp c u e hc);have ea1:=s1 _ _ ea;have ed1:=s1 _ _ ed;generalize (upd H2 v (Cu v b))=H1 at kp1 ea1 ed1 hb1 ⊢
 refine UH (a:=b) (o:=o2) (kvs:=kb) (λi σ H2=>∃(v3 v4 v5:Option V) (kvs:List (Ag×V)),σ = [some (.ref a),some (.ref b),some (.ref d),v3,v4,v5]/\(∀c u,H c=some u->c≠a->H2 c=some u)/\H2 a=some (.frz o1 (.dK ka))/\H2 d=some (.dK kvs)/\KA (λp:Str×Nat=>p.1) (λv p=>v=V.int (p.2:Int)) kvs (ds.map (λd=>(d.name,bt (BN (λn=>decide (bt n≠0)) d.tab)))++(ls.map λl=>(l.name,bt (BN isSome l.tab))).take i)) ⟨_,_,_,kvs0,rfl,kp1,ea1,ed1,by rw[Dv,BR];exact kk0⟩
  (λi σ H2 _ hh0=>by obtain⟨_,_,_,_,_,k,_⟩:=hh0;exact k _ _ hb ab.symm) ?_ ?_
 ·rintro i kv p σ H2 hkv ⟨v3,v4,v5,kvs,rfl,kp,ea,ed,kk⟩ hp;have hil:i<ls.length:=by have:=(AN.mp hkv).1;lia
  have hdi:ls[i]? = some ls[i]:=AC hil;obtain⟨ek,t,ev,ht⟩:=hkb.got i kv _ hkv hdi;have hdm:ls[i]∈ls:=CQ hil;generalize ls[i]=de at hdi ek ht hdm;obtain⟨k0,v0⟩:=kv;have ek':k0=Sum.inr de.name:=ek;have ev':v0=V.ref t:=ev;subst ek' ev';have s3:Same H2 (upd H2 p (.tup [kV (Sum.inr de.name:Ag),V.ref t])):=Same.new hp;refine⟨p,_,rfl,SqT.of Ae,rfl,_,_,rfl,_,_,rfl,rfl,?_⟩;have ta:t≠a:=Bg ht ha (by intro z;cases z);have ht3:=s3 _ _ (kp _ _ ht ta);have ed3:=s3 _ _ ed;have ea3:=s3 _ _ ea;have kp3:∀c u,H c=some u->c≠a->(upd H2 p (.tup [kV (Sum.inr de.name:Ag),V.ref t])) c=some u:=λc u e hc=>s3 _ _ (kp c u e hc);generalize (upd H2 p (.tup [kV (Sum.inr de.name:Ag),V.ref t]))=H3 at ht3 ed3 ea3 kp3 ⊢;have htl:=tl de hdm;refine⟨_,rfl,t,rfl,⟨_,SqT.of ht3⟩,λD hD=>?_⟩;refine U2 isSome (Al ..) ht3 htl hD (λj x y H4 A B hx hy h1 h2=>?_) λH4 s4 e4=>?_
  ·rw[AV,hy]at hx;have hx':x=oS y:=(BS hx).symm;subst hx';refine⟨_,rfl,rfl,_,rfl,?_⟩;cases y with
   | none=>exact A4 (h2 (by decide))
   | some z=>exact BH (h1 rfl)
  refine⟨D,_,rfl,SqL.of e4,U3 _ htl,?_⟩;have ed4:=s4 _ _ ed3;have hnone:BM kvs (Sum.inr de.name:Ag)=none:=kk.none λz=>?_
  ·have hkl4:=kk.len;rw[AR,BO,Al,Al]at hkl4;refine⟨_,rfl,_,rfl,d,_,rfl,DPut.k (k:=(Sum.inr de.name:Ag)) ed4 (by lia),?_⟩;rw[HV _ hnone];refine⟨_,_,_,_,rfl,λc u e hc=>?_,?_,Ae,?_⟩
   ·rw[Aj (λz=>by rw[z,hd]at e;cases e)];exact s4 _ _ (kp3 c u e hc)
   ·rw[Aj da];exact s4 _ _ ea3
   rw[Gu (x:=(de.name,bt (BN isSome de.tab))) (by rw[AV,hdi];rfl),<- Fn];exact kk.snoc2
  rw[AX,BC,<- Jc,BC]at z;have hnd:(ds.map Dee.name++(ls.take (i+1)).map Loo.name).Nodup:=by rw[Jc];exact LV (List.Sublist.append (List.Sublist.refl _) (Hf _ _)) nd
  rw[Gu hdi,AX,<- Fn]at hnd;exact(BZ.mp hnd).2.2 _ z de.name (AQ.mpr rfl) rfl
 rintro σ H2 ⟨v3,v4,v5,kvs,rfl,kp,ea,ed,kk⟩;rw[hkl2,LQ (by rw[Al];exact Am _)]at kk;exact⟨_,rfl,q d kvs H2 o1 kp hd ed ea kk⟩
structure Cl (K:W.Frag)(C:Addr):Prop where
 cl:Cls K C
 n1:NoAttr K C "many"
 n2:NoAttr K C "prices"
 n3:NoAttr K C "told_outs"
 n4:NoAttr K C "told_answers"
 n5:NoAttr K C "told_parts"
 n6:NoAttr K C "told_doable"
def f1 (m:Int):List (Str×V):=AI "many" (.int m) []
def f2 (m:Int)(p:Addr):List (Str×V):=AI "prices" (.ref p) (f1 m)
def f3 (m:Int)(p o:Addr):List (Str×V):=AI "told_outs" (.ref o) (f2 m p)
def f4 (m:Int)(p o a:Addr):List (Str×V):=AI "told_answers" (.ref a) (f3 m p o)
def f5 (m:Int)(p o a q:Addr):List (Str×V):=AI "told_parts" (.ref q) (f4 m p o a)
def f6 (m:Int)(p o a q d:Addr):List (Str×V):=AI "told_doable" (.ref d) (f5 m p o a q)
structure Hl (m:Nat)(ds:List Dee)(ls:List Loo)(as:List Str):Prop where
 m1:1<=m
 m2:m<=200
 fd:ds.length<=40
 fl:ls.length<=40
 nd:(ds.map Dee.name++ls.map Loo.name).Nodup
 so:∀d∈ds,L3 (d.name,d.price)
 sl:∀l∈ls,L3 (l.name,l.price)
 de:∀d∈ds,DeOk m d
 lo:∀l∈ls,l.tab.length=m
 an:∀l∈ls,∀s,some s∈l.tab->s∈as
 a3:as.length<=3
 ad:as.Nodup
abbrev DG (ds:List Dee)(ls:List Loo):List (Str×Int):=ds.map (λd=>(d.name,d.price))++ls.map λl=>(l.name,l.price)
abbrev EM (ds:List Dee)(ls:List Loo):List (Str×Nat):=ds.map (λd=>(d.name,bt (BN (λn=>decide (bt n≠0)) d.tab)))++ls.map λl=>(l.name,bt (BN isSome l.tab))
inductive PaV (H:Hp)(v:V)(l:Loo):Prop
 | mk (r:Addr) (ro:Obj) (ts:List Addr) (ps zs:List (Str×V)) (e:v=.ref r) (d0:ro.dict=none) (h:H r=some (.frz ro (.tup (ts.map V.ref)))) (hp:OD H ts zs) (pm:zs.Perm ps) (lt:F7 zs=true) (ok:PsOk l.tab ps):PaV H v l
structure ChAt (C:Addr)(H:Hp)(x:Addr)(m:Nat)(ds:List Dee)(ls:List Loo):Prop where
 ex:∃(dx p o a q d:Addr) (kp ko ka kq kd:List (Ag×V)) (o1 o2:Obj),H x=some (.ins C dx (f6 (m:Int) p o a q d))/\H p=some (.dK kp)/\H o=some (.frz o1 (.dK ko))/\H a=some (.frz o2 (.dK ka))/\H q=some (.dK kq)/\H d=some (.dK kd) /\
  KA (λs:Str×Int=>s.1) (λv s=>v=V.int s.2) kp (DG ds ls)/\KA Dee.name (OuV H) ko ds/\KA Loo.name (AnV H) ka ls/\KA Loo.name (PaV H) kq ls/\KA (λs:Str×Nat=>s.1) (λv s=>v=V.int (s.2:Int)) kd (EM ds ls)
inductive Pi (C:Addr)(vs:List V)(H:Hp)(Q:VK)(E0_:XK):Prop
 | mk (x dx a b:Addr) (m:Nat) (us ws:List V) (ds:List Dee) (ls:List Loo) (as:List Str) (c0:vs=[.ref x,.int (m:Int),.ref a,.ref b]) (c1:H x=some (.ins C dx [])) (c2:H a=some (.lst us)) (c3:H b=some (.lst ws)) (c4:A2 (DeV H) us ds) (c5:A2 (LoV H) ws ls) (c6:Hl m ds ls as) (c7:∀H':Hp,(∀c u,H c=some u->c≠x->H' c=some u)->ChAt C H' x m ds ls->Q .non H'):Pi C vs H Q E0_
abbrev KG:List Str:=["self", "many", "deeds", "looks"]
abbrev fR:List Str:=KG
def Ya:Au fR KG (Ak J2):=AA
def StV.kx {fs:List (Str×V)}(k:∀c u,H c=some u->c≠x->H' c=some u)(hx:H x=some (.ins C dx fs)) (h:StV H v n p t):StV H' v n p t:=by obtain⟨a,e,h⟩:=h;exact⟨a,e,k _ _ h (Bg h hx (by intro z;cases z))⟩
def EnV.kx {fs:List (Str×V)}(k:∀c u,H c=some u->c≠x->H' c=some u)(hx:H x=some (.ins C dx fs)) (h:EnV H v ns):EnV H' v ns:=by obtain⟨a,e,h⟩:=h;exact⟨a,e,k _ _ h (Bg h hx (by intro z;cases z))⟩
def DeV.kx {fs:List (Str×V)}(k:∀c u,H c=some u->c≠x->H' c=some u)(hx:H x=some (.ins C dx fs)) (h:DeV H v d):DeV H' v d:=by obtain⟨t,es,st,ht,he⟩:=h;exact⟨t,es,st.kx k hx,k _ _ ht (Bg ht hx (by intro z;cases z)),he.mono λv t _ r=>r.kx k hx⟩
def LoV.kx {fs:List (Str×V)}(k:∀c u,H c=some u->c≠x->H' c=some u)(hx:H x=some (.ins C dx fs)) (h:LoV H v l):LoV H' v l:=by obtain⟨t,st,ht⟩:=h;exact⟨t,st.kx k hx,k _ _ ht (Bg ht hx (by intro z;cases z))⟩
def A2.map {α β:Type}{R:V->α->Prop}{S:V->β->Prop}{g:α->β}{vs:List V}{ts:List α}(h:A2 R vs ts)(m:∀v t,R v t->S v (g t)):A2 S vs (ts.map g):=⟨by rw[Al];exact h.len,λi v t hv ht=>by
 rw[AV]at ht;cases e:ts[i]? with
 | none=>rw[e]at ht;cases ht
 | some x=>rw[e]at ht;cases ht;exact m v x (h.got i v x hv e)⟩
def Y0 (kvs:List (Ag×V)):∀acc:List (Ag×V),((acc++kvs).map (·.1)).Nodup->kvs.foldl (λm kv=>Cm m kv.1 kv.2) acc=acc++kvs:=by
 induction kvs with
 | nil=>exact λacc _=>(BR _).symm
 | cons p r ih=>
  intro acc nd;have e:acc++p::r=(acc++[p])++r:=by simp
  rw[Hd,HV,ih]
  ·rw[e]
  ·rw[<- e];exact nd
  cases hv:BM acc p.1 with
  | none=>rfl
  | some v=>exfalso;rw[AX,BU]at nd;exact(BZ.mp nd).2.2 _ (Mg hv) p.1 Bo rfl
def Nc (nd:(kvs.map (·.1)).Nodup):L2.putAll kvs=kvs:=by show kvs.foldl (λm kv=>Cm m kv.1 kv.2) []=kvs;rw[Y0 kvs [] (by simpa using nd)];rfl
def Ud {α:Type}{g:α->Str}{xs:List α}(nd:(xs.map g).Nodup):(xs.map λx=>(Sum.inr (g x):Ag)).Nodup:=by
 have:(xs.map λx=>(Sum.inr (g x):Ag))=(xs.map g).map Sum.inr:=by rw[BC];rfl
 rw[this];exact LA.mpr (Rm (λh e=>h (Et e)) nd)
def OQ (ds:List Dee)(ls:List Loo):(DG ds ls).map (λs=>s.1)=ds.map Dee.name++ls.map Loo.name:=by unfold DG;rw[AX,BC,BC];rfl
def PaV.same (s:Same H H') (h:PaV H v l):PaV H' v l:=by obtain⟨r,ro,ts,ps,zs,e,d0,h,hp,pm,lt,ok⟩:=h;exact⟨r,ro,ts,ps,zs,e,d0,s _ _ h,⟨hp.1,λi a p h1 h2=>s _ _ (hp.2 i a p h1 h2)⟩,pm,lt,ok⟩
def PaV.keep (k:∀b xs,H b=some (.tup xs)->H' b=some (.tup xs))(k2:∀b o xs,H b=some (.frz o (.tup xs))->H' b=some (.frz o (.tup xs))) (h:PaV H v l):PaV H' v l:=by obtain⟨r,ro,ts,ps,zs,e,d0,h,hp,pm,lt,ok⟩:=h;exact⟨r,ro,ts,ps,zs,e,d0,k2 _ _ _ h,⟨hp.1,λi a p h1 h2=>k _ _ (hp.2 i a p h1 h2)⟩,pm,lt,ok⟩
def KA.of_map {α:Type}{nm:α->Str}{R:V->α->Prop}{g:α->V}(xs:List α)(r:∀x,R (g x) x):KA nm R (xs.map λx=>((Sum.inr (nm x):Ag),g x)) xs:=⟨Al ..,λi kv d h1 h2=>by rw[AV,h2]at h1;cases h1;exact⟨rfl,r d⟩⟩
def aN (F:Fun K "__init__" "Chart.__init__" J2 f fd)(L:Cl K C)(T:Bl mg)(D_check_many:Df K mg "check_many" M5 Iz f1' d1)(G_check_many:FnOk P w K mg base CX0 1 f1' d1 Iz PL)(D_check_steps:Df K mg "check_steps" J7 Iy f2' d2)(G_check_steps:FnOk P w K mg base CX0 2 f2' d2 Iy Pz)
  (D_read_deeds:Df K mg "read_deeds" JO Ig f3' d3)(G_read_deeds:FnOk P w K mg base CX0 2 f3' d3 Ig O3)(D_read_looks:Df K mg "read_looks" MG Ie f4' d4)(G_read_looks:FnOk P w K mg base CX0 2 f4' d4 Ie O2)(D_parted:Df K mg "parted" MH Ih f5' d5)(G_parted:FnOk P w K mg base CX0 2 f5' d5 Ih O5)
  (D_doable_sets:Df K mg "doable_sets" HQ Iu f6' d6)(G_doable_sets:FnOk P w K mg base CX0 2 f6' d6 Iu Pt):FnOk P w K mg base CX0 3 f fd KG (Pi C):=by
 refine F.oq Ya λaj A ag s H vs Q E hr2 h=>?_
 obtain⟨x,dx,a,b,m,us,ws,ds,ls,as,rfl,hx,ha,hb,hd,hl,ok,q⟩:=h
 have hr1:Room 1 _:=hr2.mono (by decide)
 have ak:sizeLine=16777216:=AL
 refine⟨_,(Af (BD (Br G_check_many hr1 (by rfl) D_check_many.m D_check_many.F.kp D_check_many.b .nil Ai (Aa (pv 1) Ab))) (Af (BD (Br G_check_steps hr2 (by rfl) D_check_steps.m D_check_steps.F.kp D_check_steps.b .nil Ai (Aa (pv 2) (Aa (pv 3) Ab)))) (Af (DT (pv 0) (pv 1) rfl) (Af (DT (pv 0) (Cb (NS rfl) (by rfl) T.dict NU (Aa (CK (N:=["step"]) (sc:=Ak J2) (own:=["step"]) (fr:=[]) (js:=[]) B2 rfl (BG (Aw Nu (Cb Gh (by rfl) T.list EO (Aa (pv 2) Ab)) (Cb Gh (by rfl) T.list EO (Aa (pv 3) Ab)))) (λ_ _ _ _=>AU (i:=0) (show List.Nodup (["step"]:List Str) by decide +kernel)) (λ_ _ _ _=>Dd) (λ_ _ _ _=>(Bd (Aa (As (El K rfl) (pv 0) Ac (λ_ _=>rfl)) (Aa (As (El K rfl) (pv 0) Ac (λ_ _=>rfl)) Ab))))) Ab)) rfl) (Af (DT (pv 0) (Br G_read_deeds hr2 (by rfl) D_read_deeds.m D_read_deeds.F.kp D_read_deeds.b .nil Ai (Aa (pv 1) (Aa (pv 2) Ab))) rfl) (Af (DT (pv 0) (Br G_read_looks hr2 (by rfl) D_read_looks.m D_read_looks.F.kp D_read_looks.b .nil Ai (Aa (pv 1) (Aa (pv 3) Ab))) rfl) (Af (DT (pv 0) (Cb (NS rfl) (by rfl) T.dict NU (Aa (CK (N:=["name", "answers"]) (sc:=Ak J2) (own:=["name", "answers"]) (fr:=[]) (js:=[]) B2 rfl (Qp (Qt (Co (pv 0) rfl))) (λ_ _ _ _=>Le K rfl (DV (n:=2) rfl (BP (AU (i:=0) (show List.Nodup (["name", "answers"]:List Str) by decide +kernel)) (BP (AU (i:=1) (show List.Nodup (["name", "answers"]:List Str) by decide +kernel)) DU)))) (λ_ _ _ _=>Dd) (λ_ _ _ _=>(Bd (Aa (pv 0) (Aa (Br G_parted hr2 (by rfl) D_parted.m D_parted.F.kp D_parted.b .nil Ai (Aa (pv 1) Ab)) Ab))))) Ab)) rfl) (Ah (DT (pv 0) (Br G_doable_sets hr2 (by rfl) D_doable_sets.m D_doable_sets.F.kp D_doable_sets.b .nil Ai (Aa (Co (pv 0) rfl) (Aa (Co (pv 0) rfl) Ab))) rfl))))))))),?_⟩
 refine⟨_,rfl,(m:Int),rfl,by have:=ok.m1;lia,by have:=ok.m2;lia,?_⟩
 have hst:A2 (λv s=>∃t,StV H v s.1 s.2 t) (us++ws) (DG ds ls):=A2.app (hd.map λv d r=>by obtain⟨t,es,st,_⟩:=r;exact⟨t,st⟩) (hl.map λv l r=>by obtain⟨t,st,_⟩:=r;exact⟨t,st⟩)
 have fd':=ok.fd
 have fl':=ok.fl
 have hdl:=hd.len
 have hll:=hl.len
 have snd:((DG ds ls).map (λs=>s.1)).Nodup:=by rw[OQ];exact ok.nd
 refine⟨_,rfl,_,rfl,a,b,us,ws,DG ds ls,rfl,ha,hb,hst,by lia,by lia,snd,λs hs=>?_,λH1 s1=>?_⟩
 ·rcases(A5.mp hs)with z | z
  ·obtain⟨d,hd',rfl⟩:=AE.mp z;exact ok.so d hd'
  obtain⟨l,hl',rfl⟩:=AE.mp z;exact ok.sl l hl'
 have hx1:=s1 _ _ hx
 refine⟨_,rfl,_,rfl,x,C,dx,[],rfl,hx1,L.cl,L.n1,by show 0<1000;decide,?_⟩
 have kc2:∀c u,H c=some u->c≠x->(upd H1 x (.ins C dx (AI "many" (.int (m:Int)) []))) c=some u:=λc u e hc=>by rw[Aj hc];exact s1 _ _ e
 have xc2:(upd H1 x (.ins C dx (AI "many" (.int (m:Int)) []))) x=some (.ins C dx (AI "many" (.int (m:Int)) [])):=Ae
 generalize (upd H1 x (.ins C dx (AI "many" (.int (m:Int)) [])))=H2 at kc2 xc2 ⊢
 have ax:a≠x:=Bg ha hx (by intro z;cases z)
 have bx:b≠x:=Bg hb hx (by intro z;cases z)
 refine⟨_,rfl,a,_,rfl,.inl (SqL.of (kc2 _ _ ha ax)),λl1 hl1=>?_⟩
 obtain⟨H3,g0,s3,e3⟩:=Bu (H:=H2) (o:=.lst us) hl1
 rw[g0]
 refine⟨_,rfl,b,_,rfl,.inl (SqL.of (s3 _ _ (kc2 _ _ hb bx))),λl2 hl2=>?_⟩
 obtain⟨H4,g0,s4,e4⟩:=Bu (H:=H3) (o:=.lst ws) hl2
 rw[g0]
 refine⟨l1,l2,_,_,rfl,rfl,s4 _ _ e3,e4,by lia,λl3 hl3=>?_⟩
 obtain⟨H5,g0,s5,e5⟩:=Bu (H:=H4) (o:=.lst (us++ws)) hl3
 rw[g0]
 have s25:=(s3.trans s4).trans s5
 have kc5:∀c u,H c=some u->c≠x->H5 c=some u:=λc u e hc=>s25 _ _ (kc2 c u e hc)
 have hst5:A2 (λv s=>∃t,StV H5 v s.1 s.2 t) (us++ws) (DG ds ls):=hst.mono λv s _ ⟨t,r⟩=>⟨t,r.kx kc5 hx⟩
 have hsl2:=hst.len
 have hul:(us++ws).length<=80:=by rw[AR];lia
 refine⟨l3,rfl,⟨_,SqL.of e5⟩,λD hD=>?_⟩
 refine Cd (n:=(us++ws).length) (λi ys H6=>∃ts:List Addr,ys=ts.map V.ref/\ts.length=i/\(∀(j:Nat) t s,ts[j]? = some t->(DG ds ls)[j]? = some s->H6 t=some (.tup [.str s.1,.int s.2]))/\Same H5 H6/\H6 D=some (.lst ys)) ⟨[],rfl,rfl,(λj t s h=>by cases h),Same.new hD,Ae⟩
  (λi ys H6 hi ⟨_,_,_,_,s6,_⟩=>⟨_,(us++ws)[i],SqL.of (s6 _ _ e5),AC hi⟩) (λys H6 hh0=>by obtain⟨_,_,_,_,s6,_⟩:=hh0;exact⟨_,SqL.of (s6 _ _ e5),Am _⟩) ?_ ?_
 ·rintro i ys H6 y H7 hi ⟨ts,rfl,hts,ht,s6,e6⟩ ⟨rfl,hy⟩;refine CW ?_;obtain⟨sp,hsp,hmem,t,a',rfl,et⟩:=hst5.at (hy _ (SqL.of (s6 _ _ e5)));have at0:Ax [V.str sp.1,V.int sp.2,V.ref t] ((0:Nat):Int)=some (.str sp.1):=Av rfl;have at1:Ax [V.str sp.1,V.int sp.2,V.ref t] ((1:Nat):Int)=some (.int sp.2):=Av rfl;have et6:=s6 _ _ et;refine⟨_,rfl,a',_,_,_,rfl,rfl,SqT.of et6,at0,_,rfl,a',_,_,_,rfl,rfl,SqT.of et6,at1,AW,λtp htp=>?_⟩;have s7:Same H7 (upd H7 tp (.tup [.str sp.1,.int sp.2])):=Same.new htp;have tD:tp≠D:=(AM e6 htp).symm;refine⟨_,s7 _ _ e6,by rw[Al];lia,ts++[tp],by rw[AX];rfl,by rw[AR,hts];rfl,λj t' s' h1 h2=>?_,(s6.trans s7).put hD,Ae⟩;by_cases hj:j<ts.length
  ·rw[Cr hj]at h1;have:=ht j t' s' h1 h2;rw[Aj (Bg this e6 (by intro z;cases z))];exact s7 _ _ this
  rw[Ci (by lia)]at h1;have h0:j-ts.length=0:=by have:=(AN.mp h1).1;simp at this;lia
  rw[h0]at h1;cases h1;have ej:j=i:=by lia
  subst ej;rw[hsp]at h2;cases h2;rw[Aj tD];exact Ae
 rintro ys H6 ⟨ts,rfl,hts,ht,s6,e6⟩
 have nk:(((DG ds ls).map λs=>((Sum.inr s.1:Ag),V.int s.2)).map (·.1)).Nodup:=by rw[BC];exact Ud (g:=λs:Str×Int=>s.1) snd
 refine⟨D,ts,(DG ds ls).map λs=>((Sum.inr s.1:Ag),V.int s.2),rfl,e6,by rw[Al,hts,hsl2],by rw[Al,<- hsl2];lia,λi t k v h1 h2=>?_,λdp hdp=>?_⟩
 ·rw[AV]at h2;cases hs:(DG ds ls)[i]? with
  | none=>rw[hs]at h2;cases h2
  | some s=>rw[hs]at h2;cases h2;exact ht i t s h1 hs
 rw[Nc nk]
 have kaP:KA (λs:Str×Int=>s.1) (λv s=>v=V.int s.2) ((DG ds ls).map λs=>((Sum.inr s.1:Ag),V.int s.2)) (DG ds ls):=KA.of_map (nm:=λs:Str×Int=>s.1) (g:=λs:Str×Int=>V.int s.2) _ λ_=>rfl
 generalize ((DG ds ls).map λs=>((Sum.inr s.1:Ag),V.int s.2))=kp at kaP ⊢
 have s7:Same H6 (upd H6 dp (.dK kp)):=Same.new hdp
 have s27:=(s25.trans s6).trans s7
 have xp:x≠dp:=λz=>by have:=(s25.trans s6) _ _ xc2;rw[z,hdp]at this;cases this
 refine⟨_,rfl,x,C,dx,_,rfl,s27 _ _ xc2,L.cl,L.n2,by show 1<1000;decide,?_⟩
 have kcA:∀c u,H c=some u->c≠x->(upd (upd H6 dp (.dK kp)) x (.ins C dx (AI "prices" (.ref dp) (AI "many" (.int (m:Int)) [])))) c=some u:=λc u e hc=>by rw[Aj hc];exact s27 _ _ (kc2 c u e hc)
 have xcA:(upd (upd H6 dp (.dK kp)) x (.ins C dx (AI "prices" (.ref dp) (AI "many" (.int (m:Int)) [])))) x=some (.ins C dx (f2 (m:Int) dp)):=Ae
 have pA:(upd (upd H6 dp (.dK kp)) x (.ins C dx (AI "prices" (.ref dp) (AI "many" (.int (m:Int)) [])))) dp=some (.dK kp):=by rw[Aj xp.symm];exact Ae
 generalize (upd (upd H6 dp (.dK kp)) x (.ins C dx (AI "prices" (.ref dp) (AI "many" (.int (m:Int)) []))))=HA at kcA xcA pA ⊢
 have ndD:=(BZ.mp ok.nd).1
 have ndL:=(BZ.mp ok.nd).2.1
 refine⟨_,rfl,_,rfl,m,a,us,ds,rfl,ok.m2,kcA _ _ ha ax,hd.mono (λv d _ r=>r.kx kcA hx),ok.de,ndD,fd',λdO kO HB sB fB eB kaO=>?_⟩
 have xO:x≠dO:=λz=>by rw[z,fB]at xcA;cases xcA
 refine⟨_,rfl,x,C,dx,_,rfl,sB _ _ xcA,L.cl,L.n3,by show 2<1000;decide,?_⟩
 have kcC:∀c u,H c=some u->c≠x->(upd HB x (.ins C dx (AI "told_outs" (.ref dO) (f2 (m:Int) dp)))) c=some u:=λc u e hc=>by rw[Aj hc];exact sB _ _ (kcA c u e hc)
 have xcC:(upd HB x (.ins C dx (AI "told_outs" (.ref dO) (f2 (m:Int) dp)))) x=some (.ins C dx (f3 (m:Int) dp dO)):=Ae
 have pC:(upd HB x (.ins C dx (AI "told_outs" (.ref dO) (f2 (m:Int) dp)))) dp=some (.dK kp):=by rw[Aj xp.symm];exact sB _ _ pA
 have oC:(upd HB x (.ins C dx (AI "told_outs" (.ref dO) (f2 (m:Int) dp)))) dO=some (.dK kO):=by rw[Aj xO.symm];exact eB
 have kaOC:KA Dee.name (OuV (upd HB x (.ins C dx (AI "told_outs" (.ref dO) (f2 (m:Int) dp))))) kO ds:=kaO.mono λv d _ r=>r.keep λb xs e=>by rw[Aj (Bg e (sB _ _ xcA) (by intro z;cases z))];exact e
 generalize (upd HB x (.ins C dx (AI "told_outs" (.ref dO) (f2 (m:Int) dp))))=HC at kcC xcC pC oC kaOC ⊢
 refine⟨_,rfl,_,rfl,m,b,ws,ls,rfl,ok.m2,kcC _ _ hb bx,hl.mono (λv d _ r=>r.kx kcC hx),ok.lo,ndL,fl',λdA kA HD sD fD eD kaA=>?_⟩
 have xA:x≠dA:=λz=>by rw[z,fD]at xcC;cases xcC
 have pOA:dO≠dA:=λz=>by rw[z,fD]at oC;cases oC
 refine⟨_,rfl,x,C,dx,_,rfl,sD _ _ xcC,L.cl,L.n4,by show 3<1000;decide,?_⟩
 have kcE:∀c u,H c=some u->c≠x->(upd HD x (.ins C dx (AI "told_answers" (.ref dA) (f3 (m:Int) dp dO)))) c=some u:=λc u e hc=>by rw[Aj hc];exact sD _ _ (kcC c u e hc)
 have xcE:(upd HD x (.ins C dx (AI "told_answers" (.ref dA) (f3 (m:Int) dp dO)))) x=some (.ins C dx (f4 (m:Int) dp dO dA)):=Ae
 have pE:(upd HD x (.ins C dx (AI "told_answers" (.ref dA) (f3 (m:Int) dp dO)))) dp=some (.dK kp):=by rw[Aj xp.symm];exact sD _ _ pC
 have oE:(upd HD x (.ins C dx (AI "told_answers" (.ref dA) (f3 (m:Int) dp dO)))) dO=some (.dK kO):=by rw[Aj xO.symm];exact sD _ _ oC
 have aE:(upd HD x (.ins C dx (AI "told_answers" (.ref dA) (f3 (m:Int) dp dO)))) dA=some (.dK kA):=by rw[Aj xA.symm];exact eD
 have tupE:∀b xs,HD b=some (.tup xs)->(upd HD x (.ins C dx (AI "told_answers" (.ref dA) (f3 (m:Int) dp dO)))) b=some (.tup xs):=λb xs e=>by rw[Aj (Bg e (sD _ _ xcC) (by intro z;cases z))];exact e
 have kaOE:=kaOC.mono λv d _ r=>OuV.keep (λb xs e=>tupE b xs (sD _ _ e)) r
 have kaAE:=kaA.mono λv d _ r=>AnV.keep tupE r
 generalize (upd HD x (.ins C dx (AI "told_answers" (.ref dA) (f3 (m:Int) dp dO))))=HE at kcE xcE pE oE aE kaOE kaAE ⊢
 have lk4:(f4 (m:Int) dp dO dA).lookup ("told_answers" : Str)=some (.ref dA):=by unfold f4;rw[Bh,AB rfl]
 refine⟨_,rfl,x,C,dx,_,_,rfl,xcE,L.cl,L.n4,lk4,dA,kA,rfl,.inl aE,λv hv=>?_⟩
 have sv:Same HE (upd HE v (Cu v dA)):=Same.new hv
 refine⟨v,dA,kA,rfl,Ae,.inl ⟨sv _ _ aE,λo2=>?_⟩⟩
 have kF:∀c u,HE c=some u->c≠dA->(upd (upd HE v (Cu v dA)) dA (.frz o2 (.dK kA))) c=some u:=λc u e hc=>by rw[Aj hc];exact sv _ _ e
 have aF:(upd (upd HE v (Cu v dA)) dA (.frz o2 (.dK kA))) dA=some (.frz o2 (.dK kA)):=Ae
 generalize (upd (upd HE v (Cu v dA)) dA (.frz o2 (.dK kA)))=HF at kF aF ⊢
 have pAA:dp≠dA:=λz=>by rw[z,fD]at pC;cases pC
 have xF:=kF _ _ xcE xA
 have pF:=kF _ _ pE pAA
 have oF:=kF _ _ oE pOA
 have tupF:∀b xs,HE b=some (.tup xs)->HF b=some (.tup xs):=λb xs e=>kF _ _ e (Bg e aE (by intro z;cases z))
 have kaOF:=kaOE.mono λv d _ r=>OuV.keep tupF r
 have kaAF:=kaAE.mono λv d _ r=>AnV.keep tupF r
 have hkA:=kaAF.len
 intro D hD
 refine NA (K:=K) (n:=kA.length) (λi ys HG=>∃(ts:List Addr) (kvs:List (Ag×V)),ys=ts.map V.ref/\ts.length=kvs.length/\(∀(j:Nat) t k v,ts[j]? = some t->kvs[j]? = some (k,v)->HG t=some (.tup [kV k,v]))/\KA Loo.name (PaV HG) kvs (ls.take i)/\Same HF HG/\HG D=some (.lst ys)) ⟨[],[],rfl,rfl,(λj t k v h=>by cases h),by rw[Dv];exact KA.nil,Same.new hD,Ae⟩
  (λi ys HG hi hh0=>by obtain⟨_,_,_,_,_,_,sG,_⟩:=hh0;exact⟨hi,sG _ _ aF⟩) (λys HG hh0=>by obtain⟨_,_,_,_,_,_,sG,_⟩:=hh0;exact⟨Am _,sG _ _ aF⟩) ?_ ?_
 ·rintro i ys HG y HH hi ⟨ts,kvs,rfl,hts,ht,kk,sG,eG⟩ ⟨pp,k,v,rfl,hpp,rfl,hx2⟩;have hil:i<ls.length:=by lia
  have hli:ls[i]? = some ls[i]:=AC hil;have hlm:ls[i]∈ls:=CQ hil;obtain⟨ek,t,ev,htt⟩:=kaAF.got i _ _ hx2 hli;generalize ls[i]=lo at hli hlm ek htt;have ek':k=Sum.inr lo.name:=ek;have ev':v=V.ref t:=ev;subst ek' ev';have sP:Same HG (upd HG pp (.tup [kV (Sum.inr lo.name:Ag),V.ref t])):=Same.new hpp;refine⟨pp,_,_,rfl,SqT.of Ae,CW ?_⟩;have lt:=ok.lo lo hlm;have m2:=ok.m2;refine⟨_,rfl,_,rfl,t,lo.tab,as,rfl,(sG.trans sP) _ _ htt,by lia,ok.an lo hlm,ok.a3,ok.ad,λr ro ts' ps zs HI sI rd0 er pr pm ltz po=>?_⟩;refine⟨AW,λtp htp=>?_⟩;have sT:Same HI (upd HI tp (.tup [.str lo.name,.ref r])):=Same.new htp;have eI:=(sP.trans sI) _ _ eG;have tD:tp≠D:=(AM eI htp).symm;have kkl:=kk.len;rw[BO]at kkl;have sAll:=(sP.trans sI).trans sT;have tupU:∀b xs (o:HO),(upd HI tp (.tup [.str lo.name,.ref r])) b=some (.tup xs)->(upd (upd HI tp (.tup [.str lo.name,.ref r])) D o) b=some (.tup xs):=λb xs o e=>by rw[Aj (Bg e (sT _ _ eI) (by intro z;cases z))];exact e
  have tupV:∀b ob xs (o:HO),(upd HI tp (.tup [.str lo.name,.ref r])) b=some (.frz ob (.tup xs))->(upd (upd HI tp (.tup [.str lo.name,.ref r])) D o) b=some (.frz ob (.tup xs)):=λb ob xs o e=>by rw[Aj (Bg e (sT _ _ eI) (by intro z;cases z))];exact e
  refine⟨_,sT _ _ eI,by rw[Al];lia,ts++[tp],kvs++[(Sum.inr lo.name,.ref r)],by rw[AX];rfl,by rw[AR,AR,hts];rfl,λj t' k' v' h1 h2=>?_,?_,(sG.trans sAll).put hD,Ae⟩
  ·by_cases hj:j<ts.length
   ·rw[Cr hj]at h1;rw[Cr (by lia)]at h2;exact tupU _ _ _ (sAll _ _ (ht j t' k' v' h1 h2))
   rw[Ci (by lia)]at h1;rw[Ci (by lia),<- hts]at h2;have h0:j-ts.length=0:=by have:=(AN.mp h1).1;simp at this;lia
   rw[h0]at h1 h2;cases h1;cases h2;rw[Aj tD];exact Ae
  rw[Gu hli];refine KA.snoc (kk.mono λv d _ rr=>(rr.same sAll).keep (λb xs e=>tupU _ _ _ e) (λb o xs e=>tupV _ _ _ _ e)) ?_;have pv:PaV HI (V.ref r) lo:=⟨r,ro,ts',ps,zs,rfl,rd0,er,pr,pm,ltz,po⟩;exact(pv.same sT).keep (λb xs e=>tupU _ _ _ e) (λb o xs e=>tupV _ _ _ _ e)
 rintro ys HG ⟨ts,kq,rfl,hts,ht,kk,sG,eG⟩
 rw[hkA,Bq]at kk
 have nkq:(kq.map (·.1)).Nodup:=by rw[kk.keysE];exact Ud ndL
 have kql:=kk.len
 refine⟨D,ts,kq,rfl,eG,hts,by lia,ht,λdq hdq=>?_⟩
 rw[Nc nkq]
 have sq:Same HG (upd HG dq (.dK kq)):=Same.new hdq
 have sGq:=sG.trans sq
 have xq:x≠dq:=λz=>by have:=sG _ _ xF;rw[z,hdq]at this;cases this
 refine⟨_,rfl,x,C,dx,_,rfl,sGq _ _ xF,L.cl,L.n5,by show 4<1000;decide,?_⟩
 have xI:(upd (upd HG dq (.dK kq)) x (.ins C dx (AI "told_parts" (.ref dq) (f4 (m:Int) dp dO dA)))) x=some (.ins C dx (f5 (m:Int) dp dO dA dq)):=Ae
 have kI:∀c u,HF c=some u->c≠x->(upd (upd HG dq (.dK kq)) x (.ins C dx (AI "told_parts" (.ref dq) (f4 (m:Int) dp dO dA)))) c=some u:=λc u e hc=>by rw[Aj hc];exact sGq _ _ e
 have qI:(upd (upd HG dq (.dK kq)) x (.ins C dx (AI "told_parts" (.ref dq) (f4 (m:Int) dp dO dA)))) dq=some (.dK kq):=by rw[Aj xq.symm];exact Ae
 have tupI:∀b xs,HG b=some (.tup xs)->(upd (upd HG dq (.dK kq)) x (.ins C dx (AI "told_parts" (.ref dq) (f4 (m:Int) dp dO dA)))) b=some (.tup xs):=λb xs e=>by rw[Aj (Bg e (sG _ _ xF) (by intro z;cases z))];exact sq _ _ e
 have frzI:∀b ob xs,HG b=some (.frz ob (.tup xs))->(upd (upd HG dq (.dK kq)) x (.ins C dx (AI "told_parts" (.ref dq) (f4 (m:Int) dp dO dA)))) b=some (.frz ob (.tup xs)):=λb ob xs e=>by rw[Aj (Bg e (sG _ _ xF) (by intro z;cases z))];exact sq _ _ e
 have kkI:=kk.mono λv d _ r=>PaV.keep tupI frzI r
 generalize (upd (upd HG dq (.dK kq)) x (.ins C dx (AI "told_parts" (.ref dq) (f4 (m:Int) dp dO dA))))=HI at xI kI qI tupI kkI ⊢
 have pI:=kI _ _ pF xp.symm
 have oI:=kI _ _ oF xO.symm
 have aI:=kI _ _ aF xA.symm
 have tupI2:∀b xs,HF b=some (.tup xs)->HI b=some (.tup xs):=λb xs e=>tupI b xs (sG _ _ e)
 have kaOI:=kaOF.mono λv d _ r=>OuV.keep tupI2 r
 have kaAI:=kaAF.mono λv d _ r=>AnV.keep tupI2 r
 have lk3:(f5 (m:Int) dp dO dA dq).lookup ("told_outs" : Str)=some (.ref dO):=by unfold f5 f4 f3;rw[Bh,Ao (by decide +kernel),Bh,Ao (by decide +kernel),Bh,AB rfl]
 have lk4':(f5 (m:Int) dp dO dA dq).lookup ("told_answers" : Str)=some (.ref dA):=by unfold f5 f4;rw[Bh,Ao (by decide +kernel),Bh,AB rfl]
 have m2:=ok.m2
 refine⟨_,rfl,x,C,dx,_,_,rfl,xI,L.cl,L.n3,lk3,_,rfl,x,C,dx,_,_,rfl,xI,L.cl,L.n4,lk4',dO,dA,kO,kA,ds,ls,o2,rfl,pOA,oI,aI,kaOI,kaAI,ok.nd,fd',fl',(λd hd'=>by rw[(ok.de d hd').len];exact m2),(λl hl'=>by rw[ok.lo l hl'];exact m2),λdd kd HJ o1 kJ fJ eJ oJ kaD=>?_⟩
 have xO':x≠dO:=xO
 have xJ:=kJ _ _ xI xO'
 have xd:x≠dd:=λz=>by rw[z,fJ]at xI;cases xI
 refine⟨_,rfl,x,C,dx,_,rfl,xJ,L.cl,L.n6,by show 5<1000;decide,?_⟩
 have pO:dp≠dO:=λz=>by rw[z,fB]at pA;cases pA
 have qO:dq≠dO:=λz=>by have:=sG _ _ oF;rw[<- z,hdq]at this;cases this
 have keep:∀c u,HJ c=some u->c≠x->(upd HJ x (.ins C dx (AI "told_doable" (.ref dd) (f5 (m:Int) dp dO dA dq)))) c=some u:=λc u e hc=>by rw[Aj hc];exact e
 have tupJ:∀b xs,HI b=some (.tup xs)->(upd HJ x (.ins C dx (AI "told_doable" (.ref dd) (f5 (m:Int) dp dO dA dq)))) b=some (.tup xs):=λb xs e=>keep _ _ (kJ _ _ e (Bg e oI (by intro z;cases z))) (Bg e xI (by intro z;cases z))
 have frzJ:∀b ob xs,HI b=some (.frz ob (.tup xs))->(upd HJ x (.ins C dx (AI "told_doable" (.ref dd) (f5 (m:Int) dp dO dA dq)))) b=some (.frz ob (.tup xs)):=λb ob xs e=>keep _ _ (kJ _ _ e (Bg e oI (by intro z;cases z))) (Bg e xI (by intro z;cases z))
 refine q _ (λc u e hc=>keep c u (kJ c u (kI c u (kF c u (kcE c u e hc) ?_) hc) ?_) hc) ⟨dx,dp,dO,dA,dq,dd,kp,kO,kA,kq,kd,o1,o2,Ae,keep _ _ (kJ _ _ pI pO) xp.symm,keep _ _ oJ xO.symm,keep _ _ (kJ _ _ aI pOA.symm) xA.symm,keep _ _ (kJ _ _ qI qO) xq.symm,keep _ _ eJ xd.symm,kaP,kaOI.mono λv d _ r=>OuV.keep tupJ r,kaAI.mono λv d _ r=>AnV.keep tupJ r,kkI.mono λv d _ r=>PaV.keep tupJ frzJ r,kaD⟩
 ·intro z;have:=kcC c u e hc;rw[z,fD]at this;cases this
 intro z
 have:=kcA c u e hc
 rw[z,fB]at this
 cases this
def ZD (F:Fun K "worlds_of" "worlds_of" Hw f fd)(T:Bl mg):FnOk P w K mg base CX0 1 f fd Ic EX:=by
 refine F.oq XO λaj A ag s H vs Q E hr h=>?_;obtain⟨m,rfl,hm,q⟩:=h;have ak:sizeLine=16777216:=AL;refine⟨_,(Ah (Ar (CK (N:=["world", "some"]) (sc:=Ak Hw) (own:=["world"]) (fr:=["some"]) (js:=[0]) B2 rfl (F2 (by rfl) T.range (Aa (Nk PySem.F.plainAttrs_int VP VO TU (pv 0)) Ab)) (λ_ _ _ _=>AU (i:=0) (show List.Nodup (["world", "some"]:List Str) by decide +kernel)) (λ_ _ _ _=>Fw (AS BA (Aw F5 (Aw Nr (pv 1) (pv 0)) Ac) Ac (AO _))) (λ_ _ _ _=>(pv 0))))),?_⟩;have hnb:nb m<=200:=Ny hm;have hnb2:Builtin.Int.intBits (m:Int)<=200:=hnb;refine⟨_,rfl,rfl,_,rfl,rfl,_,rfl,by lia,by lia,λD hD=>?_⟩
 refine Cd (n:=nb m) (λi ys H2=>ys=(((List.range i).filter λj=>m.testBit j).map λ(j:Nat)=>(j:Int)).map V.int/\Same H H2/\H2 D=some (.lst ys)) ⟨rfl,Same.new hD,Ae⟩
  (λi ys H2 hi _=>by show i<_;rw[A1];exact hi) (λys H2 _=>by show _<=nb m;rw[A1];exact Am _) ?_ ?_
 ·rintro i ys H2 x H3 hi ⟨rfl,s2,e2⟩ ⟨rfl,rfl⟩;have e0:(0+(i:Int)).toNat=i:=by lia
  refine⟨_,rfl,_,rfl,_,_,rfl,rfl,by show(0:Int)<=0+(i:Int);lia,_,_,rfl,rfl,rfl,_,rfl,?_⟩;rw[e0,NV];have hl:((((List.range i).filter λj=>m.testBit j).map λ(j:Nat)=>(j:Int)).map V.int).length<sizeLine:=by rw[Al,Al];have:=Gn (λj=>m.testBit j) (List.range i);rw[Dw]at this;lia
  cases hb:m.testBit i with
  | true=>refine QM rfl ?_;refine⟨_,rfl,_,e2,hl,?_,s2.put hD,Ae⟩;rw[Hc,Eu,AX,AX];simp[hb]
  | false=>
   refine QN (by decide) ?_;refine⟨?_,s2,?_⟩
   ·rw[Hc,Eu];simp[hb]
   exact e2
 rintro ys H2 ⟨rfl,s2,e2⟩;exact q D H2 s2 hD e2
structure Er (K:W.Frag)(mg:Str->Option Value)(G NN:Addr):Prop where
 mG:mg "GropeError" = some (.ref G)
 mN:mg "NoName" = some (.ref NN)
 oG:PySem.W.excIn K G Fe "ValueError.__new__" = true
 oN:PySem.W.excIn K NN Fe "ValueError.__new__" = true
 sub:mroIn K NN G=true
abbrev EV (H:Hp)(E:XK)(NN:Addr):Prop:=∀(b:Addr) (H':Hp),Same H H'->H' b=none->E (.ref b) (some NN) H'
def EK (h:f∉(["many", "prices", "told_outs", "told_answers", "told_parts", "told_doable"]:List Str)):(f6 m p o a q d).lookup f=none:=by simp only[AK,Bw,Bv,Fk]at h;obtain⟨h1,h2,h3,h4,h5,h6⟩:=h;unfold f6 f5 f4 f3 f2 f1;rw[Bh,Ao h6,Bh,Ao h5,Bh,Ao h4,Bh,Ao h3,Bh,Ao h2,Bh,Ao h1];rfl
def UP :(f6 m p o a q d).lookup ("prices" : Str)=some (.ref p):=by unfold f6 f5 f4 f3 f2;rw[Bh,Ao (by decide +kernel),Bh,Ao (by decide +kernel),Bh,Ao (by decide +kernel),Bh,Ao (by decide +kernel),Bh,AB rfl]
def QW :(f6 m p o a q d).lookup ("told_outs" : Str)=some (.ref o):=by unfold f6 f5 f4 f3;rw[Bh,Ao (by decide +kernel),Bh,Ao (by decide +kernel),Bh,Ao (by decide +kernel),Bh,AB rfl]
def UQ :(f6 m p o a q d).lookup ("told_answers" : Str)=some (.ref a):=by unfold f6 f5 f4;rw[Bh,Ao (by decide +kernel),Bh,Ao (by decide +kernel),Bh,AB rfl]
def ChAt.same (h:ChAt C H x m ds ls)(s:Same H H'):ChAt C H' x m ds ls:=by obtain⟨dx,p,o,a,q,d,kp,ko,ka,kq,kd,o1,o2,h1,h2,h3,h4,h5,h6,k1,k2,k3,k4,k5⟩:=h.ex;exact⟨dx,p,o,a,q,d,kp,ko,ka,kq,kd,o1,o2,s _ _ h1,s _ _ h2,s _ _ h3,s _ _ h4,s _ _ h5,s _ _ h6,k1,k2.mono λv d _ r=>OuV.keep (λb xs e=>s _ _ e) r,k3.mono λv d _ r=>AnV.keep (λb xs e=>s _ _ e) r,k4.mono λv d _ r=>PaV.keep (λb xs e=>s _ _ e) (λb o xs e=>s _ _ e) r,k5⟩
def Rp (x:Str):Prop:=(reprText x).length<=100000
inductive O6 (C NN:Addr)(vs:List V)(H:Hp)(Q:VK)(E:XK):Prop
 | mk (x:Addr) (m:Nat) (ds:List Dee) (ls:List Loo) (n:Str) (c0:vs=[.ref x,.str n]) (c1:ChAt C H x m ds ls) (c2:(ds.map Dee.name++ls.map Loo.name).Nodup) (c3:((n∉ds.map Dee.name/\Rp n/\EV H E NN)\/∃d∈ds,d.name=n/\∀t,H t=some (.tup (d.tab.map λn=>V.int (bt n:Nat)))->Q (.ref t) H)):O6 C NN vs H Q E
inductive Mx (C NN:Addr)(vs:List V)(H:Hp)(Q:VK)(E:XK):Prop
 | mk (x:Addr) (m:Nat) (ds:List Dee) (ls:List Loo) (n:Str) (c0:vs=[.ref x,.str n]) (c1:ChAt C H x m ds ls) (c2:(ds.map Dee.name++ls.map Loo.name).Nodup) (c3:((n∉ds.map Dee.name/\Rp n/\EV H E NN)\/(n∈ds.map Dee.name/\Q .non H))):Mx C NN vs H Q E
inductive Mw (C NN:Addr)(vs:List V)(H:Hp)(Q:VK)(E:XK):Prop
 | mk (x:Addr) (m:Nat) (ds:List Dee) (ls:List Loo) (n:Str) (c0:vs=[.ref x,.str n]) (c1:ChAt C H x m ds ls) (c2:(ds.map Dee.name++ls.map Loo.name).Nodup) (c3:((n∉ls.map Loo.name/\Rp n/\EV H E NN)\/(n∈ls.map Loo.name/\Q .non H))):Mw C NN vs H Q E
inductive PB (C NN:Addr)(vs:List V)(H:Hp)(Q:VK)(E:XK):Prop
 | mk (x:Addr) (m:Nat) (ds:List Dee) (ls:List Loo) (n:Str) (c0:vs=[.ref x,.str n]) (c1:ChAt C H x m ds ls) (c2:(ds.map Dee.name++ls.map Loo.name).Nodup) (c3:((n∉ds.map Dee.name++ls.map Loo.name/\Rp n/\EV H E NN)\/(n∈ds.map Dee.name++ls.map Loo.name/\Q .non H))):PB C NN vs H Q E
abbrev Kj:List Str:=["self", "name"]
abbrev cY:List Str:=Kj
def XT:Au cY Kj (Ak PY):=AA
abbrev IB:List Str:=["self", "name"]
abbrev gP:List Str:=IB
def Yq:Au gP IB (Ak Qa):=AA
abbrev IA:List Str:=["self", "name"]
abbrev gM:List Str:=IA
def Yo:Au gM IA (Ak P9):=AA
abbrev KN:List Str:=["self", "name"]
abbrev gF:List Str:=KN
def Yk:Au gF KN (Ak P8):=AA
def bX (F:Fun K "check_deed" "Chart.check_deed" Qa f fd)(L:Cl K C)(R':Er K mg G NN):FnOk P w K mg base (CXe P w) 1 f fd IB (Mx C NN):=by
 refine F.oqE Yq λaj A ag s H vs Q E hr h=>?_;obtain⟨x,m,ds,ls,n,rfl,R,nd,q⟩:=h;have hu:=Em hr;obtain⟨dx,p,o,a,q',d,kp,ko,ka,kq,kd,o1,o2,h1,h2,h3,h4,h5,h6,k1,k2,k3,k4,k5⟩:=R.ex;refine⟨_,(Ah (AH (Nd (Qy hu (pv 1) (Co (pv 0) rfl))) (Ah (Qj R'.oN (by rfl) R'.mN (Aa (Qv (pv 1) (by decide +kernel)) Ab))) AD)),?_⟩;rcases q with⟨hn,rp,q⟩ | ⟨hn,q⟩
 ·have dg:DGet H o (.str n) none:=.inl ⟨ko,(Sum.inr n:Ag),.inr ⟨o1,h3⟩,rfl,(k2.none hn).symm⟩;refine⟨_,rfl,_,rfl,x,C,dx,_,_,rfl,h1,L.cl,L.n3,QW,o,_,rfl,dg,_,rfl,?_⟩;refine BH ?_;exact⟨_,rfl,n,rfl,rp,by show 1<=1000;decide,λb hb=>q b _ (Same.refl _) hb⟩
 obtain⟨de,hde,rfl⟩:=AE.mp hn;obtain⟨v,hv,t,rfl,ht⟩:=k2.val (BZ.mp nd).1 hde;have dg:DGet H o (.str de.name) (some (.ref t)):=.inl ⟨ko,(Sum.inr de.name:Ag),.inr ⟨o1,h3⟩,rfl,hv.symm⟩;refine⟨_,rfl,_,rfl,x,C,dx,_,_,rfl,h1,L.cl,L.n3,QW,o,_,rfl,dg,_,rfl,?_⟩;exact A4 q
def Z1 (F:Fun K "out_sets" "Chart.out_sets" PY f fd)(L:Cl K C)(R':Er K mg G NN)(b_check_deed:Binds K d_check_deed ["self", "name"] [])(m_check_deed:B9 K C "check_deed" f1')(G_check_deed:FnOk P w K mg base (CXe P w) 1 f1' d_check_deed IB (Mx C NN)):FnOk P w K mg base (CXe P w) 2 f fd Kj (O6 C NN):=by
 refine F.oqE XT λaj A ag s H vs Q E hr1 h=>?_;obtain⟨x,m,ds,ls,n,rfl,R,nd,q⟩:=h;have hu:=Em hr1;have R0:=R;obtain⟨dx,p,o,a,q',d,kp,ko,ka,kq,kd,o1,o2,h1,h2,h3,h4,h5,h6,k1,k2,k3,k4,k5⟩:=R.ex;refine⟨_,(Af (BD (EG (pv 0) L.cl m_check_deed G_check_deed hr1 b_check_deed .nil Ib (Aa (pv 1) Ab))) (Ah (Ar (Qx hu (Co (pv 0) rfl) (pv 1) (λ_ _=>rfl))))),?_⟩;refine⟨_,rfl,x,dx,_,rfl,h1,EK (by decide +kernel),_,rfl,x,m,ds,ls,n,rfl,R0,nd,?_⟩;rcases q with⟨hn,rp,q⟩ | ⟨de,hde,rfl,q⟩
 ·exact .inl ⟨hn,rp,q⟩
 refine .inr ⟨AE.mpr ⟨de,hde,rfl⟩,?_⟩;obtain⟨v,hv,t,rfl,ht⟩:=k2.val (BZ.mp nd).1 hde;have dg:DGet H o (.str de.name) (some (.ref t)):=.inl ⟨ko,(Sum.inr de.name:Ag),.inr ⟨o1,h3⟩,rfl,hv.symm⟩;exact⟨_,rfl,x,C,dx,_,_,rfl,h1,L.cl,L.n3,QW,_,rfl,o,_,rfl,dg,q t ht⟩
def bV (F:Fun K "check_look" "Chart.check_look" P9 f fd)(L:Cl K C)(R':Er K mg G NN):FnOk P w K mg base (CXe P w) 1 f fd IA (Mw C NN):=by
 refine F.oqE Yo λaj A ag s H vs Q E hr h=>?_;obtain⟨x,m,ds,ls,n,rfl,R,nd,q⟩:=h;have hu:=Em hr;obtain⟨dx,p,o,a,q',d,kp,ko,ka,kq,kd,o1,o2,h1,h2,h3,h4,h5,h6,k1,k2,k3,k4,k5⟩:=R.ex;refine⟨_,(Ah (AH (Nd (Qy hu (pv 1) (Co (pv 0) rfl))) (Ah (Qj R'.oN (by rfl) R'.mN (Aa (Qv (pv 1) (by decide +kernel)) Ab))) AD)),?_⟩;rcases q with⟨hn,rp,q⟩ | ⟨hn,q⟩
 ·have dg:DGet H a (.str n) none:=.inl ⟨ka,(Sum.inr n:Ag),.inr ⟨o2,h4⟩,rfl,(k3.none hn).symm⟩;refine⟨_,rfl,_,rfl,x,C,dx,_,_,rfl,h1,L.cl,L.n4,UQ,a,_,rfl,dg,_,rfl,?_⟩;refine BH ?_;exact⟨_,rfl,n,rfl,rp,by show 1<=1000;decide,λb hb=>q b _ (Same.refl _) hb⟩
 obtain⟨l,hlm,rfl⟩:=AE.mp hn;obtain⟨v,hv,t,rfl,ht⟩:=k3.val (BZ.mp nd).2.1 hlm;have dg:DGet H a (.str l.name) (some (.ref t)):=.inl ⟨ka,(Sum.inr l.name:Ag),.inr ⟨o2,h4⟩,rfl,hv.symm⟩;refine⟨_,rfl,_,rfl,x,C,dx,_,_,rfl,h1,L.cl,L.n4,UQ,a,_,rfl,dg,_,rfl,?_⟩;exact A4 q
def bP (F:Fun K "check_step" "Chart.check_step" P8 f fd)(L:Cl K C)(R':Er K mg G NN):FnOk P w K mg base (CXe P w) 1 f fd KN (PB C NN):=by
 refine F.oqE Yk λaj A ag s H vs Q E hr h=>?_;obtain⟨x,m,ds,ls,n,rfl,R,nd,q⟩:=h;have hu:=Em hr;obtain⟨dx,p,o,a,q',d,kp,ko,ka,kq,kd,o1,o2,h1,h2,h3,h4,h5,h6,k1,k2,k3,k4,k5⟩:=R.ex;refine⟨_,(Ah (AH (Nd (Qy hu (pv 1) (Co (pv 0) rfl))) (Ah (Qj R'.oN (by rfl) R'.mN (Aa (Qv (pv 1) (by decide +kernel)) Ab))) AD)),?_⟩;rcases q with⟨hn,rp,q⟩ | ⟨hn,q⟩
 ·have dg:DGet H p (.str n) none:=.inl ⟨kp,(Sum.inr n:Ag),.inl h2,rfl,(k1.none (by rw[OQ];exact hn)).symm⟩;refine⟨_,rfl,_,rfl,x,C,dx,_,_,rfl,h1,L.cl,L.n2,UP,p,_,rfl,dg,_,rfl,?_⟩;refine BH ?_;exact⟨_,rfl,n,rfl,rp,by show 1<=1000;decide,λb hb=>q b _ (Same.refl _) hb⟩
 rw[<- OQ]at hn nd;obtain⟨sp,hsm,rfl⟩:=AE.mp hn;obtain⟨v,hv,rfl⟩:=k1.val nd hsm;have dg:DGet H p (.str sp.1) (some (.int sp.2)):=.inl ⟨kp,(Sum.inr sp.1:Ag),.inl h2,rfl,hv.symm⟩;refine⟨_,rfl,_,rfl,x,C,dx,_,_,rfl,h1,L.cl,L.n2,UP,p,_,rfl,dg,_,rfl,?_⟩;exact A4 q
abbrev Sm (x:Str):Prop:=∀c∈cs x,c<128
def Sm.rp (h:Sm x)(l:x.length<=300):Rp x:=by
 have h1:=StrLaws.reprText_len x λc hc=>by have:=h c hc;lia
 unfold Rp;lia
def Sm.ok (h:Sm x):strOk x=true:=Z3 λc hc=>by have:=h c hc;lia
structure Lb (x:Str):Prop where
 l1:1<=x.length
 l2:x.length<=30
 sm:Sm x
def Lb.rp (h:Lb x):Rp x:=h.sm.rp (by have:=h.l2;lia)
def Ve (l:List Nat):cs ⟨l.toArray⟩=l:=rfl
def IH (l:List Nat):(Str.mk l.toArray).length=l.length:=by rw[<- NP,Ve]
def cl (ns:List Int)(k:Int):Int:=ns.getD k.toNat 0
def dw (ns:List Int)(k p m:Int):Int:=(cl ns k*48271+7919*k*k+11) % p*742938285 % 2147483629 % m
def NJ (ns:List Int)(k p:Int) (h:0<m):0<=dw ns k p m:=Je _ (by lia)
def NK (ns:List Int)(k p:Int) (h:0<m):dw ns k p m<m:=N7 _ h
inductive JL (K:W.Frag)(vs:List V)(H:Hp)(Q:VK)(E0_:XK):Prop
 | mk (a:Addr) (ns:List Int) (k:Int) (c0:vs=[.ref a,.int k]) (c1:SqL K H a (ns.map V.int)) (c2:ns.length<=63) (c3:0<=k) (c4:Q (.int (cl ns k)) H):JL K vs H Q E0_
inductive Ms (K:W.Frag)(vs:List V)(H:Hp)(Q:VK)(E0_:XK):Prop
 | mk (a:Addr) (ns:List Int) (k p m:Int) (c0:vs=[.ref a,.int k,.int p,.int m]) (c1:SqL K H a (ns.map V.int)) (c2:ns.length<=63) (c3:0<=k) (c4:k<1000000) (c5:0<p) (c6:0<m) (c7:Q (.int (dw ns k p m)) H):Ms K vs H Q E0_
inductive DR (K:W.Frag)(vs:List V)(H:Hp)(Q:VK)(E0_:XK):Prop
 | mk (a:Addr) (ns:List Int) (k p m:Int) (c0:vs=[.ref a,.int k,.int p,.int m]) (c1:SqL K H a (ns.map V.int)) (c2:ns.length<=63) (c3:0<=k) (c4:k<1000000) (c5:0<p) (c6:0<m) (c7:∀r:Int,0<=r->r<m->Q (.int r) H):DR K vs H Q E0_
abbrev GO:List Str:=["_law_script", "_law_k"]
abbrev fN:List Str:=GO
def X9:Au fN GO (Ak HN):=AA
abbrev Dg:List Str:=["_law_script", "_law_k", "_law_prime", "_law_many_here"]
abbrev fG:List Str:=Be Dg ["_law_mixed"]
def scLDraw:Au fG Dg (Ak Ei):=AA
def rm (H:Hp)(S:List Addr):Hp:=λc=>if c∈S then none else H c
def F0 (h:c∈S):rm (upd H c o) S=rm H S:=by
 funext b;unfold rm;by_cases hb:b∈S
 ·rw[AB hb,AB hb]
 rw[Ao hb,Ao hb,Aj (λz=>hb (by rw[z];exact h))]
def Ej (h:c∉S):rm H S c=H c:=Ao h
def HS :Same (rm H S) H:=λb u e=>by
 unfold rm at e;split at e
 ·cases e
 exact e
def E3 (s:Same H H'):Same (rm H S) (rm H' S):=λb u e=>by
 unfold rm at e ⊢;split at e
 ·cases e
 rename_i hb;rw[Ao hb];exact s _ _ e
def S9 (h:∀c∈S',c∈S):Same (rm H S) (rm H S'):=λb u e=>by
 unfold rm at e ⊢;split at e
 ·cases e
 rename_i hb;rw[Ao λz=>hb (h _ z)];exact e
def A2.one {α:Type}{R:V->α->Prop}{v:V}{t:α}(r:R v t):A2 R [v] [t]:=⟨rfl,λi v' t' h1 h2=>by
 cases i with
 | zero=>cases h1;cases h2;exact r
 | succ i=>cases h1⟩
def A2.nil {α:Type}{R:V->α->Prop}:A2 R [] []:=⟨rfl,λi v t h=>by cases h⟩
def bZ (F:Fun K "_law_cell" "_law_cell" HN f fd)(T:Bl mg):FnOk P w K mg base CX0 1 f fd GO (JL K):=by
 refine F.oq X9 λaj A ag s H vs Q E hr h=>?_;obtain⟨a,ns,k,rfl,hS,hn,k0,q⟩:=h;obtain⟨j,rfl⟩:∃j:Nat,(j:Int)=k:=⟨k.toNat,Ew k0⟩;have hl:(ns.map V.int).length=ns.length:=Al ..;refine⟨_,(Af (AH (AS K2 (pv 1) (Bf C2 (by rfl) T.len CG (Aa (pv 0) Ab)) (AO _)) (Ah (Ar (As Dj (pv 0) (pv 1) (λ_ _=>rfl)))) AD) (Ah (Ar Ac))),?_⟩;refine⟨_,rfl,_,rfl,_,_,rfl,.inl ⟨_,hS,rfl⟩,_,_,rfl,rfl,_,rfl,?_⟩;refine AZ (λhp=>?_) (λhp=>?_)
 ·have hp':j<ns.length:=by have:=BF hp;rw[hl]at this;lia
  have hc:cl ns (j:Int)=ns[j]:=by unfold cl;rw[A1];simp[List.getD,hp']
  rw[hc]at q;exact⟨_,rfl,_,rfl,a,_,_,_,rfl,rfl,hS,Av (v:=V.int ns[j]) (by simp[hp']),q⟩
 have hp':¬j<ns.length:=λz=>hp (Bb (by rw[hl];lia));have hc:cl ns (j:Int)=0:=by unfold cl;rw[A1,CJ,Gq (by lia)];rfl
 rw[hc]at q;exact q
def aX (F:Fun K "_law_draw" "_law_draw" Ei f fd)(C_l_cell:Ca P w K mg base CX0 1 "_law_cell" HN GO (JL K)):FnOk P w K mg base CX0 2 f fd Dg (Ms K):=by refine F.oq scLDraw λaj A ag s H vs Q E hr1 h=>?_;obtain⟨a,ns,k,p,m,rfl,hS,hn,k0,k1,p0,m0,q⟩:=h;refine⟨_,(Af (Ay (i:=4) scLDraw.nd (Aw FA (Aw B6 (Aw B6 (Aw DI (Aq C_l_cell hr1 Ai (Aa (pv 0) (Aa (pv 1) Ab))) Ac) (Aw DI (Aw DI Ac (pv 1)) (pv 1))) Ac) (pv 2))) (Ah (Ar (Aw FA (Aw FA (Aw DI (pv 4) Ac) Ac) (pv 3))))),?_⟩;refine⟨_,rfl,_,rfl,a,ns,k,rfl,hS,hn,k0,?_⟩;refine⟨_,_,rfl,rfl,.inr ⟨by decide,by decide⟩,_,rfl,_,_,rfl,rfl,.inl ⟨by decide,by decide⟩,_,rfl,_,_,rfl,rfl,.inl ⟨by lia,by lia⟩,_,_,rfl,rfl,_,_,rfl,rfl,_,rfl,_,_,rfl,rfl,p0,?_⟩;exact⟨_,rfl,_,_,rfl,rfl,.inr ⟨by decide,by decide⟩,_,_,rfl,rfl,(by show(0:Int)<_;decide),_,rfl,_,_,rfl,rfl,m0,q⟩
def aY (G:FnOk P w K mg base CX0 2 f fd Dg (Ms K)):FnOk P w K mg base CX0 2 f fd Dg (DR K):=
 G.imp λvs H Q E h=>by obtain⟨a,ns,k,p,m,e,hS,hn,k0,k1,p0,m0,q⟩:=h;exact⟨a,ns,k,p,m,e,hS,hn,k0,k1,p0,m0,q _ (NJ _ _ _ m0) (NK _ _ _ m0)⟩
abbrev sgA:Str:=Str.ofString " !\"#$&'()*+,-./0123456789:;<=>?@ABCDEFGHIJKLMNOPQRSTUVWXYZ[\\]^_"
abbrev sgB:Str:=Str.ofString "`abcdefghijklmnopqrstuvwxyz{|}~"
def sgL:List Nat:=(sgA++sgB).cps.toList
def XD:sgL.length=94:=by decide +kernel
def XB:∀c∈sgL,c<128:=by decide +kernel
def Xz:(sgA++sgB).length<=sizeLine:=by
 have h:(sgA++sgB).length=94:=by decide +kernel
 have:=AL;lia
def XE:sgA.length+sgB.length<=sizeLine:=by
 have h:sgA.length+sgB.length=94:=by decide +kernel
 have:=AL;lia
def ED (n:Int):Nat:=sgL.getD (n % 94).toNat 0
def S0 (n:Int):sgL[(n % 94).toNat]? = some (ED n):=by
 have h0:=Je n (show(94:Int)≠0 by decide);have h1:=N7 n (show(0:Int)<94 by decide);have:(n % 94).toNat<sgL.length:=by rw[XD];lia
 unfold ED;rw[CJ,AC this];rfl
def Xy (n:Int):ED n<128:=XB _ (Bt (S0 n))
inductive OZ (vs:List V)(H:Hp)(Q:VK)(E0_:XK):Prop
 | mk (n:Int) (c0:vs=[.int n]) (c1:Q (.str ⟨#[ED n]⟩) H):OZ  vs H Q E0_
def wz (ns:List Int)(k:Int):Int:=if dw ns k 15013 8=0 then 30 else 1+dw ns k 10007 6
def Hm (ns:List Int)(k:Int):1<=wz ns k/\wz ns k<=30:=by have h1:=NJ ns k 10007 (m:=6) (by decide);have h2:=NK ns k 10007 (m:=6) (by decide);unfold wz;split <;> lia
def wa (ns:List Int)(k:Int):Int:=dw ns k 20011 (wz ns k)
def OL (ns:List Int)(k:Int):0<=wa ns k/\wa ns k<wz ns k:=⟨NJ _ _ _ (by have:=Hm ns k;lia),NK _ _ _ (by have:=Hm ns k;lia)⟩
def wb (ns:List Int)(k:Int)(n:Nat):List Nat:=(List.range n).map λ(m:Nat)=>ED (dw ns (k+(m:Int)) 25013 94)
def FU (ns:List Int)(k:Int)(n:Nat):(wb ns k n).length=n:=by unfold wb;rw[Al,Dw]
def Sk (ns:List Int)(k:Int)(n:Nat):∀c∈wb ns k n,c<128:=λc hc=>by obtain⟨m,_,rfl⟩:=AE.mp hc;exact Xy _
def EW (ns:List Int)(k:Int)(c:Nat):List Nat:=(wb ns k (wz ns k).toNat).take (wa ns k).toNat++[c]++(wb ns k (wz ns k).toNat).drop ((wa ns k).toNat+1)
def A8 (ns:List Int)(k:Int)(c:Nat):Str:=⟨(EW ns k c).toArray⟩
def OK (ns:List Int)(k:Int)(c:Nat):(EW ns k c).length=(wz ns k).toNat:=by have h1:=Hm ns k;have h2:=OL ns k;unfold EW;rw[AR,AR,BO,length_drop,FU,Fh];lia
def Gs (ns:List Int)(k:Int) (hc:c<128):Lb (A8 ns k c):=by
 have h1:=Hm ns k;refine⟨by unfold A8;rw[IH,OK];lia,by unfold A8;rw[IH,OK];lia,λz hz=>?_⟩;have hz':z∈EW ns k c:=hz;unfold EW at hz';rcases A5.mp hz' with y | y
 ·rcases(A5.mp y)with x | x
  ·exact Sk _ _ _ _ (Jk x)
  rw[AQ.mp x];exact hc
 exact Sk _ _ _ _ (List.mem_of_mem_drop y)
def Sj {k:Int} (h:A8 ns k c=A8 ns k d):c=d:=by
 have e:EW ns k c=EW ns k d:=BY cs h;have h1:=Hm ns k;have h2:=OL ns k;have e2:(EW ns k c)[(wa ns k).toNat]? = (EW ns k d)[(wa ns k).toNat]?:=by rw[e]
 have lt:((wb ns k (wz ns k).toNat).take (wa ns k).toNat).length=(wa ns k).toNat:=by rw[BO,FU];lia
 have g:∀(A B:List Nat) (x n:Nat),A.length=n->(A++[x]++B)[n]? = some x:=λA B x n e=>by subst e;simp
 unfold EW at e2;rw[g _ _ _ _ lt,g _ _ _ _ lt]at e2;exact BS e2
def Si {ns:List Int}{k:Int}{l:List Nat}(h:l.Nodup):(l.map (A8 ns k)).Nodup:=LA.mpr (h.imp λn e=>n (Sj e))
def jV:∀xs:List Str,cs (Txt.join (Str.ofString "") xs)=(xs.map cs).flatten:=λxs=>by
 have e:Txt.join (Str.ofString "") xs=Str.join (Str.ofString "") xs:=StrLaws.glued_eq_join _ _;rw[e];induction xs with
 | nil=>rfl
 | cons x r ih=>
  cases r with
  | nil=>show cs x=_;simp
  | cons y r=>show cs (x++Str.ofString "" ++ Str.join (Str.ofString "") (y::r))=_;rw[Lp,Lp,ih (StrLaws.glued_eq_join _ _),show cs (Str.ofString "")=[] from by decide +kernel];simp
def ZC {α:Type}(xs:List α)(g:α->Nat):((xs.map λm=>(⟨#[g m]⟩:Str)).map cs).flatten=xs.map g:=by
 induction xs with
 | nil=>rfl
 | cons x r ih=>rw[BU,BU,List.flatten_cons,ih];rfl
def jU (ns:List Int)(k:Int)(n:Nat):Txt.join (Str.ofString "") ((List.range n).map λ(m:Nat)=>(⟨#[ED (dw ns (k+(m:Int)) 25013 94)]⟩:Str))=⟨(wb ns k n).toArray⟩:=by apply Vf;rw[jV,ZC (g:=λ(m:Nat)=>ED (dw ns (k+(m:Int)) 25013 94))];rfl
inductive JF (K:W.Frag)(vs:List V)(H:Hp)(Q:VK)(E0_:XK):Prop
 | mk (a:Addr) (ns:List Int) (k:Int) (z:Str) (c0:vs=[.ref a,.int k,.str z]) (c1:SqL K H a (ns.map V.int)) (c2:ns.length<=63) (c3:0<=k) (c4:k<1000) (c5:Sm z) (c6:z.length<=10) (c7:∀(l:Addr) (H':Hp),Same H H'->H l=none->H' l=some (.lst (((cs z).map (A8 ns k)).map V.str))->Q (.ref l) H'):JF K vs H Q E0_
abbrev Ku:List Str:=["_law_number"]
abbrev dY:List Str:=Be Ku ["_law_some"]
def scLSign:Au dY Ku (Ak MR):=AA
abbrev GK:List Str:=["_law_script", "_law_k", "_law_letters"]
abbrev dM:List Str:=Be GK ["_law_size", "_law_at", "_law_base"]
def scLWords:Au dM GK (Ak FY):=AA
def ZQ (F:Fun K "_law_sign" "_law_sign" MR f fd):FnOk P w K mg base CX0 1 f fd Ku OZ:=by refine F.oq scLSign λaj A ag s H vs Q E hr h=>?_;obtain⟨n,rfl,q⟩:=h;refine⟨_,(Af (Ay (i:=1) scLSign.nd A0) (Af (Ay (i:=1) scLSign.nd (Aw Qz (pv 1) A0)) (Ah (Ar (As jW (pv 1) (Aw FA (pv 0) Ac) (λ_ _=>rfl)))))),?_⟩;refine⟨_,rfl,sgA,sgB,rfl,rfl,XE,?_⟩;have hat:=Av (S0 n);rw[Ew (Je n (by decide))]at hat;exact⟨_,rfl,_,rfl,_,_,rfl,rfl,(by show(0:Int)<_;decide),_,_,_,rfl,rfl,Xz,hat,q⟩
def ZE (F:Fun K "_law_words" "_law_words" FY f fd)(T:Bl mg)(C_l_draw:Ca P w K mg base CX0 2 "_law_draw" Ei Dg (Ms K))(C_l_sign:Ca P w K mg base CX0 1 "_law_sign" MR Ku OZ):FnOk P w K mg base CX0 3 f fd GK (JF K):=by
 refine F.oq scLWords λaj A ag s H vs Q E hr2 h=>?_;obtain⟨a,ns,k,z,rfl,hS,hn,k0,k1,hz,hzl,q⟩:=h;have hr1:Room 1 _:=hr2.mono (by decide);have ak:sizeLine=16777216:=AL;refine⟨_,(Af (Ay (i:=3) scLWords.nd (Aw B6 Ac (Aq C_l_draw hr2 Ai (Aa (pv 0) (Aa (pv 1) (Aa Ac (Aa Ac Ab))))))) (Af (AH (AS BA (Aq C_l_draw hr2 Ai (Aa (pv 0) (Aa (pv 1) (Aa Ac (Aa Ac Ab))))) Ac (AO _)) (Ah (Ay (i:=3) scLWords.nd Ac)) AD) (Af (Kb (i:=4) scLWords.nd rfl (Fm rfl) (Aq C_l_draw hr2 Ai (Aa (pv 0) (Aa (pv 1) (Aa Ac (Aa (pv 3) Ab)))))) (Af (Kb (i:=5) scLWords.nd rfl (Fm rfl) (Dq PySem.F.plainAttrs_str PySem.F.slot_str_join PySem.F.type_str_join hU A0 (Aa (CK (N:=["_law_m", "_law_script", "_law_k"]) (sc:=Ak FY) (own:=["_law_m"]) (fr:=["_law_script", "_law_k"]) (js:=[0,1]) B2 rfl (F2 (by rfl) T.range (Aa (pv 3) Ab)) (λ_ _ _ _=>AU (i:=0) (show List.Nodup (["_law_m", "_law_script", "_law_k"]:List Str) by decide +kernel)) (λ_ _ _ _=>Dd) (λ_ _ _ _=>(Aq C_l_sign hr1 Ai (Aa (Aq C_l_draw hr2 Ai (Aa (pv 1) (Aa (Aw B6 (pv 2) (pv 0)) (Aa Ac (Aa Ac Ab))))) Ab)))) Ab))) (Ah (Ar (CK (N:=["_law_letter", "_law_base", "_law_at"]) (sc:=Ak FY) (own:=["_law_letter"]) (fr:=["_law_base", "_law_at"]) (js:=[5,4]) B2 rfl (Zc (pv 2)) (λ_ _ _ _=>AU (i:=0) (show List.Nodup (["_law_letter", "_law_base", "_law_at"]:List Str) by decide +kernel)) (λ_ _ _ _=>Dd) (λ_ _ _ _=>(Aw Qz (Aw Qz (Qs SY (pv 1) Ql (Qk (pv 2))) (pv 0)) (Qs SY (pv 1) (Qk (Aw B6 (pv 2) Ac)) Ql)))))))))),?_⟩;have z1:=Hm ns k;have a1:=OL ns k;refine⟨_,rfl,_,rfl,a,ns,k,_,_,rfl,hS,hn,k0,by lia,by decide,by decide,⟨_,_,rfl,rfl,?_⟩⟩;dsimp only;refine Gz (λσ' H'=>σ'=[some (.ref a),some (.int k),some (.str z),some (.int (wz ns k)),none,none]/\H'=H) ?_ (λN hN=>?_)
 ·rintro σ' H' ⟨rfl,rfl⟩;refine⟨_,rfl,_,rfl,_,rfl,a,ns,k,_,_,rfl,hS,hn,k0,by lia,by decide,by lia,?_⟩;have ea:dw ns k 20011 (wz ns k)=wa ns k:=rfl;rw[ea];refine⟨rfl,_,rfl,_,rfl,by lia,by lia,λD hD=>?_⟩
  refine Cd (n:=(wz ns k).toNat) (λi ys H2=>ys=((List.range i).map λ(m:Nat)=>(⟨#[ED (dw ns (k+(m:Int)) 25013 94)]⟩:Str)).map V.str/\Same H' H2/\H2 D=some (.lst ys)) ⟨rfl,Same.new hD,Ae⟩
   (λi _ _ hi _=>hi) (λ_ _ _=>Am _) ?_ ?_
  ·rintro i ys H2 v H3 hi ⟨rfl,s2,e2⟩ ⟨rfl,rfl⟩;refine CW ?_;refine⟨_,rfl,_,rfl,_,rfl,_,_,rfl,rfl,a,ns,_,_,_,rfl,s2.seq hS,hn,by lia,by lia,by decide,by decide,_,rfl,?_⟩;refine⟨_,e2,by rw[Al,Al,Dw];lia,?_,s2.put hD,Ae⟩;rw[Hc,AX,AX,NY];rfl
  rintro ys H2 ⟨rfl,s2,e2⟩;have hb:=jU ns k (wz ns k).toNat;refine⟨_,D,_,rfl,rfl,SqL.of e2,?_,?_⟩
  ·have:(((List.range (wz ns k).toNat).map λ(m:Nat)=>(⟨#[ED (dw ns (k+(m:Int)) 25013 94)]⟩:Str)).map (·.length)).sum<=30:=by
    have go:∀l:List Nat,((l.map λ(m:Nat)=>(⟨#[ED (dw ns (k+(m:Int)) 25013 94)]⟩:Str)).map (·.length)).sum=l.length:=λl=>by
     induction l with
     | nil=>rfl
     | cons x r ih=>rw[BU,BU,List.sum_cons,ih,CF];show 1+_=_;lia
    rw[go,Dw];lia
   rw[Al,Dw,show(Str.ofString "").length=0 from by decide +kernel];lia
  have hb':Txt.join (Str.ofString "") ((List.range (wz ns k).toNat).map λ(m:Nat)=>(⟨#[ED (dw ns (k+(m:Int)) 25013 94)]⟩:Str))=⟨(wb ns k (wz ns k).toNat).toArray⟩:=hb;rw[hb'];have bl:(Str.mk (wb ns k (wz ns k).toNat).toArray).length=(wz ns k).toNat:=by rw[IH,FU]
  refine⟨_,rfl,z,rfl,?_,λD2 hD2=>?_⟩
  ·rw[<- Array.all_toList];exact He.mpr λc hc=>Bb (hz c hc)
  refine Cd (n:=z.cps.size) (λi ys H3=>ys=(((cs z).take i).map (A8 ns k)).map V.str/\Same H2 H3/\H3 D2=some (.lst ys)) ⟨rfl,Same.new hD2,Ae⟩ (λi _ _ hi _=>hi) (λ_ _ _=>Am _) ?_ ?_
  ·rintro i ys H3 v H4 hi ⟨rfl,s3,e3⟩ ⟨rfl,c,hc,rfl⟩;refine CW ?_;have hc':(cs z)[i]? = some c:=by show z.cps.toList[i]? = some c;simpa using hc
   have l1:(Txt.slice (Str.mk (wb ns k (wz ns k).toNat).toArray) none (some (wa ns k)))=⟨((wb ns k (wz ns k).toNat).take (wa ns k).toNat).toArray⟩:=by have:=StrLaws.sliceText_to (x:=Str.mk (wb ns k (wz ns k).toNat).toArray) (j:=wa ns k) ⟨a1.1,by show wa ns k<=((wb ns k (wz ns k).toNat).length:Int);rw[FU];lia⟩;refine this.trans ?_;show Str.mk (((wb ns k (wz ns k).toNat).drop 0).take (wa ns k-0).toNat).toArray=_;rw[List.drop_zero,Int.sub_zero]
   have l2:(Txt.slice (Str.mk (wb ns k (wz ns k).toNat).toArray) (some (wa ns k+1)) none)=⟨((wb ns k (wz ns k).toNat).drop ((wa ns k).toNat+1)).toArray⟩:=by have:=StrLaws.sliceText_from (x:=Str.mk (wb ns k (wz ns k).toNat).toArray) (i:=wa ns k+1) ⟨by lia,by show wa ns k+1<=((wb ns k (wz ns k).toNat).length:Int);rw[FU];lia⟩;refine this.trans ?_;show Str.mk (((wb ns k (wz ns k).toNat).drop (wa ns k+1).toNat).take (((wb ns k (wz ns k).toNat).length:Int)-(wa ns k+1)).toNat).toArray=_;rw[show(wa ns k+1).toNat=(wa ns k).toNat+1 from by lia,LQ (by rw[length_drop];lia)]
   refine⟨_,rfl,_,rfl,_,rfl,_,rfl,by rw[bl];lia,?_⟩;rw[l1];refine⟨_,rfl,_,_,rfl,rfl,?_,?_⟩
   ·rw[IH,BO,FU];show min _ _+1<=sizeLine;lia
   refine⟨_,rfl,_,rfl,_,_,rfl,rfl,_,rfl,_,rfl,by rw[bl];lia,?_⟩;rw[l2];refine⟨_,_,rfl,rfl,?_,?_⟩
   ·rw[<- NP,Lp,AR,Ve,BO,FU,IH,length_drop,FU];show min _ _+1+_<=sizeLine;lia
   have ew:(Str.mk ((wb ns k (wz ns k).toNat).take (wa ns k).toNat).toArray)++(⟨#[c]⟩:Str)++(Str.mk ((wb ns k (wz ns k).toNat).drop ((wa ns k).toNat+1)).toArray)=A8 ns k c:=by apply Vf;rw[Lp,Lp];rfl
   rw[ew];have zl:(cs z).length=z.length:=NP z;refine⟨_,e3,by rw[Al,Al,BO];lia,?_,s3.put hD2,Ae⟩;rw[Hb,hc',AX,AX];rfl
  rintro ys H3 ⟨rfl,s3,e3⟩;rw[LQ (by rw[NP];exact Am _)]at e3;exact q D2 H3 (s2.trans s3) (s2.free hD2) e3
 refine⟨_,rfl,_,rfl,a,ns,k,_,_,rfl,hS,hn,k0,by lia,by decide,by decide,rfl,_,rfl,?_⟩;refine AZ (λhc=>?_) (λhc=>?_)
 ·have hw:wz ns k=30:=AB (V.int.inj (BF hc));rw[hw]at hN;exact hN _ _ ⟨rfl,rfl⟩
 have hw:wz ns k=1+dw ns k 10007 6:=Ao λz=>hc (Bb (by rw[z]));rw[hw]at hN;exact hN _ _ ⟨rfl,rfl⟩
inductive Mp (K:W.Frag)(vs:List V)(H:Hp)(Q:VK)(E0_:XK):Prop
 | mk (a:Addr) (ns:List Int) (k:Int) (c0:vs=[.ref a,.int k]) (c1:SqL K H a (ns.map V.int)) (c2:ns.length<=63) (c3:0<=k) (c4:k<1000) (c5:∀r:Int,1<=r->r<=1000000000->Q (.int r) H):Mp K vs H Q E0_
inductive Pq (K:W.Frag)(vs:List V)(H:Hp)(Q:VK)(E0_:XK):Prop
 | mk (a:Addr) (ns:List Int) (k m:Int) (c0:vs=[.ref a,.int k,.int m]) (c1:SqL K H a (ns.map V.int)) (c2:ns.length<=63) (c3:0<=k) (c4:k<100000) (c5:1<=m) (c6:m<=200) (c7:∀(l:Addr) (xs:List Int) (H':Hp),Same H H'->H l=none->H' l=some (.lst (xs.map V.int))->xs.Pairwise (· < ·)->(∀x∈xs,0<=x/\x<m)->xs.length<=3->Q (.ref l) H'):Pq K vs H Q E0_
inductive OY (K:W.Frag)(vs:List V)(H:Hp)(Q:VK)(E0_:XK):Prop
 | mk (a:Addr) (ns:List Int) (k:Int) (l:Addr) (xs:List Str) (c0:vs=[.ref a,.int k,.ref l]) (c1:SqL K H a (ns.map V.int)) (c2:ns.length<=63) (c3:0<=k) (c4:k<100000) (c5:H l=some (.lst (xs.map V.str))) (c6:xs.length=3) (c7:∀o:Option Str,(∀s,o=some s->s∈xs)->Q (oS o) H):OY K vs H Q E0_
inductive O9 (K:W.Frag)(vs:List V)(H:Hp)(Q:VK)(E0_:XK):Prop
 | mk (a:Addr) (ns:List Int) (c0:vs=[.ref a]) (c1:SqL K H a (ns.map V.int)) (c2:ns.length<=63) (c3:∀m:Nat,1<=m->m<=7->Q (.int (m:Int)) H):O9 K vs H Q E0_
inductive OU (vs:List V)(H:Hp)(Q:VK)(E0_:XK):Prop
 | mk (i:Int) (c0:vs=[.int i]) (c1:Q (.bl true) H):OU  vs H Q E0_
inductive O0 (K:W.Frag)(vs:List V)(H:Hp)(Q:VK)(E0_:XK):Prop
 | mk (a:Addr) (ns:List Int) (k:Int) (m:Nat) (c0:vs=[.ref a,.int k,.int (m:Int)]) (c1:SqL K H a (ns.map V.int)) (c2:ns.length<=63) (c3:0<=k) (c4:k<1000) (c5:1<=m) (c6:m<=200) (c7:∀(n:Nat) (H':Hp),Same H H'->n<2^m->Q (.int (n:Int)) H'):O0 K vs H Q E0_
abbrev Il:List Str:=["_law_script", "_law_k"]
abbrev eF:List Str:=Il
def X2:Au eF Il (Ak JT):=AA
abbrev KC:List Str:=["_law_script", "_law_k", "_law_many_here"]
abbrev eZ:List Str:=Be KC ["_law_way", "_law_worlds"]
def scLEntry:Au eZ KC (Ak MX):=AA
abbrev Kx:List Str:=["_law_script"]
abbrev eO:List Str:=Kx
def X4:Au eO Kx (Ak MT):=AA
abbrev Ko:List Str:=["_law_thing"]
abbrev dP:List Str:=Ko
def XY:Au dP Ko (Ak MO):=AA
abbrev Kv:List Str:=["_law_script", "_law_k", "_law_many_here"]
abbrev dZ:List Str:=Be Kv ["_law_way"]
def scLSet:Au dZ Kv (Ak JS):=AA
def ZX (F:Fun K "_law_price" "_law_price" JT f fd)(C_l_draw:Ca P w K mg base CX0 2 "_law_draw" Ei Dg (DR K))(C_l_cell:Ca P w K mg base CX0 1 "_law_cell" HN GO (JL K)):FnOk P w K mg base CX0 3 f fd Il (Mp K):=by
 refine F.oq X2 λaj A ag s H vs Q E hr2 h=>?_;obtain⟨a,ns,k,rfl,hS,hn,k0,k1,q⟩:=h;have hr1:Room 1 _:=hr2.mono (by decide);have pw:(10:Int)^(9:Int).toNat=1000000000:=by decide +kernel
 refine⟨_,(Af (AH (AS BA (Aq C_l_draw hr2 Ai (Aa (pv 0) (Aa (pv 1) (Aa Ac (Aa Ac Ab))))) Ac (AO _)) (Ah (Ar (Aw B6 Ac (Aw FA (Aw DI (Aq C_l_cell hr1 Ai (Aa (pv 0) (Aa (pv 1) Ab))) Ac) (Aw Zx Ac Ac))))) AD) (Ah (Ar (Aw B6 Ac (Aq C_l_draw hr2 Ai (Aa (pv 0) (Aa (pv 1) (Aa Ac (Aa Ac Ab))))))))),?_⟩;refine⟨_,rfl,_,rfl,a,ns,k,_,_,rfl,hS,hn,k0,by lia,by decide,by decide,λr a1 b1=>⟨rfl,_,rfl,?_⟩⟩;refine AZ (λ_=>?_) (λ_=>?_)
 ·refine⟨_,rfl,_,rfl,a,ns,k,rfl,hS,hn,k0,_,_,rfl,rfl,.inr ⟨by decide,by decide⟩,_,_,rfl,rfl,⟨by decide,by decide,by decide⟩,_,_,rfl,rfl,(by show(0:Int)<_;rw[pw];decide),_,_,rfl,rfl,?_⟩;have h0:=Je (cl ns k*48271) (show(1000000000:Int)≠0 by decide);have h1:=N7 (cl ns k*48271) (show(0:Int)<1000000000 by decide);rw[pw];exact q _ (by lia) (by lia)
 unfold A9;dsimp only;refine⟨_,rfl,_,rfl,a,ns,k,_,_,rfl,hS,hn,k0,by lia,by decide,by decide,λr a1 b1=>⟨_,_,rfl,rfl,q _ (by lia) (by lia)⟩⟩
def aW (F:Fun K "_law_entry" "_law_entry" MX f fd)(T:Bl mg)(C_l_draw:Ca P w K mg base CX0 2 "_law_draw" Ei Dg (DR K)):FnOk P w K mg base CX0 3 f fd KC (Pq K):=by
 refine F.oq scLEntry λaj A ag s H vs Q E hr2 h=>?_;obtain⟨a,ns,k,m,rfl,hS,hn,k0,k1,m0,m1,q⟩:=h;have ak:sizeLine=16777216:=AL;refine⟨_,(Af (Ay (i:=3) scLEntry.nd (Aq C_l_draw hr2 Ai (Aa (pv 0) (Aa (pv 1) (Aa Ac (Aa Ac Ab)))))) (Af (AH (AS BA (pv 3) Ac (AO _)) (Ah (Ar (Cy Ab))) AD) (Af (Ay (i:=4) scLEntry.nd (Cy (Aa (Aq C_l_draw hr2 Ai (Aa (pv 0) (Aa (pv 1) (Aa Ac (Aa (pv 2) Ab))))) Ab))) (Af (AH (AS K2 (pv 3) Ac (AO _)) (Ah (BD (Dq Dx Dy DN Dr (pv 4) (Aa (Aq C_l_draw hr2 Ai (Aa (pv 0) (Aa (pv 1) (Aa Ac (Aa (pv 2) Ab))))) Ab)))) AD) (Af (AH (AS BA (pv 3) Ac (AO _)) (Ah (BD (Dq Dx Dy DN Dr (pv 4) (Aa (Aq C_l_draw hr2 Ai (Aa (pv 0) (Aa (pv 1) (Aa Ac (Aa (pv 2) Ab))))) Ab)))) AD) (Ah (Ar (Bf (Vp rfl) (by rfl) T.sorted NT (Aa (Cb (Q6 rfl) (by rfl) T.set Lr (Aa (pv 4) Ab)) Ab))))))))),?_⟩;refine⟨_,rfl,_,rfl,a,ns,k,_,_,rfl,hS,hn,k0,by lia,by decide,by decide,λwy a1 b1=>?_⟩;refine⟨_,rfl,rfl,_,rfl,?_⟩;refine AZ (λ_=>?_) (λ_=>?_)
 ·exact⟨Bk _,λl hl=>q l [] _ (Same.new hl) hl Ae .nil (λx hx=>by cases hx) (by decide)⟩
 unfold A9;dsimp only;refine⟨_,rfl,_,rfl,_,rfl,a,ns,k,_,_,rfl,hS,hn,k0,by lia,by decide,by lia,λr1 a2 b2=>⟨AW,λl hl=>?_⟩⟩;have sl:Same H (upd H l (.lst [.int r1])):=Same.new hl;have el:(upd H l (.lst [.int r1])) l=some (.lst ([r1].map V.int)):=Ae;dsimp only;refine Gz (λσ' H'=>∃xs:List Int,σ'=[some (.ref a),some (.int k),some (.int m),some (.int wy),some (.ref l)]/\Same H H'/\H' l=some (.lst (xs.map V.int))/\(∀x∈xs,0<=x/\x<m)/\xs.length<=2) ?_ (λN hN=>?_)
 ·rintro σ' H1 ⟨xs,rfl,s1,e1,x1,l1⟩;refine FX (λσ' H'=>∃xs:List Int,σ'=[some (.ref a),some (.int k),some (.int m),some (.int wy),some (.ref l)]/\Same H H'/\H' l=some (.lst (xs.map V.int))/\(∀x∈xs,0<=x/\x<m)/\xs.length<=3) ?_ (λN hN=>?_)
  ·rintro σ' H2 ⟨ys,rfl,s2,e2,x2,l2⟩;obtain⟨ds,ed,nd,me,ld⟩:=Vc ys;have ek:ys.map V.int=(ys.map (Sum.inl:Int->Ag)).map kV:=by rw[BC];rfl
   refine⟨_,rfl,l,ys.map Sum.inl,rfl,SqL.of (by rw[<- ek];exact e2),by rw[Al];lia,λst hst=>?_⟩;rw[ed];have s3:Same H2 (upd H2 st (Do P w st (ds.map Sum.inl))):=Same.new hst;refine⟨st,ds,rfl,Ae,nd,by lia,λl2 zs hl2 pm so=>?_⟩;have s4:Same H2 (upd (upd H2 st (Do P w st (ds.map Sum.inl))) l2 (.lst (zs.map V.int))):=Same.put (H':=upd H2 st (Do P w st (ds.map Sum.inl))) (o:=.lst (zs.map V.int)) s3 (s3.free hl2);have zn:zs.Nodup:=pm.nodup_iff.mpr nd;refine q l2 zs _ (s2.trans s4) (s2.free (s3.free hl2)) Ae ?_ (λx hx=>x2 x ((me x).mp (pm.mem_iff.mp hx))) (by have:=pm.length_eq;lia);exact(so.and zn).imp λ⟨h1,h2⟩=>by lia
  refine⟨_,rfl,rfl,_,rfl,?_⟩;refine AZ (λ_=>?_) (λ_=>?_)
  ·refine⟨_,rfl,.inl ⟨rfl,_,SqL.of e1⟩,_,rfl,_,rfl,_,rfl,a,ns,k,_,_,rfl,s1.seq hS,hn,k0,by lia,by decide,by lia,λr3 a4 b4=>?_⟩;refine⟨l,_,_,rfl,rfl,e1,by rw[Al];lia,hN _ _ ⟨xs++[r3],rfl,s1.put hl,by rw[Ae,AX];rfl,λx hx=>?_,by rw[AR];show xs.length+1<=3;lia⟩⟩;rcases(A5.mp hx)with z | z
   ·exact x1 x z
   rw[AQ.mp z];exact⟨a4,b4⟩
  exact hN _ _ ⟨xs,rfl,s1,e1,x1,by lia⟩
 refine⟨_,rfl,_,_,rfl,rfl,_,rfl,?_⟩;refine AZ (λ_=>?_) (λ_=>?_)
 ·refine⟨_,rfl,.inl ⟨rfl,_,SqL.of el⟩,_,rfl,_,rfl,_,rfl,a,ns,k,_,_,rfl,sl.seq hS,hn,k0,by lia,by decide,by lia,λr3 a4 b4=>?_⟩;refine⟨l,_,_,rfl,rfl,el,by show 1<sizeLine;lia,hN _ _ ⟨[r1,r3],rfl,sl.put hl,by rw[Ae];rfl,λx hx=>?_,by simp⟩⟩;rcases(AK.mp hx)with z | z
  ·rw[z];exact⟨a2,b2⟩
  rw[AQ.mp z];exact⟨a4,b4⟩
 exact hN _ _ ⟨[r1],rfl,sl,el,λx hx=>by rw[AQ.mp hx];exact⟨a2,b2⟩,by simp⟩
def ZM (F:Fun K "_law_told" "_law_told" MQ f fd)(C_l_draw:Ca P w K mg base CX0 2 "_law_draw" Ei Dg (DR K)):FnOk P w K mg base CX0 3 f fd Kr (OY K):=by
 refine F.oq X0 λaj A ag s H vs Q E hr2 h=>?_;obtain⟨a,ns,k,l,xs,rfl,hS,hn,k0,k1,hl,x3,q⟩:=h;refine⟨_,(Af (AH (AS BA (Aq C_l_draw hr2 Ai (Aa (pv 0) (Aa (pv 1) (Aa Ac (Aa Ac Ab))))) Ac (AO _)) (Ah (Ar Cw)) AD) (Ah (Ar (As Dj (pv 2) (Aq C_l_draw hr2 Ai (Aa (pv 0) (Aa (pv 1) (Aa Ac (Aa Ac Ab))))) (λ_ _=>rfl))))),?_⟩;refine⟨_,rfl,_,rfl,a,ns,k,_,_,rfl,hS,hn,k0,by lia,by decide,by decide,λr1 a1 b1=>⟨rfl,_,rfl,?_⟩⟩;refine AZ (λ_=>?_) (λ_=>?_)
 ·exact q none λs z=>by cases z
 unfold A9;dsimp only;refine⟨_,rfl,_,rfl,_,rfl,a,ns,k,_,_,rfl,hS,hn,k0,by lia,by decide,by decide,λr a2 b2=>?_⟩;obtain⟨i,rfl⟩:∃i:Nat,(i:Int)=r:=⟨r.toNat,Ew a2⟩;have hi:i<xs.length:=by lia
 refine⟨l,_,_,_,rfl,rfl,SqL.of hl,Av (v:=V.str xs[i]) (by rw[AV,AC hi];rfl),?_⟩;exact q (some xs[i]) λs z=>by cases z;exact CQ hi
def Z5 (F:Fun K "_law_many" "_law_many" MT f fd)(C_l_draw:Ca P w K mg base CX0 2 "_law_draw" Ei Dg (DR K)):FnOk P w K mg base CX0 3 f fd Kx (O9 K):=by
 refine F.oq X4 λaj A ag s H vs Q E hr2 h=>?_;obtain⟨a,ns,rfl,hS,hn,q⟩:=h;refine⟨_,(Af (AH (AS BA (Aq C_l_draw hr2 Ai (Aa (pv 0) (Aa Ac (Aa Ac (Aa Ac Ab))))) Ac (AO _)) (Ah (Ar Ac)) AD) (Ah (Ar (Aw B6 Ac (Aq C_l_draw hr2 Ai (Aa (pv 0) (Aa Ac (Aa Ac (Aa Ac Ab))))))))),?_⟩;refine⟨_,rfl,a,ns,_,_,_,rfl,hS,hn,by decide,by decide,by decide,by decide,λr1 a1 b1=>⟨rfl,_,rfl,?_⟩⟩;refine AZ (λ_=>?_) (λ_=>?_)
 ·exact q 7 (by decide) (by decide)
 unfold A9;dsimp only;refine⟨_,rfl,a,ns,_,_,_,rfl,hS,hn,by decide,by decide,by decide,by decide,λr a2 b2=>⟨_,_,rfl,rfl,?_⟩⟩;have:=q (1+r).toNat (by lia) (by lia);rw[Ew (by lia)]at this;exact this
def ZI (F:Fun K "_law_whole" "_law_whole" MO f fd)(T:Bl mg):FnOk P w K mg base CX0 1 f fd Ko OU:=by refine F.oq XY λaj A ag s H vs Q E hr h=>?_;obtain⟨i,rfl,q⟩:=h;refine⟨_,(Ah (Ar (Zq (Bf Vt (by rfl) T.isi Eo (Aa (pv 0) (Aa (Ia (v:=.ty "int") (by rfl) T.int oM rfl) Ab))) (Zg (Zh (Bf Vt (by rfl) T.isi Eo (Aa (pv 0) (Aa (Ia (v:=.ty "bool") (by rfl) T.bool Vw rfl) Ab)))))))),?_⟩;refine⟨_,rfl,i,_,rfl,.inl ⟨rfl,_,rfl,?_⟩⟩;refine BH ?_;exact⟨_,rfl,i,_,rfl,.inr ⟨rfl,_,rfl,q⟩⟩
def aA (F:Fun K "_law_list" "_law_list" Ft f fd)(T:Bl mg):FnOk P w K mg base CX0 1 f fd E5 EX:=by
 refine F.oq X5 λaj A ag s H vs Q E hr h=>?_;obtain⟨m,rfl,hm,q⟩:=h;have ak:sizeLine=16777216:=AL;refine⟨_,(Ah (Ar (CK (N:=["_law_w", "_law_some"]) (sc:=Ak Ft) (own:=["_law_w"]) (fr:=["_law_some"]) (js:=[0]) B2 rfl (F2 (by rfl) T.range (Aa (Nk PySem.F.plainAttrs_int VP VO TU (pv 0)) Ab)) (λ_ _ _ _=>AU (i:=0) (show List.Nodup (["_law_w", "_law_some"]:List Str) by decide +kernel)) (λ_ _ _ _=>Fw (Qh (Aw F5 (Aw Nr (pv 1) (pv 0)) Ac))) (λ_ _ _ _=>(pv 0))))),?_⟩;have hnb:nb m<=200:=Ny hm;have hnb2:Builtin.Int.intBits (m:Int)<=200:=hnb;refine⟨_,rfl,rfl,_,rfl,rfl,_,rfl,by lia,by lia,λD hD=>?_⟩
 refine Cd (n:=nb m) (λi ys H2=>ys=(((List.range i).filter λj=>m.testBit j).map λ(j:Nat)=>(j:Int)).map V.int/\Same H H2/\H2 D=some (.lst ys)) ⟨rfl,Same.new hD,Ae⟩
  (λi ys H2 hi _=>by show i<_;rw[A1];exact hi) (λys H2 _=>by show _<=nb m;rw[A1];exact Am _) ?_ ?_
 ·rintro i ys H2 x H3 hi ⟨rfl,s2,e2⟩ ⟨rfl,rfl⟩;have e0:(0+(i:Int)).toNat=i:=by lia
  refine⟨_,rfl,_,rfl,_,_,rfl,rfl,by show(0:Int)<=0+(i:Int);lia,_,_,rfl,rfl,_,rfl,?_⟩;rw[e0,NV];have hl:((((List.range i).filter λj=>m.testBit j).map λ(j:Nat)=>(j:Int)).map V.int).length<sizeLine:=by rw[Al,Al];have:=Gn (λj=>m.testBit j) (List.range i);rw[Dw]at this;lia
  cases hb:m.testBit i with
  | true=>refine QM rfl ?_;refine⟨_,rfl,_,e2,hl,?_,s2.put hD,Ae⟩;rw[Hc,Eu,AX,AX];simp[hb]
  | false=>
   refine QN (by decide) ?_;refine⟨?_,s2,?_⟩
   ·rw[Hc,Eu];simp[hb]
   exact e2
 rintro ys H2 ⟨rfl,s2,e2⟩;exact q D H2 s2 hD e2
def Xj {m:Nat}{ns:List Int}(up:ns.Pairwise (· < ·))(hx:∀x∈ns,0<=x/\x<(m:Int)):∃n:Nat,n<2^m/\(ns.map λn=>(2:Int)^n.toNat).sum=(n:Int):=by refine⟨bt ns,?_,SR (up.imp λh=>Int.ne_of_lt h) λn hn=>(hx n hn).1⟩;refine Jr _ λi hi=>?_;rw[Ep];refine Hg.mpr λn hn=>?_;have:=hx n hn;simp;lia
def ZS (F:Fun K "_law_set" "_law_set" JS f fd)(T:Bl mg)(C_l_draw:Ca P w K mg base CX0 2 "_law_draw" Ei Dg (DR K)):FnOk P w K mg base CX0 3 f fd Kv (O0 K):=by
 refine F.oq scLSet λaj A ag s H vs Q E hr2 h=>?_;obtain⟨a,ns,k,m,rfl,hS,hn,k0,k1,m0,m1,q⟩:=h;have ak:sizeLine=16777216:=AL;refine⟨_,(Af (Ay (i:=3) scLSet.nd (Aq C_l_draw hr2 Ai (Aa (pv 0) (Aa (pv 1) (Aa Ac (Aa Ac Ab)))))) (Af (AH (AS BA (pv 3) Ac (AO _)) (Ah (Ar (Aw K1 (Aw GQ Ac (pv 2)) Ac))) AD) (Af (AH (AS BA (pv 3) Ac (AO _)) (Ah (Ar (Aw GQ Ac (Aq C_l_draw hr2 Ai (Aa (pv 0) (Aa (pv 1) (Aa Ac (Aa (pv 2) Ab)))))))) AD) (Af (AH (AS BA (pv 3) Ac (AO _)) (Ah (Ar Ac)) AD) (Ah (Ar (Bf (Vo rfl) (by rfl) T.sum Vv (Aa (CK (N:=["_law_w", "_law_script", "_law_k"]) (sc:=Ak JS) (own:=["_law_w"]) (fr:=["_law_script", "_law_k"]) (js:=[0,1]) B2 rfl (F2 (by rfl) T.range (Aa (pv 2) Ab)) (λ_ _ _ _=>AU (i:=0) (show List.Nodup (["_law_w", "_law_script", "_law_k"]:List Str) by decide +kernel)) (λ_ _ _ _=>Fw (AS BA (Aq C_l_draw hr2 Ai (Aa (pv 1) (Aa (Aw B6 (pv 2) (pv 0)) (Aa Ac (Aa Ac Ab))))) Ac (AO _))) (λ_ _ _ _=>(Aw GQ Ac (pv 0)))) Ab)))))))),?_⟩;refine⟨_,rfl,_,rfl,a,ns,k,_,_,rfl,hS,hn,k0,by lia,by decide,by decide,λwy a1 b1=>?_⟩;refine⟨_,rfl,rfl,_,rfl,?_⟩;refine AZ (λ_=>?_) (λ_=>?_)
 ·refine⟨_,rfl,_,_,rfl,rfl,⟨by lia,by lia,by lia⟩,_,_,rfl,rfl,?_⟩;have h1:(1:Int)*2^((m:Int)).toNat-1=((2^m-1:Nat):Int):=by rw[A1,HX];have:=Es m;lia
  rw[h1];exact q _ H (Same.refl _) (by have:=Es m;lia)
 dsimp only[A9];refine⟨_,rfl,rfl,_,rfl,?_⟩;refine AZ (λ_=>?_) (λ_=>?_)
 ·refine⟨_,rfl,_,rfl,_,rfl,a,ns,k,_,_,rfl,hS,hn,k0,by lia,by decide,by lia,λr a2 b2=>⟨_,_,rfl,rfl,⟨by lia,by lia,by lia⟩,?_⟩⟩;have h1:(1:Int)*2^r.toNat=((2^r.toNat:Nat):Int):=by rw[HX];lia
  rw[h1];exact q _ H (Same.refl _) (pow_lt_pow_right (by decide) (by lia))
 dsimp only[A9];refine⟨_,rfl,rfl,_,rfl,?_⟩;refine AZ (λ_=>?_) (λ_=>?_)
 ·exact q 0 H (Same.refl _) (Es m)
 dsimp only[A9];refine⟨_,rfl,_,rfl,by lia,by lia,λD hD=>?_⟩
 refine Cd (n:=m) (λi ys H2=>∃xs:List Int,ys=(xs.map λn=>(2:Int)^n.toNat).map V.int/\xs.length<=i/\xs.Pairwise (· < ·)/\(∀x∈xs,0<=x/\x<(i:Int))/\Same H H2/\H2 D=some (.lst ys)) ⟨[],rfl,Bk _,.nil,(λx hx=>by cases hx),Same.new hD,Ae⟩
  (λi _ _ hi _=>by show i<_;rw[A1];exact hi) (λ_ _ _=>by show _<=m;rw[A1];exact Am _) ?_ ?_
 ·rintro i ys H2 x H3 hi ⟨xs,rfl,xl,xp,xm,s2,e2⟩ ⟨rfl,rfl⟩;refine⟨_,rfl,_,rfl,_,rfl,_,_,rfl,rfl,a,ns,_,_,_,rfl,s2.seq hS,hn,by lia,by lia,by decide,by decide,λr a3 b3=>⟨rfl,_,rfl,?_⟩⟩;refine AZ (λ_=>?_) (λ_=>?_)
  ·refine⟨_,rfl,_,_,rfl,rfl,⟨by lia,by lia,by lia⟩,?_⟩;refine⟨_,e2,by rw[Al,Al];lia,xs++[(i:Int)],?_,by rw[AR];show xs.length+1<=i+1;lia,?_,λx hx=>?_,s2.put hD,Ae⟩
   ·rw[AX,AX,NY,one_mul];rfl
   ·refine List.pairwise_append.mpr ⟨xp,List.pairwise_singleton _ _,λx hx y hy=>?_⟩;rw[AQ.mp hy];have:=xm x hx;lia
   rcases(A5.mp hx)with z | z
   ·have:=xm x z;lia
   rw[AQ.mp z];lia
  exact⟨xs,rfl,by lia,xp,λx hx=>by have:=xm x hx;lia,s2,e2⟩
 rintro ys H2 ⟨xs,rfl,xl,xp,xm,s2,e2⟩;obtain⟨n,hn1,hn2⟩:=Xj xp xm;refine⟨D,_,rfl,SqL.of e2,?_⟩;rw[hn2];exact q n H2 s2 hn1
def Ze (K:W.Frag)(h:X.K=K) (hl:PE X l tl):PI X tg l (Ut K tl):=by subst h;exact BG hl
def iY {scope sc:Scope}(h:∀y∈scope.names,y.2≠NameKind.free):∀y∈scope.names,y.2=NameKind.free->sc.names.lookup y.1=some NameKind.cell:=λy hy e=>absurd e (h y hy)
abbrev abcL:List Nat:=[97,98,99]
abbrev deL:List Nat:=[100,101]
abbrev pqrL:List Nat:=[112,113,114]
def oZ:cs (Str.ofString "abc")=abcL:=by decide +kernel
def nC:cs (Str.ofString "de")=deL:=by decide +kernel
def Y7:cs (Str.ofString "pqr")=pqrL:=by decide +kernel
def VH:∀c∈abcL,c<128:=by decide
def Vb:∀c∈deL,c<128:=by decide
def Tp:∀c∈pqrL,c<128:=by decide
structure DDs (H:Hp)(ns:List Int)(m:Nat)(us:List V)(ds:List Dee)(i:Nat):Prop where
 hd:A2 (DeV H) us ds
 nm:ds.map Dee.name=(abcL.take i).map (A8 ns 2)
 dl:ds.length=i
 so:∀d∈ds,L3 (d.name,d.price)
 de:∀d∈ds,DeOk m d
structure LLs (H:Hp)(ns:List Int)(m:Nat)(ws:List V)(ls:List Loo)(i:Nat):Prop where
 hl:A2 (LoV H) ws ls
 nm:ls.map Loo.name=(deL.take i).map (A8 ns 2)
 ll:ls.length=i
 sl:∀l∈ls,L3 (l.name,l.price)
 lo:∀l∈ls,l.tab.length=m
 an:∀l∈ls,∀s,some s∈l.tab->s∈pqrL.map (A8 ns 3)
def DDs.same (h:DDs H ns m us ds i)(s:Same H H'):DDs H' ns m us ds i:=⟨h.hd.mono λv t _ q=>q.same s,h.nm,h.dl,h.so,h.de⟩
def LLs.same (h:LLs H ns m us ls i)(s:Same H H'):LLs H' ns m us ls i:=⟨h.hl.mono λv t _ q=>q.same s,h.nm,h.ll,h.sl,h.lo,h.an⟩
inductive Pw (K:W.Frag)(vs:List V)(H:Hp)(Q:VK)(E0_:XK):Prop
 | mk (a:Addr) (ns:List Int) (m:Nat) (c0:vs=[.ref a,.int (m:Int)]) (c1:SqL K H a (ns.map V.int)) (c2:ns.length<=63) (c3:1<=m) (c4:m<=200) (c5:∀(l:Addr) (us:List V) (ds:List Dee) (i:Nat) (H':Hp),Same H H'->H l=none->H' l=some (.lst us)->i<=3->DDs H' ns m us ds i->Q (.ref l) H'):Pw K vs H Q E0_
inductive Pa (K:W.Frag)(vs:List V)(H:Hp)(Q:VK)(E0_:XK):Prop
 | mk (a:Addr) (ns:List Int) (m:Nat) (c0:vs=[.ref a,.int (m:Int)]) (c1:SqL K H a (ns.map V.int)) (c2:ns.length<=63) (c3:1<=m) (c4:m<=200) (c5:∀(l:Addr) (ws:List V) (ls:List Loo) (i:Nat) (H':Hp),Same H H'->H l=none->H' l=some (.lst ws)->i<=2->LLs H' ns m ws ls i->Q (.ref l) H'):Pa K vs H Q E0_
abbrev KD:List Str:=["_law_script", "_law_many_here"]
abbrev fK:List Str:=Be KD ["_law_words_here", "_law_deeds_here", "_law_k", "_law_table_here"]
def scLDeeds:Au fK KD (Ak JZ):=AA
abbrev Ky:List Str:=["_law_script", "_law_many_here"]
abbrev eP:List Str:=Be Ky ["_law_words_here", "_law_answers", "_law_looks_here", "_law_k", "_law_table_here"]
def scLLooks:Au eP Ky (Ak JU):=AA
def SD {l:List Nat}{i:Nat}(h:i<l.length):l.take (i+1)=l.take i++[l[i]]:=by rw[Hb,AC h];rfl
def bJ (F:Fun K "_law_deeds" "_law_deeds" JZ f fd)(T:Bl mg)(C_l_words:Ca P w K mg base CX0 3 "_law_words" FY GK (JF K))(C_l_draw:Ca P w K mg base CX0 2 "_law_draw" Ei Dg (DR K))
  (C_l_entry:Ca P w K mg base CX0 3 "_law_entry" MX KC (Pq K))(C_l_price:Ca P w K mg base CX0 3 "_law_price" JT Il (Mp K)):FnOk P w K mg base CX0 4 f fd KD (Pw K):=by
 refine F.oq scLDeeds λaj A ag s H vs Q E hr3 h=>?_
 obtain⟨a,ns,m,rfl,hS,hn,m1,m2,q⟩:=h
 have hr2:Room 2 _:=hr3.mono (by decide)
 have ak:sizeLine=16777216:=AL
 refine⟨_,(Af (Ay (i:=2) scLDeeds.nd (Aq C_l_words hr3 Ai (Aa (pv 0) (Aa Ac (Aa A0 Ab))))) (Af (Ay (i:=3) scLDeeds.nd (Cy Ab)) (Af (BW B4 rfl (F2 (by rfl) T.range (Aa (Aq C_l_draw hr2 Ai (Aa (pv 0) (Aa Ac (Aa Ac (Aa Ac Ab))))) Ab)) (Qr (i:=4) scLDeeds.nd rfl (Fm rfl)) (Af (HW (i:=5) (N:=["_law_world", "_law_script", "_law_many_here", "_law_k"]) (sc:=Ak JZ) (own:=["_law_world"]) (fr:=["_law_script", "_law_many_here", "_law_k"]) (js:=[0,1,4]) scLDeeds.nd rfl rfl B2 rfl (F2 (by rfl) T.range (Aa (pv 1) Ab)) (λ_ _ _ _=>AU (i:=0) (show List.Nodup (["_law_world", "_law_script", "_law_many_here", "_law_k"]:List Str) by decide +kernel)) (λ_ _ _ _=>Dd) (λ_ _ _ _=>(Aq C_l_entry hr3 Ai (Aa (pv 1) (Aa (Aw B6 (Aw B6 Ac (Aw DI (pv 2) (pv 3))) (pv 0)) (Aa (pv 2) Ab)))))) (Ah (BD (Dq Dx Dy DN Dr (pv 3) (Aa (Bd (Aa (As Dj (pv 2) (pv 4) (λ_ _=>rfl)) (Aa (Aq C_l_price hr3 Ai (Aa (pv 0) (Aa (Aw B6 Ac (pv 4)) Ab))) (Aa (pv 5) Ab)))) Ab)))))) (Ah (Ar (pv 3)))))),?_⟩
 refine⟨_,rfl,a,ns,_,_,rfl,hS,hn,by decide,by decide,by decide +kernel,by decide +kernel,λlw H1 s1 hlw e1=>?_⟩
 rw[oZ]at e1
 refine⟨Bk _,λl hl=>?_⟩
 obtain⟨H2,g0,s2,e2⟩:=Bu (H:=H1) (o:=.lst []) hl
 rw[g0]
 refine⟨_,rfl,a,ns,_,_,_,rfl,(s1.trans s2).seq hS,hn,by decide,by decide,by decide,by decide,λr r0 r1=>?_⟩
 refine⟨_,rfl,by lia,by lia,UG (n:=r.toNat) (λi σ H4=>∃(v4 v5:Option V) (us:List V) (ds:List Dee),σ = [some (.ref a),some (.int (m:Int)),some (.ref lw),some (.ref l),v4,v5]/\Same H1 H4/\H4 l=some (.lst us)/\DDs (rm H4 [l]) ns m us ds i) ⟨none,none,[],[],rfl,s2,e2,⟨A2.nil,rfl,rfl,(λ_ h=>by cases h),(λ_ h=>by cases h)⟩⟩ ?_ ?_⟩
 ·rintro i σ H4 hi ⟨v4,v5,us,ds,rfl,s4,e4,pt⟩;have hS4:=(s1.trans s4).seq hS;have hi3:i=0\/i=1\/i=2:=by lia
  have hmi:0<=(m:Int)*(0+(i:Int))/\(m:Int)*(0+(i:Int))<=600:=by rcases hi3 with z | z | z <;> subst z <;> constructor <;> lia
  refine⟨_,rfl,_,rfl,by lia,by lia,λD hD=>?_⟩;have xD:=AM e4 hD
  refine Cd (n:=m) (λj ys H6=>∃es:List (List Int),A2 (EnV (rm H6 [l,D])) ys es/\es.length=j/\(∀e∈es,e.Pairwise (· < ·))/\(∀e∈es,∀z∈e,0<=z/\z<(m:Int))/\(∀e∈es,e.length<=60)/\Same H4 H6/\H6 D=some (.lst ys))
   ⟨[],A2.nil,rfl,(λ_ h=>by cases h),(λ_ h=>by cases h),(λ_ h=>by cases h),Same.new hD,Ae⟩ (λi _ _ hi _=>by show i<_;rw[A1];exact hi) (λ_ _ _=>by show _<=m;rw[A1];exact Am _) ?_ ?_
  ·rintro j ys H6 v H7 hj ⟨es,ae,el,ep,ei,ef,s6,e6⟩ ⟨rfl,rfl⟩;refine CW ?_;refine⟨_,rfl,_,rfl,_,rfl,_,_,rfl,rfl,.inl ⟨by lia,by lia⟩,_,_,rfl,rfl,_,rfl,_,_,rfl,rfl,_,rfl,a,ns,_,_,rfl,s6.seq hS4,hn,by lia,by lia,by lia,by lia,λb e H7 s7 hb eb p1 p2 p3=>?_⟩;have hbn:b∉[l,D]:=by simp only[AK,Bw,Bv,Fk];exact⟨(AM (s6 _ _ e4) hb).symm,(AM e6 hb).symm⟩
   have hyl:=ae.len;refine⟨_,s7 _ _ e6,by lia,es++[e],?_,by rw[AR,el];rfl,λe' h=>?_,λe' h=>?_,λe' h=>?_,(s6.trans s7).put hD,Ae⟩
   ·rw[F0 (by simp)];exact A2.app (ae.mono λv t _ r=>r.same (E3 s7)) (A2.one ⟨b,rfl,by rw[Ej hbn];exact eb⟩)
   ·rcases(A5.mp h)with z | z
    ·exact ep _ z
    rw[AQ.mp z];exact p1
   ·rcases(A5.mp h)with z | z
    ·exact ei _ z
    rw[AQ.mp z];exact p2
   rcases(A5.mp h)with z | z
   ·exact ef _ z
   rw[AQ.mp z];lia
  rintro ys H6 ⟨es,ae,el,ep,ei,ef,s6,e6⟩;have hia:i<abcL.length:=by show i<3;lia
  have hat2:Ax ((abcL.map (A8 ns 2)).map V.str) (0+(i:Int))=some (.str (A8 ns 2 abcL[i])):=by rw[NY];exact Av (by rw[AV,AV,AC hia];rfl)
  have hlb:=Gs ns 2 (VH _ (CQ hia));have e46:=s6 _ _ e4;refine⟨_,rfl,.inl ⟨rfl,_,SqL.of e46⟩,_,rfl,_,rfl,lw,_,_,_,rfl,rfl,SqL.of ((s4.trans s6) _ _ e1),hat2,?_⟩;refine⟨_,rfl,_,rfl,_,_,rfl,rfl,a,ns,_,rfl,s6.seq hS4,hn,by lia,by lia,λpr pa pb=>⟨_,rfl,AW,λtp htp=>?_⟩⟩;have s8:Same H6 (upd H6 tp (.tup [.str (A8 ns 2 abcL[i]),.int pr,.ref D])):=Same.new htp;have e8:(upd H6 tp (.tup [.str (A8 ns 2 abcL[i]),.int pr,.ref D])) tp=some (.tup [.str (A8 ns 2 abcL[i]),.int pr,.ref D]):=Ae;have tx:=AM e46 htp;generalize (upd H6 tp (.tup [.str (A8 ns 2 abcL[i]),.int pr,.ref D]))=H8 at s8 e8 ⊢;have hul:=pt.hd.len;have hdl:=pt.dl;refine⟨l,_,_,rfl,rfl,s8 _ _ e46,by lia,?_⟩;refine⟨_,_,us++[.ref tp],ds++[⟨A8 ns 2 abcL[i],pr,es⟩],rfl,((s4.trans s6).trans s8).put hl,Ae,?_⟩;rw[F0 (by simp)];refine⟨?_,?_,by rw[AR,hdl];rfl,λz hz=>?_,λz hz=>?_⟩
  ·refine A2.app (pt.hd.mono λv t _ q'=>q'.same (E3 (s6.trans s8))) (A2.one ⟨D,ys,⟨tp,rfl,?_⟩,?_,ae.mono λv t _ q'=>q'.same ((E3 s8).trans (S9 (by simp)))⟩)
   ·rw[Ej (by simp only[AK,Bw,Bv];exact tx.symm)];exact e8
   rw[Ej (by simp only[AK,Bw,Bv];exact xD.symm)];exact s8 _ _ e6
  ·rw[SD hia,AX,AX,pt.nm];rfl
  ·rcases(A5.mp hz)with z' | z'
   ·exact pt.so _ z'
   rw[AQ.mp z'];exact⟨hlb.l1,hlb.l2,pa,pb⟩
  rcases(A5.mp hz)with z' | z'
  ·exact pt.de _ z'
  rw[AQ.mp z'];exact⟨el,ep,ei,ef⟩
 rintro σ H4 ⟨v4,v5,us,ds,rfl,s4,e4,pt⟩
 exact⟨_,rfl,q l us ds _ H4 (s1.trans s4) (s1.free hl) e4 (by lia) (pt.same HS)⟩
def Z6 (F:Fun K "_law_looks" "_law_looks" JU f fd)(T:Bl mg)(C_l_words:Ca P w K mg base CX0 3 "_law_words" FY GK (JF K))(C_l_draw:Ca P w K mg base CX0 2 "_law_draw" Ei Dg (DR K))
  (C_l_told:Ca P w K mg base CX0 3 "_law_told" MQ Kr (OY K))(C_l_price:Ca P w K mg base CX0 3 "_law_price" JT Il (Mp K)):FnOk P w K mg base CX0 4 f fd Ky (Pa K):=by
 refine F.oq scLLooks λaj A ag s H vs Q E hr3 h=>?_
 obtain⟨a,ns,m,rfl,hS,hn,m1,m2,q⟩:=h
 have hr2:Room 2 _:=hr3.mono (by decide)
 have ak:sizeLine=16777216:=AL
 refine⟨_,(Af (Ay (i:=2) scLLooks.nd (Aq C_l_words hr3 Ai (Aa (pv 0) (Aa Ac (Aa A0 Ab))))) (Af (Kb (i:=3) scLLooks.nd rfl (Fm rfl) (Aq C_l_words hr3 Ai (Aa (pv 0) (Aa Ac (Aa A0 Ab))))) (Af (Ay (i:=4) scLLooks.nd (Cy Ab)) (Af (BW B4 rfl (F2 (by rfl) T.range (Aa (Aq C_l_draw hr2 Ai (Aa (pv 0) (Aa Ac (Aa Ac (Aa Ac Ab))))) Ab)) (Qr (i:=5) scLLooks.nd rfl (Fm rfl)) (Af (HW (i:=6) (N:=["_law_world", "_law_script", "_law_answers", "_law_many_here", "_law_k"]) (sc:=Ak JU) (own:=["_law_world"]) (fr:=["_law_script", "_law_answers", "_law_many_here", "_law_k"]) (js:=[0,3,1,5]) scLLooks.nd rfl rfl B2 rfl (F2 (by rfl) T.range (Aa (pv 1) Ab)) (λ_ _ _ _=>AU (i:=0) (show List.Nodup (["_law_world", "_law_script", "_law_answers", "_law_many_here", "_law_k"]:List Str) by decide +kernel)) (λ_ _ _ _=>Dd) (λ_ _ _ _=>(Aq C_l_told hr3 Ai (Aa (pv 1) (Aa (Aw B6 (Aw B6 Ac (Aw DI (pv 3) (pv 4))) (pv 0)) (Aa (pv 2) Ab)))))) (Ah (BD (Dq Dx Dy DN Dr (pv 4) (Aa (Bd (Aa (As Dj (pv 2) (pv 5) (λ_ _=>rfl)) (Aa (Aq C_l_price hr3 Ai (Aa (pv 0) (Aa (Aw B6 Ac (pv 5)) Ab))) (Aa (pv 6) Ab)))) Ab)))))) (Ah (Ar (pv 4))))))),?_⟩
 refine⟨_,rfl,a,ns,_,_,rfl,hS,hn,by decide,by decide,by decide +kernel,by decide +kernel,λlw H0 s0 hlw e0=>?_⟩
 rw[nC]at e0
 refine⟨_,rfl,a,ns,_,_,rfl,s0.seq hS,hn,by decide,by decide,by decide +kernel,by decide +kernel,λla H1 s01 hla ea=>?_⟩
 rw[Y7]at ea
 have s1:=s0.trans s01
 have e1:=s01 _ _ e0
 refine⟨Bk _,λl hl=>?_⟩
 obtain⟨H2,g0,s2,e2⟩:=Bu (H:=H1) (o:=.lst []) hl
 rw[g0]
 refine⟨_,rfl,a,ns,_,_,_,rfl,(s1.trans s2).seq hS,hn,by decide,by decide,by decide,by decide,λr r0 r1=>?_⟩
 refine⟨_,rfl,by lia,by lia,UG (n:=r.toNat) (λi σ H4=>∃(v4 v5:Option V) (us:List V) (ls:List Loo),σ = [some (.ref a),some (.int (m:Int)),some (.ref lw),some (.ref la),some (.ref l),v4,v5]/\Same H1 H4/\H4 l=some (.lst us)/\LLs (rm H4 [l]) ns m us ls i) ⟨none,none,[],[],rfl,s2,e2,⟨A2.nil,rfl,rfl,(λ_ h=>by cases h),(λ_ h=>by cases h),(λ_ h=>by cases h)⟩⟩ ?_ ?_⟩
 ·rintro i σ H4 hi ⟨v4,v5,us,ls,rfl,s4,e4,pt⟩;have hS4:=(s1.trans s4).seq hS;have hi3:i=0\/i=1:=by lia
  have hmi:0<=(m:Int)*(0+(i:Int))/\(m:Int)*(0+(i:Int))<=600:=by rcases hi3 with z | z <;> subst z <;> constructor <;> lia
  refine⟨_,rfl,_,rfl,by lia,by lia,λD hD=>?_⟩;have xD:=AM e4 hD
  refine Cd (n:=m) (λj ys H7=>∃os:List (Option Str),ys=os.map oS/\os.length=j/\(∀s,some s∈os->s∈pqrL.map (A8 ns 3))/\Same H4 H7/\H7 D=some (.lst ys))
   ⟨[],rfl,rfl,(λ_ h=>by cases h),Same.new hD,Ae⟩ (λi _ _ hi _=>by show i<_;rw[A1];exact hi) (λ_ _ _=>by show _<=m;rw[A1];exact Am _) ?_ ?_
  ·rintro j ys H7 v H8 hj ⟨os,rfl,ol,oa,s7,e7⟩ ⟨rfl,rfl⟩;refine CW ?_;refine⟨_,rfl,_,rfl,_,rfl,_,_,rfl,rfl,.inl ⟨by lia,by lia⟩,_,_,rfl,rfl,_,rfl,_,_,rfl,rfl,_,rfl,a,ns,_,la,_,rfl,s7.seq hS4,hn,by lia,by lia,(s4.trans s7) _ _ ea,rfl,λo ho=>?_⟩;refine⟨_,e7,by rw[Al];lia,os++[o],by rw[AX];rfl,by rw[AR,ol];rfl,λs h=>?_,s7.put hD,Ae⟩;rcases(A5.mp h)with z | z
   ·exact oa _ z
   exact ho _ (AQ.mp z).symm
  rintro ys H6 ⟨os,rfl,ol,oa,s6,e6⟩;have hia:i<deL.length:=by show i<2;lia
  have hat2:Ax ((deL.map (A8 ns 2)).map V.str) (0+(i:Int))=some (.str (A8 ns 2 deL[i])):=by rw[NY];exact Av (by rw[AV,AV,AC hia];rfl)
  have hlb:=Gs ns 2 (Vb _ (CQ hia));have e46:=s6 _ _ e4;refine⟨_,rfl,.inl ⟨rfl,_,SqL.of e46⟩,_,rfl,_,rfl,lw,_,_,_,rfl,rfl,SqL.of ((s4.trans s6) _ _ e1),hat2,?_⟩;refine⟨_,rfl,_,rfl,_,_,rfl,rfl,a,ns,_,rfl,s6.seq hS4,hn,by lia,by lia,λpr pa pb=>⟨_,rfl,AW,λtp htp=>?_⟩⟩;have s8:Same H6 (upd H6 tp (.tup [.str (A8 ns 2 deL[i]),.int pr,.ref D])):=Same.new htp;have e8:(upd H6 tp (.tup [.str (A8 ns 2 deL[i]),.int pr,.ref D])) tp=some (.tup [.str (A8 ns 2 deL[i]),.int pr,.ref D]):=Ae;have tx:=AM e46 htp;generalize (upd H6 tp (.tup [.str (A8 ns 2 deL[i]),.int pr,.ref D]))=H8 at s8 e8 ⊢;have hul:=pt.hl.len;have hdl:=pt.ll;refine⟨l,_,_,rfl,rfl,s8 _ _ e46,by lia,?_⟩;refine⟨_,_,us++[.ref tp],ls++[⟨A8 ns 2 deL[i],pr,os⟩],rfl,((s4.trans s6).trans s8).put hl,Ae,?_⟩;rw[F0 (by simp)];refine⟨?_,?_,by rw[AR,hdl];rfl,λz hz=>?_,λz hz=>?_,λz hz=>?_⟩
  ·refine A2.app (pt.hl.mono λv t _ q'=>q'.same (E3 (s6.trans s8))) (A2.one ⟨D,⟨tp,rfl,?_⟩,?_⟩)
   ·rw[Ej (by simp only[AK,Bw,Bv];exact tx.symm)];exact e8
   rw[Ej (by simp only[AK,Bw,Bv];exact xD.symm)];exact s8 _ _ e6
  ·rw[SD hia,AX,AX,pt.nm];rfl
  ·rcases(A5.mp hz)with z' | z'
   ·exact pt.sl _ z'
   rw[AQ.mp z'];exact⟨hlb.l1,hlb.l2,pa,pb⟩
  ·rcases(A5.mp hz)with z' | z'
   ·exact pt.lo _ z'
   rw[AQ.mp z'];exact ol
  rcases(A5.mp hz)with z' | z'
  ·exact pt.an _ z'
  rw[AQ.mp z'];exact oa
 rintro σ H4 ⟨v4,v5,us,ls,rfl,s4,e4,pt⟩
 exact⟨_,rfl,q l us ls _ H4 (s1.trans s4) (s1.free hl) e4 (by lia) (pt.same HS)⟩
def SW:Sp:=λvs H Q _=>(∃(b:Addr) (e:List Int),vs=[.ref b]/\H b=some (.lst (e.map V.int))/\∀l:Addr,H l=none->Q (.ref l) (upd H l (.lst (e.map V.int))))\/(∃o:Option Str,vs=[oS o]/\Q (oS o) H)
inductive Px (vs:List V)(H:Hp)(Q:VK)(E0_:XK):Prop
 | mk (a:Addr) (us:List V) (c0:vs=[.ref a]) (c1:H a=some (.lst us)) (c2:us.length<=40) (c3:((∃ds:List Dee,A2 (DeV H) us ds/\(∀d∈ds,d.tab.length<=200)/\∀(l:Addr) (vs':List V) (H':Hp),Same H H'->H l=none->H' l=some (.lst vs')->A2 (DeV H') vs' ds->Q (.ref l) H') \/    (∃ls:List Loo,A2 (LoV H) us ls/\(∀d∈ls,d.tab.length<=200)/\∀(l:Addr) (vs':List V) (H':Hp),Same H H'->H l=none->H' l=some (.lst vs')->A2 (LoV H') vs' ls->Q (.ref l) H'))):Px  vs H Q E0_
abbrev KB:List Str:=["_law_one"]
abbrev eV:List Str:=KB
def X7:Au eV KB (Ak MW):=AA
abbrev KE:List Str:=["_law_steps"]
abbrev fM:List Str:=KE
def X8:Au fM KE (Ak J0):=AA
def aO (F:Fun K "_law_held" "_law_held" MW f fd)(T:Bl mg):FnOk P w K mg base CX0 1 f fd KB SW:=by
 refine F.ok X7 (λvs H Q E h=>?_) (λaj A ag s H vs Q E hr h=>?_)
 ·rcases h with⟨b,e,rfl,_⟩ | ⟨o,rfl,_⟩ <;> rfl
 rcases h with⟨b,e,rfl,hb,q⟩ | ⟨o,rfl,q⟩
 ·refine⟨_,(Af (AH (Cn (Bf Vs (by rfl) T.isi Eo (Aa (pv 0) (Aa (Ia (v:=.ty "list") (by rfl) T.list EO rfl) Ab)))) (Ah (Ar (Cb Gh (by rfl) T.list EO (Aa (pv 0) Ab)))) AD)
  (Ah (Ar (pv 0)))),?_⟩
  refine⟨_,rfl,.inl ⟨b,_,rfl,hb,_,rfl,?_⟩⟩;refine BH ?_;exact⟨_,rfl,b,_,rfl,.inl (SqL.of hb),q⟩
 refine⟨_,(Af (AH (Cn (Bf Vs (by rfl) T.isi Eo (Aa (pv 0) (Aa (Ia (v:=.ty "list") (by rfl) T.list EO rfl) Ab)))) (Ah (Ar (Cb Gh (by rfl) T.list EO (Aa (pv 0) Ab)))) AD)
 (Ah (Ar (pv 0)))),?_⟩
 cases o with
 | none=>refine⟨_,rfl,.inr (.inr ⟨rfl,_,rfl,?_⟩)⟩;refine A4 ?_;exact⟨_,rfl,q⟩
 | some z=>refine⟨_,rfl,.inr (.inl ⟨z,rfl,_,rfl,?_⟩)⟩;refine A4 ?_;exact⟨_,rfl,q⟩
def bK (F:Fun K "_law_copied" "_law_copied" J0 f fd)(C_l_held:Ca P w K mg base CX0 1 "_law_held" MW KB SW):FnOk P w K mg base CX0 2 f fd KE Px:=by
 refine F.oq X8 λaj A ag s H vs Q E hr1 h=>?_;obtain⟨a,us,rfl,ha,ul,h⟩:=h;have ak:sizeLine=16777216:=AL;refine⟨_,(Ah (Ar (CK (N:=["_law_step"]) (sc:=Ak J0) (own:=["_law_step"]) (fr:=[]) (js:=[]) B2 rfl (BG (pv 0)) (λ_ _ _ _=>AU (i:=0) (show List.Nodup (["_law_step"]:List Str) by decide +kernel)) (λ_ _ _ _=>Dd) (λ_ _ _ _=>(Bd (Aa (As (El K rfl) (pv 0) Ac (λ_ _=>rfl)) (Aa (As (El K rfl) (pv 0) Ac (λ_ _=>rfl)) (Aa (CK (N:=["_law_one"]) (sc:=_) (own:=["_law_one"]) (fr:=[]) (js:=[]) ⟨rfl,rfl,rfl,rfl,by decide +kernel,iY (by decide +kernel),by decide +kernel,rfl,λ_ h=>by cases h⟩ rfl (Ze K rfl (As (El K rfl) (pv 0) Ac (λ_ _=>rfl))) (λ_ _ _ _=>AU (i:=0) (show List.Nodup (["_law_one"]:List Str) by decide +kernel)) (λ_ _ _ _=>Dd) (λ_ _ _ _=>(Aq C_l_held hr1 Ai (Aa (pv 0) Ab)))) Ab)))))))),?_⟩;have at0:∀(n:Str) (p:Int) (t:Addr),Ax [V.str n,V.int p,V.ref t] ((0:Nat):Int)=some (.str n):=λn p t=>Av rfl;have at1:∀(n:Str) (p:Int) (t:Addr),Ax [V.str n,V.int p,V.ref t] ((1:Nat):Int)=some (.int p):=λn p t=>Av rfl;have at2:∀(n:Str) (p:Int) (t:Addr),Ax [V.str n,V.int p,V.ref t] ((2:Nat):Int)=some (.ref t):=λn p t=>Av rfl;refine⟨_,rfl,a,rfl,⟨_,SqL.of ha⟩,λD hD=>?_⟩;rcases h with⟨ds,hd,dt,q⟩ | ⟨ls,hd,dt,q⟩
 ·have hul:=hd.len
  refine Cd (n:=us.length) (λi ys H3=>A2 (DeV (rm H3 [D])) ys (ds.take i)/\ys.length=i/\Same H H3/\H3 D=some (.lst ys)) ⟨by simp;exact A2.nil,rfl,Same.new hD,Ae⟩
   (λi ys H3 hi ⟨_,_,s3,_⟩=>⟨_,us[i],SqL.of (s3 _ _ ha),AC hi⟩) (λys H3 hh0=>by obtain⟨_,_,s3,_⟩:=hh0;exact⟨_,SqL.of (s3 _ _ ha),Am _⟩) ?_ ?_
  ·rintro i ys H3 v H4 hi ⟨ah,hyl,s3,e3⟩ ⟨rfl,hy⟩;obtain⟨de,hde,hmem,t',es,⟨ta,rfl,et⟩,ht,he⟩:=hd.at (hy _ (SqL.of (s3 _ _ ha)));have et3:=s3 _ _ et;refine CW ?_;refine⟨_,rfl,ta,_,_,_,rfl,rfl,SqT.of et3,at0 _ _ _,_,rfl,ta,_,_,_,rfl,rfl,SqT.of et3,at1 _ _ _,_,rfl,ta,_,_,_,rfl,rfl,SqT.of et3,at2 _ _ _,t',rfl,⟨_,SqL.of (s3 _ _ ht)⟩,λE1 hE1=>?_⟩;have DE:D≠E1:=AM e3 hE1;have hel:=he.len;have hdl:=dt de hmem
   refine Cd (n:=es.length) (λj zs H5=>A2 (EnV (rm H5 [E1,D])) zs (de.tab.take j)/\zs.length=j/\Same H4 H5/\H5 E1=some (.lst zs)) ⟨by simp;exact A2.nil,rfl,Same.new hE1,Ae⟩
    (λj zs H5 hj ⟨_,_,s5,_⟩=>⟨_,es[j],SqL.of ((s3.trans s5) _ _ ht),AC hj⟩) (λzs H5 hh0=>by obtain⟨_,_,s5,_⟩:=hh0;exact⟨_,SqL.of ((s3.trans s5) _ _ ht),Am _⟩) ?_ ?_
   ·rintro j zs H5 v H6 hj ⟨az,hzl,s5,e5⟩ ⟨rfl,hy'⟩;obtain⟨en,hen,henm,eb,rfl,heb⟩:=he.at (hy' _ (SqL.of ((s3.trans s5) _ _ ht)));refine CW ?_;refine⟨_,rfl,.inl ⟨eb,en,rfl,(s3.trans s5) _ _ heb,λnb' hnb=>?_⟩⟩;have s6:Same H6 (upd H6 nb' (.lst (en.map V.int))):=Same.new hnb;have e6:(upd H6 nb' (.lst (en.map V.int))) nb'=some (.lst (en.map V.int)):=Ae;have nE:=AM e5 hnb;have nD:=AM (s5 _ _ e3) hnb;generalize (upd H6 nb' (.lst (en.map V.int)))=H7 at s6 e6 ⊢;refine⟨_,s6 _ _ e5,by lia,?_,by rw[AR,hzl];rfl,(s5.trans s6).put hE1,Ae⟩;rw[F0 (by simp),Hb,hen];exact A2.app (az.mono λv t _ r=>r.same (E3 s6)) (A2.one ⟨nb',rfl,by rw[Ej (by simp only[AK,Bw,Bv,Fk];exact⟨nE.symm,nD.symm⟩)];exact e6⟩)
   rintro zs H5 ⟨az,hzl,s5,e5⟩;rw[hel,Bq]at az;refine⟨AW,λtp htp=>?_⟩;have s6:Same H5 (upd H5 tp (.tup [.str de.name,.int de.price,.ref E1])):=Same.new htp;have e6:(upd H5 tp (.tup [.str de.name,.int de.price,.ref E1])) tp=some (.tup [.str de.name,.int de.price,.ref E1]):=Ae;have tD:=AM (s5 _ _ e3) htp;generalize (upd H5 tp (.tup [.str de.name,.int de.price,.ref E1]))=H6 at s6 e6 ⊢;refine⟨_,s6 _ _ (s5 _ _ e3),by lia,?_,by rw[AR,hyl];rfl,((s3.trans s5).trans s6).put hD,Ae⟩;rw[F0 (by simp),Hb,hde];refine A2.app (ah.mono λv t _ r=>r.same (E3 (s5.trans s6))) (A2.one ⟨E1,zs,⟨tp,rfl,?_⟩,?_,az.mono λv t _ r=>r.same ((E3 s6).trans (S9 (by simp)))⟩)
   ·rw[Ej (by simp only[AK,Bw,Bv];exact tD.symm)];exact e6
   rw[Ej (by simp only[AK,Bw,Bv];exact DE.symm)];exact s6 _ _ e5
  rintro ys H3 ⟨ah,hyl,s3,e3⟩;rw[hul,Bq]at ah;exact q D ys H3 s3 hD e3 (ah.mono λv t _ r=>r.same HS)
 have hul:=hd.len
 refine Cd (n:=us.length) (λi ys H3=>A2 (LoV (rm H3 [D])) ys (ls.take i)/\ys.length=i/\Same H H3/\H3 D=some (.lst ys)) ⟨by simp;exact A2.nil,rfl,Same.new hD,Ae⟩
  (λi ys H3 hi ⟨_,_,s3,_⟩=>⟨_,us[i],SqL.of (s3 _ _ ha),AC hi⟩) (λys H3 hh0=>by obtain⟨_,_,s3,_⟩:=hh0;exact⟨_,SqL.of (s3 _ _ ha),Am _⟩) ?_ ?_
 ·rintro i ys H3 v H4 hi ⟨ah,hyl,s3,e3⟩ ⟨rfl,hy⟩;obtain⟨de,hde,hmem,t',⟨ta,rfl,et⟩,ht⟩:=hd.at (hy _ (SqL.of (s3 _ _ ha)));have et3:=s3 _ _ et;refine CW ?_;refine⟨_,rfl,ta,_,_,_,rfl,rfl,SqT.of et3,at0 _ _ _,_,rfl,ta,_,_,_,rfl,rfl,SqT.of et3,at1 _ _ _,_,rfl,ta,_,_,_,rfl,rfl,SqT.of et3,at2 _ _ _,t',rfl,⟨_,SqL.of (s3 _ _ ht)⟩,λE1 hE1=>?_⟩;have DE:D≠E1:=AM e3 hE1;have hdl:=dt de hmem;have htl:(de.tab.map oS).length=de.tab.length:=Al ..
  refine Cd (n:=de.tab.length) (λj zs H5=>zs=(de.tab.take j).map oS/\Same H4 H5/\H5 E1=some (.lst zs)) ⟨by simp,Same.new hE1,Ae⟩
   (λj zs H5 hj ⟨_,s5,_⟩=>⟨_,oS de.tab[j],SqL.of ((s3.trans s5) _ _ ht),by rw[AV,AC hj];rfl⟩) (λzs H5 hh0=>by obtain⟨_,s5,_⟩:=hh0;exact⟨_,SqL.of ((s3.trans s5) _ _ ht),by rw[htl];exact Am _⟩) ?_ ?_
  ·rintro j zs H5 v H6 hj ⟨rfl,s5,e5⟩ ⟨rfl,hy'⟩;have hv:v=oS de.tab[j]:=by have:=hy' _ (SqL.of ((s3.trans s5) _ _ ht));rw[AV,AC hj]at this;(exact(BS this).symm)
   subst hv;refine CW ?_;refine⟨_,rfl,.inr ⟨de.tab[j],rfl,?_⟩⟩;refine⟨_,e5,by rw[Al,BO];lia,?_,s5.put hE1,Ae⟩;rw[Hb,AC hj,AX];rfl
  rintro zs H5 ⟨rfl,s5,e5⟩;rw[Bq]at e5;refine⟨AW,λtp htp=>?_⟩;have s6:Same H5 (upd H5 tp (.tup [.str de.name,.int de.price,.ref E1])):=Same.new htp;have e6:(upd H5 tp (.tup [.str de.name,.int de.price,.ref E1])) tp=some (.tup [.str de.name,.int de.price,.ref E1]):=Ae;have tD:=AM (s5 _ _ e3) htp;generalize (upd H5 tp (.tup [.str de.name,.int de.price,.ref E1]))=H6 at s6 e6 ⊢;refine⟨_,s6 _ _ (s5 _ _ e3),by lia,?_,by rw[AR,hyl];rfl,((s3.trans s5).trans s6).put hD,Ae⟩;rw[F0 (by simp),Hb,hde];refine A2.app (ah.mono λv t _ r=>r.same (E3 (s5.trans s6))) (A2.one ⟨E1,⟨tp,rfl,?_⟩,?_⟩)
  ·rw[Ej (by simp only[AK,Bw,Bv];exact tD.symm)];exact e6
  rw[Ej (by simp only[AK,Bw,Bv];exact DE.symm)];exact s6 _ _ e5
 rintro ys H3 ⟨ah,hyl,s3,e3⟩;rw[hul,Bq]at ah;exact q D ys H3 s3 hD e3 (ah.mono λv t _ r=>r.same HS)
inductive Ev where
 | did (d:Dee) | saw (l:Loo) (z:Str) | fd (d:Dee) | fl (l:Loo)
def P1 (P:Nat->Bool)(w:Int):List Int:=if P w.toNat=true then [w]else []
def FE:Ev->Int->List Int
 | .did d,w=>d.tab.getD w.toNat []
 | .saw l z,w=>P1 (λi=>decide (l.tab[i]? = some (some z))) w
 | .fd d,w=>P1 (λi=>decide (d.tab[i]? = some [])) w
 | .fl l,w=>P1 (λi=>decide (l.tab[i]? = some none)) w
def Fc (e:Ev)(s:Nat):Nat:=bt ((wl s).flatMap (FE e))
inductive JA (ds:List Dee)(ls:List Loo):Ev->Prop
 | did (d:Dee) (h:d∈ds):JA ds ls (.did d)
 | saw (l:Loo) (z:Str) (h:l∈ls):JA ds ls (.saw l z)
 | fd (d:Dee) (h:d∈ds):JA ds ls (.fd d)
 | fl (l:Loo) (h:l∈ls):JA ds ls (.fl l)
def Eh {s m:Nat}(h:s<2^m){w:Int}(hw:w∈wl s):0<=w/\w<(m:Int):=by
 obtain⟨h0,hb⟩:=wl_mem.mp hw;refine⟨h0,?_⟩;rcases Gj w.toNat m with z | z
 ·lia
 have:s<2^w.toNat:=BJ h (Gp (by decide) z);rw[Oh this]at hb;cases hb
def IJ (tab:List (Option Str))(z:Str)(i:Nat):(bt (Bi tab z)).testBit i=decide (tab[i]? = some (some z)):=by
 rw[Ep,CT,DK,CI];unfold Bi;constructor
 ·rintro⟨n,hn,e⟩;obtain⟨j,hj,rfl⟩:=AE.mp hn;have e2:j=i:=by simpa using e
  rw[<- e2];exact BF (C4.mp hj).2
 intro h;have hl:=(AN.mp h).1;exact⟨(i:Int),AE.mpr ⟨i,C4.mpr ⟨DO.mpr hl,Bb h⟩,rfl⟩,by simp⟩
def NM {α:Type}(p:α->Bool)(tab:List α)(i:Nat):(bt (BN p tab)).testBit i=(tab[i]?.map p).getD false:=by
 rw[Ep,CT,DK];unfold BN;constructor
 ·rintro⟨n,hn,e⟩;obtain⟨j,hj,rfl⟩:=AE.mp hn;have e2:j=i:=by simpa using e
  rw[<- e2];exact(C4.mp hj).2
 intro h
 have hl:i<tab.length:=by
  rcases Gj i tab.length with z | z
  ·exact z
  rw[Gq z]at h;cases h
 exact⟨(i:Int),AE.mpr ⟨i,C4.mpr ⟨DO.mpr hl,h⟩,rfl⟩,by simp⟩
def Vu (s:Nat):bt (wl s)=s:=by
 refine Ee λi=>?_;rw[Ep,CT,DK];constructor
 ·rintro⟨n,hn,e⟩;have e2:n.toNat=i:=by simpa using e
  rw[<- e2];exact(wl_mem.mp hn).2
 intro h;exact⟨(i:Int),wl_mem.mpr ⟨by lia,by rw[A1];exact h⟩,by simp⟩
def Sg (h:s<2^200):Wd (wl s):=λn hn=>by have:=Eh h hn;lia
def K0 {s t:Nat}(hs:s<2^200)(ht:t<2^200):∃r:Nat,Builtin.bitXor (s:Int) (Builtin.bitAnd (s:Int) (t:Int))=(r:Int)/\∀i,r.testBit i=(s.testBit i && !t.testBit i):=by
 have e:=Zv (Sg hs) (Sg ht);rw[Vu,Vu]at e;refine⟨_,e,λi=>?_⟩;rw[Ep,CT,DK,B8,Jg];constructor
 ·rintro⟨n,hn,e⟩;have e2:n.toNat=i:=by simpa using e
  obtain⟨h1,h2⟩:=C4.mp hn;obtain⟨h0,hb⟩:=wl_mem.mp h1;rw[<- e2];refine⟨hb,?_⟩;cases z:t.testBit n.toNat with
  | false=>rfl
  | true=>have:n∈wl t:=wl_mem.mpr ⟨h0,z⟩;rw[Bb this]at h2;cases h2
 rintro⟨h1,h2⟩;refine⟨(i:Int),C4.mpr ⟨wl_mem.mpr ⟨by lia,by rw[A1];exact h1⟩,?_⟩,by simp⟩;rw[Cg λz=>?_]
 ·rfl
 have:=(wl_mem.mp z).2;rw[A1,h2]at this;cases this
def oP (a b:List Int):bt (a++b)=bt a|||bt b:=by refine Ee λi=>?_;rw[Ep,List.any_append,Jd,Ep,Ep]
def iV {m:Nat}{ds:List Dee}{ls:List Loo}(m2:m<=200)(hd:∀d∈ds,DeOk m d){e:Ev}(he:JA ds ls e){w:Int}(w0:0<=w)(w1:w<(m:Int)):∀x∈FE e w,0<=x/\x<(m:Int):=by
 have one:∀P:Nat->Bool,∀x∈P1 P w,0<=x/\x<(m:Int):=λP x hx=>by
  unfold P1 at hx;split at hx
  ·rw[AQ.mp hx];exact⟨w0,w1⟩
  cases hx
 cases he with
 | did d h=>
  intro x hx;have hx':x∈d.tab.getD w.toNat []:=hx;rw[CJ]at hx';cases e:d.tab[w.toNat]? with
  | none=>rw[e]at hx';cases hx'
  | some en=>rw[e]at hx';exact(hd d h).inn en (Bt e) x hx'
 | saw l z h=>exact one λi=>decide (l.tab[i]? = some (some z))
 | fd d h=>exact one λi=>decide (d.tab[i]? = some [])
 | fl l h=>exact one λi=>decide (l.tab[i]? = some none)
def Lh (m2:m<=200)(hd:∀d∈ds,DeOk m d) (he:JA ds ls e) (hs:s<2^m):Fc e s<2^m:=by refine Jr _ λi hi=>?_;unfold Fc;rw[Ep];refine Hg.mpr λn hn=>?_;obtain⟨w,hw,hx⟩:=List.mem_flatMap.mp hn;have h1:=Eh hs hw;have:=iV m2 hd he h1.1 h1.2 n hx;simp;lia
def DX (h:s<2^m)(m2:m<=200):s<2^200:=BJ h (Gp (by decide) m2)
inductive Pd (vs:List V)(H:Hp)(Q:VK)(E0_:XK):Prop
 | mk (t:Addr) (s m:Nat) (d:Dee) (c0:vs=[.ref t,.int (s:Int)]) (c1:H t=some (.tup (d.tab.map λn=>V.int (bt n:Nat)))) (c2:d.tab.length=m) (c3:m<=200) (c4:s<2^m) (c5:∀H':Hp,Same H H'->Q (.int (Fc (.did d) s:Nat)) H'):Pd  vs H Q E0_
inductive Mu (C NN:Addr)(vs:List V)(H:Hp)(Q:VK)(E:XK):Prop
 | mk (x:Addr) (m:Nat) (ds:List Dee) (ls:List Loo) (n:Str) (c0:vs=[.ref x,.str n]) (c1:ChAt C H x m ds ls) (c2:(ds.map Dee.name++ls.map Loo.name).Nodup) (c3:((n∉ds.map Dee.name++ls.map Loo.name/\Rp n/\EV H E NN)\/∃s∈EM ds ls,s.1=n/\Q (.int (s.2:Int)) H)):Mu C NN vs H Q E
inductive Mz (C NN:Addr)(vs:List V)(H:Hp)(Q:VK)(E:XK):Prop
 | mk (x:Addr) (m:Nat) (ds:List Dee) (ls:List Loo) (n:Str) (c0:vs=[.ref x,.str n]) (c1:ChAt C H x m ds ls) (c2:(ds.map Dee.name++ls.map Loo.name).Nodup) (c3:((n∉ls.map Loo.name/\Rp n/\EV H E NN)\/∃l∈ls,l.name=n/\∀v,PaV H v l->Q v H)):Mz C NN vs H Q E
abbrev Kl:List Str:=["outs", "some"]
abbrev dF:List Str:=Be Kl ["made", "world"]
def scLedTo:Au dF Kl (Ak MJ):=AA
abbrev Iv:List Str:=["self", "name"]
abbrev fZ:List Str:=Iv
def Yg:Au fZ Iv (Ak P5):=AA
abbrev ID:List Str:=["self", "name"]
abbrev gY:List Str:=ID
def Yu:Au gY ID (Ak Qc):=AA
def mB :(f6 m p o a q d).lookup ("told_doable" : Str)=some (.ref d):=by unfold f6;rw[Bh,AB rfl]
def lZ :(f6 m p o a q d).lookup ("told_parts" : Str)=some (.ref q):=by unfold f6 f5;rw[Bh,Ao (by decide +kernel),Bh,AB rfl]
def U1 (ds:List Dee)(ls:List Loo):(EM ds ls).map (λs=>s.1)=ds.map Dee.name++ls.map Loo.name:=by unfold EM;rw[AX,BC,BC];rfl
def aB (F:Fun K "led_to" "led_to" MJ f fd)(C_worlds_of:Ca P w K mg base CX0 1 "worlds_of" Hw Ic EX):FnOk P w K mg base CX0 2 f fd Kl Pd:=by
 refine F.oq scLedTo λaj A ag s H vs Q E hr1 h=>?_;obtain⟨t,s,m,d,rfl,ht,dl,m2,hs,q⟩:=h;refine⟨_,(Af (Ay (i:=2) scLedTo.nd Ac) (Af (BW B4 rfl (BG (Aq C_worlds_of hr1 Ai (Aa (pv 1) Ab))) (AU (i:=3) scLedTo.nd) (Ah (Ay (i:=2) scLedTo.nd (Aw F4 (pv 2) (As AJ (pv 0) (pv 3) (λ_ _=>rfl)))))) (Ah (Ar (pv 2))))),?_⟩;refine⟨_,rfl,s,rfl,DX hs m2,λl H1 s1 hl e1=>⟨l,rfl,⟨_,SqL.of e1⟩,?_⟩⟩;have hl1:((wl s).map V.int).length=(wl s).length:=Al ..
 refine C1 (K:=K) (a:=l) (xs:=(wl s).map V.int) (λi σ H2=>∃(v3:Option V),σ = [some (.ref t),some (.int (s:Int)),some (.int ((bt (((wl s).take i).flatMap (FE (.did d))):Nat):Int)),v3]/\H2=H1)
  ⟨none,rfl,rfl⟩ (λi σ H2 _ hh0=>by obtain⟨_,_,z⟩:=hh0;rw[z];exact SqL.of e1) ?_ ?_
 ·rintro i v σ H2 hv ⟨v3,rfl,rfl⟩;have hi:i<(wl s).length:=by have:=(AN.mp hv).1;lia
  have hw:(wl s)[i]? = some (wl s)[i]:=AC hi;have hv':v=.int (wl s)[i]:=by rw[AV,hw]at hv;exact(BS hv).symm
  subst hv';obtain⟨w0,w1⟩:=Eh hs (CQ hi);have htk:(wl s).take (i+1)=(wl s).take i++[(wl s)[i]]:=BK hi;generalize (wl s)[i]=wv at hw w0 w1 htk;obtain⟨j,rfl⟩:∃j:Nat,(j:Int)=wv:=⟨wv.toNat,Ew w0⟩;have hj:j<d.tab.length:=by lia
  have hat:Ax (d.tab.map λn=>V.int (bt n:Nat)) (j:Int)=some (.int (bt d.tab[j]:Nat)):=Av (by rw[AV,AC hj];rfl);refine⟨_,rfl,_,rfl,_,rfl,t,_,_,_,rfl,rfl,SqT.of (s1 _ _ ht),hat,_,_,rfl,rfl,some (.int (j:Int)),?_,rfl⟩;have hld:FE (.did d) (j:Int)=d.tab[j]:=by show d.tab.getD ((j:Int)).toNat []=_;rw[A1,CJ,AC hj];rfl
  rw[htk,On,oP,<- E7];simp only[Rl,Rg,BR,hld];rfl
 rintro σ H2 ⟨v3,rfl,rfl⟩;rw[hl1,Bq];exact⟨_,rfl,q H2 s1⟩
def ZF (F:Fun K "without" "without" MA f fd):FnOk P w K mg base CX0 1 f fd Kf O7:=by refine F.oq XQ λaj A ag s H vs Q E hr h=>?_;obtain⟨i,j,rfl,q⟩:=h;refine⟨_,(Ah (Ar (Aw Zw (pv 0) (Aw F5 (pv 0) (pv 1))))),?_⟩;exact⟨_,rfl,_,rfl,_,rfl,_,_,rfl,rfl,_,_,rfl,rfl,q⟩
def bF (F:Fun K "doable" "Chart.doable" P5 f fd)(L:Cl K C)(R':Er K mg G NN)(b_check_step:Binds K d_check_step ["self", "name"] [])(m_check_step:B9 K C "check_step" f1')(G_check_step:FnOk P w K mg base (CXe P w) 1 f1' d_check_step KN (PB C NN)):FnOk P w K mg base (CXe P w) 2 f fd Iv (Mu C NN):=by
 refine F.oqE Yg λaj A ag s H vs Q E hr1 h=>?_;obtain⟨x,m,ds,ls,n,rfl,R,nd,q⟩:=h;have hu:=Em hr1;have R0:=R;obtain⟨dx,p,o,a,q',d,kp,ko,ka,kq,kd,o1,o2,h1,h2,h3,h4,h5,h6,k1,k2,k3,k4,k5⟩:=R.ex;refine⟨_,(Af (BD (EG (pv 0) L.cl m_check_step G_check_step hr1 b_check_step .nil Ib (Aa (pv 1) Ab))) (Ah (Ar (Qx hu (Co (pv 0) rfl) (pv 1) (λ_ _=>rfl))))),?_⟩;refine⟨_,rfl,x,dx,_,rfl,h1,EK (by decide +kernel),_,rfl,x,m,ds,ls,n,rfl,R0,nd,?_⟩;rcases q with⟨hn,rp,q⟩ | ⟨sp,hsm,rfl,q⟩
 ·exact .inl ⟨hn,rp,q⟩
 refine .inr ⟨by rw[<- U1];exact AE.mpr ⟨sp,hsm,rfl⟩,?_⟩;obtain⟨v,hv,rfl⟩:=k5.val (by rw[U1];exact nd) hsm;have dg:DGet H d (.str sp.1) (some (.int (sp.2:Int))):=.inl ⟨kd,(Sum.inr sp.1:Ag),.inl h6,rfl,hv.symm⟩;exact⟨_,rfl,x,C,dx,_,_,rfl,h1,L.cl,L.n6,mB,_,rfl,d,_,rfl,dg,q⟩
def cE (F:Fun K "answer_sets" "Chart.answer_sets" Qc f fd)(L:Cl K C)(R':Er K mg G NN)(b_check_look:Binds K d_check_look ["self", "name"] [])(m_check_look:B9 K C "check_look" f1')(G_check_look:FnOk P w K mg base (CXe P w) 1 f1' d_check_look IA (Mw C NN)):FnOk P w K mg base (CXe P w) 2 f fd ID (Mz C NN):=by
 refine F.oqE Yu λaj A ag s H vs Q E hr1 h=>?_;obtain⟨x,m,ds,ls,n,rfl,R,nd,q⟩:=h;have hu:=Em hr1;have R0:=R;obtain⟨dx,p,o,a,q',d,kp,ko,ka,kq,kd,o1,o2,h1,h2,h3,h4,h5,h6,k1,k2,k3,k4,k5⟩:=R.ex;refine⟨_,(Af (BD (EG (pv 0) L.cl m_check_look G_check_look hr1 b_check_look .nil Ib (Aa (pv 1) Ab))) (Ah (Ar (Qx hu (Co (pv 0) rfl) (pv 1) (λ_ _=>rfl))))),?_⟩;refine⟨_,rfl,x,dx,_,rfl,h1,EK (by decide +kernel),_,rfl,x,m,ds,ls,n,rfl,R0,nd,?_⟩;rcases q with⟨hn,rp,q⟩ | ⟨l,hlm,rfl,q⟩
 ·exact .inl ⟨hn,rp,q⟩
 refine .inr ⟨AE.mpr ⟨l,hlm,rfl⟩,?_⟩;obtain⟨v,hv,pv⟩:=k4.val (BZ.mp nd).2.1 hlm;have dg:DGet H q' (.str l.name) (some v):=.inl ⟨kq,(Sum.inr l.name:Ag),.inl h5,rfl,hv.symm⟩;exact⟨_,rfl,x,C,dx,_,_,rfl,h1,L.cl,L.n5,lZ,_,rfl,q',_,rfl,dg,q v pv⟩
def aJ (F:Fun K "least_of" "least_of" MM f fd)(T:Bl mg)(C_worlds_of:Ca P w K mg base CX0 1 "worlds_of" Hw Ic EX):FnOk P w K mg base CX0 2 f fd Kn Pf:=by
 refine F.oq scLeastOf λaj A ag s H vs Q E hr1 h=>?_;obtain⟨m,rfl,hm,q⟩:=h;refine⟨_,(Af (Ay (i:=1) scLeastOf.nd (Aq C_worlds_of hr1 Ai (Aa (pv 0) Ab))) (Ah (Ar (Qu (AS K3 (Bf C2 (by rfl) T.len CG (Aa (pv 1) Ab)) Ac (AO _)) (As Dj (pv 1) Ac (λ_ _=>rfl)) Cw)))),?_⟩;refine⟨_,rfl,m,rfl,hm,λl H1 s1 hl e1=>?_⟩;have e2:((wl m).map V.int).length=(wl m).length:=Al ..;have q1:=q H1 s1;refine⟨_,rfl,_,_,rfl,.inl ⟨_,SqL.of e1,rfl⟩,_,_,rfl,rfl,_,rfl,?_⟩;rw[e2];cases hw:wl m with
 | nil=>rw[hw]at q1;exact QN (by decide) q1
 | cons n r=>rw[hw]at q1 e1;have hat:Ax ((n::r).map V.int) ((0:Nat):Int)=some (.int n):=Av rfl;exact QM (Bb (by rw[CF];lia)) ⟨_,rfl,l,_,_,_,rfl,rfl,SqL.of e1,hat,q1⟩
def ZG (F:Fun K "within" "within" MB f fd):FnOk P w K mg base CX0 1 f fd Kg Pj:=by refine F.oq XR λaj A ag s H vs Q E hr h=>?_;obtain⟨i,j,rfl,q⟩:=h;refine⟨_,(Ah (Ar (Nj BA (Aw F5 (pv 0) (pv 1)) (pv 0) (AO _)))),?_⟩;exact⟨_,rfl,_,rfl,_,_,rfl,rfl,_,rfl,rfl,q⟩
def Fun.okD {CN:Addr}{x qual:Str}{st:Stmt}{f:Addr}{fd:FuncData}{N ps:List Str}{k:Nat}{sp:Sp}(F:Fun K x qual st f fd)(S:Au N ps (Ak st))(len:∀vs H Q E,sp vs H Q E->vs.length=ps.length)
  (hbody:∀(aj:Value) (A:Around) (ag:List Env) (s:Shared) (H:Hp) (vs:List V) (Q:VK) (E:XK),Room k (A.deeper (envOfC qual (Ak st) s.heap.objs.size f aj))->sp vs H Q E -> ∃t,PSs (B3 (Ck P w CN) P w K mg base N qual (Ak st) f aj A ag s H E) (Cf st) t/\t { nx:=λ_ H'=>Q .non H',rt:=Q } (DH N vs) H):FnOk P w K mg base (Ck P w CN) (k+1) f fd ps sp:=by
 obtain⟨oc,od,kV,doc,pm,an,aj,ct,osl,rfl,lk,hcd⟩:=F.ex
 exact Li lk hcd S len λA ag s H vs Q E hr hsp=>hbody aj A ag s H vs Q E hr hsp
def bd (t s:Nat):List Int:=(wl s).filter λw=>!t.testBit w.toNat
def JD (h:∀i,r.testBit i=(s.testBit i && !t.testBit i)):wl r=bd t s:=by
 have n1:(wl r).Nodup:=(Ho _).imp λh=>by lia
 have n2:(bd t s).Nodup:=((Ho s).filter _).imp λh=>by lia
 have p:(wl r).Perm (bd t s):=(perm_ext_iff_of_nodup n1 n2).mpr λn=>by unfold bd;rw[wl_mem,C4,wl_mem,h,B8,and_assoc]
 exact List.Perm.eq_of_pairwise (le:=(·<=·)) (λa b _ _ h1 h2=>by lia) ((Ho _).imp λh=>by lia) (((Ho _).filter _).imp λh=>by lia) p
def kM {s t:Nat}:decide (V.int (Builtin.bitAnd (s:Int) (t:Int))=V.int (s:Int))=decide (bd t s=[]):=by
 rw[G2,CT,CI,CI];unfold bd;rw[LR];constructor
 ·intro e n hn z;have e2:s&&&t=s:=ofNat.inj (V.int.inj e);obtain⟨_,hb⟩:=wl_mem.mp hn;rw[<- e2,DZ,B8]at hb;rw[hb.2]at z;cases z
 intro e
 have e2:s&&&t=s:=Ee λi=>by
  rw[DZ];cases hb:s.testBit i with
  | false=>rfl
  | true=>
   have:=e (i:Int) (wl_mem.mpr ⟨by lia,by rw[A1];exact hb⟩);rw[A1]at this;cases ht:t.testBit i with
   | true=>rfl
   | false=>rw[ht]at this;exact absurd rfl this
 rw[e2]
def G1 (d:Dee)(s:Nat):List Int:=(wl s).filter λw=>decide (d.tab[w.toNat]? = some [])
def ER (l:Loo)(s:Nat):List Int:=(wl s).filter λw=>decide (l.tab[w.toNat]? = some none)
def VC (hl:d.tab.length=m)(hs:s<2^m):bd (bt (BN (λn=>decide (bt n≠0)) d.tab)) s=G1 d s:=by
 unfold bd G1;refine Lz λw hw=>?_;obtain⟨w0,w1⟩:=Eh hs hw;have hi:w.toNat<d.tab.length:=by lia
 rw[NM,AC hi];show(!decide (bt d.tab[w.toNat]≠0))=_;rw[CT];simp only[Jg,decide_eq_false_iff_not,CI,Og];constructor
 ·intro z;have z':bt d.tab[w.toNat]=0:=Decidable.not_not.mp z;cases e:d.tab[w.toNat]with
  | nil=>rfl
  | cons a r=>exfalso;rw[e]at z';have b:=Ep (a::r) a.toNat;rw[z',FO]at b;simp at b
 intro z e;rw[z]at e;exact e rfl
def VB (hl:l.tab.length=m)(hs:s<2^m):bd (bt (BN isSome l.tab)) s=ER l s:=by
 unfold bd ER;refine Lz λw hw=>?_;obtain⟨w0,w1⟩:=Eh hs hw;have hi:w.toNat<l.tab.length:=by lia
 rw[NM,AC hi];show(!l.tab[w.toNat].isSome)=_;cases l.tab[w.toNat] <;> simp
def NL {m:Nat}{ds:List Dee}{ls:List Loo}{as:List Str}(ok:Hl m ds ls as){st:Str×Nat}(h:st∈EM ds ls):st.2<2^200:=by
 have m2:=ok.m2;rcases(A5.mp h)with z | z
 ·obtain⟨d,hd,rfl⟩:=AE.mp z;have hl:=(ok.de d hd).len;refine Jr _ λi hi=>?_;show(bt (BN _ d.tab)).testBit i=false;rw[NM,Gq (by lia)];rfl
 obtain⟨d,hd,rfl⟩:=AE.mp z;have hl:=ok.lo d hd;refine Jr _ λi hi=>?_;show(bt (BN _ d.tab)).testBit i=false;rw[NM,Gq (by lia)];rfl
inductive PN (C NN:Addr)(vs:List V)(H:Hp)(Q:VK)(E:XK):Prop
 | mk (x:Addr) (m:Nat) (ds:List Dee) (ls:List Loo) (n:Str) (s:Nat) (c0:vs=[.ref x,.str n,.int (s:Int)]) (c1:ChAt C H x m ds ls) (c2:(ds.map Dee.name++ls.map Loo.name).Nodup) (c3:((n∉ds.map Dee.name++ls.map Loo.name/\Rp n/\EV H E NN)\/∃st∈EM ds ls,st.1=n/\Q (.bl (decide (bd st.2 s=[]))) H)):PN C NN vs H Q E
inductive My (C:Addr)(vs:List V)(H:Hp)(Q:VK)(E:XK):Prop
 | mk (x:Addr) (m:Nat) (ds:List Dee) (ls:List Loo) (n:Str) (s:Nat) (st:Str×Nat) (c0:vs=[.ref x,.str n,.int (s:Int)]) (c1:ChAt C H x m ds ls) (c2:(ds.map Dee.name++ls.map Loo.name).Nodup) (c3:s<2^200) (c4:st∈EM ds ls) (c5:st.1=n) (c6:st.2<2^200) (c7:Rp n) (c8:((bd st.2 s=[]/\Q .non H)\/False)):My C vs H Q E
inductive PR (C:Addr)(vs:List V)(H:Hp)(Q:VK)(E:XK):Prop
 | mk (x:Addr) (m:Nat) (ds:List Dee) (ls:List Loo) (as:List Str) (n:Str) (s:Nat) (c0:vs=[.ref x,.str n,.int (s:Int)]) (c1:ChAt C H x m ds ls) (c2:Hl m ds ls as) (c3:s<2^m) (c4:(False \/   ∃d∈ds,d.name=n/\Rp n/\((G1 d s=[]/\∀H':Hp,Same H H'->Q (.int (Fc (.did d) s:Nat)) H')\/False))):PR C vs H Q E
abbrev KS:List Str:=["chart", "name", "some"]
abbrev gU:List Str:=KS
def Ys:Au gU KS (Ak M6):=AA
abbrev IC:List Str:=["chart", "name", "some"]
abbrev gQ:List Str:=IC
def Yr:Au gQ IC (Ak J9):=AA
abbrev KY:List Str:=["chart", "name", "some"]
abbrev gZ:List Str:=Be KY ["outs"]
def scAfter:Au gZ KY (Ak M8):=AA
def cA {f2:Addr} (F:Fun K "can_do" "can_do" M6 f fd)(L:Cl K C)(C_within:Ca P w K mg base CX0 1 "within" MB Kg Pj)(b_doable:Binds K d2 ["self", "name"] [])(m_doable:B9 K C "doable" f2)(G_doable:FnOk P w K mg base (CXe P w) 2 f2 d2 Iv (Mu C NN)):FnOk P w K mg base (CXe P w) 3 f fd KS (PN C NN):=by
 refine F.oqE Ys λaj A ag s0 H vs Q E hr2 h=>?_;obtain⟨x,m,ds,ls,n,s,rfl,R,nd,q⟩:=h;have hr1:Room 1 _:=hr2.mono (by decide);have R0:=R;obtain⟨dx,p,o,a,q',d,kp,ko,ka,kq,kd,o1,o2,h1,_⟩:=R.ex;refine⟨_,(Ah (Ar (Aq C_within hr1 Ai (Aa (pv 2) (Aa (EG (pv 0) L.cl m_doable G_doable hr2 b_doable .nil Ib (Aa (pv 1) Ab)) Ab))))),?_⟩;refine⟨_,rfl,_,rfl,x,dx,_,rfl,h1,EK (by decide +kernel),_,rfl,x,m,ds,ls,n,rfl,R0,nd,?_⟩;rcases q with q | ⟨st,hst,e,q⟩
 ·exact .inl q
 refine .inr ⟨st,hst,e,_,_,rfl,?_⟩;rw[kM];exact q
def bY (F:Fun K "check_can" "check_can" J9 f fd)(C_can_do:Ca P w K mg base (CXe P w) 3 "can_do" M6 KS (PN C NN)):FnOk P w K mg base CX0 4 f fd IC (My C):=by
 refine F.oq Yr λaj A ag s0 H vs Q E hr3 h=>?_;obtain⟨x,m,ds,ls,n,s,st,rfl,R,nd,hs,hst,e,ht,rp,q⟩:=h;refine⟨_,(Ah (AH (Dp (Cn (Aq C_can_do hr3 GH (Aa (pv 0) (Aa (pv 1) (Aa (pv 2) Ab)))))) EF AD)),?_⟩;refine⟨_,rfl,_,rfl,_,rfl,x,m,ds,ls,n,s,rfl,R,nd,.inr ⟨st,hst,e,⟨_,rfl,?_⟩⟩⟩;rcases q with⟨hb,q⟩ | q
 ·rw[hb];refine A4 ?_;try unfold A9
  exact q
 exact q.elim
def cH {f1:Addr} (F:Fun K "after" "after" M8 f fd)(L:Cl K C)(b_out_sets:Binds K d1 ["self", "name"] [])(m_out_sets:B9 K C "out_sets" f1)(G_out_sets:FnOk P w K mg base (CXe P w) 2 f1 d1 Kj (O6 C NN))
  (C_check_can:Ca P w K mg base CX0 4 "check_can" J9 IC (My C))(C_led_to:Ca P w K mg base CX0 2 "led_to" MJ Kl Pd):FnOk P w K mg base CX0 5 f fd KY (PR C):=by
 refine F.oq scAfter λaj A ag s0 H vs Q E hr4 h=>?_
 obtain⟨x,m,ds,ls,as,n,s,rfl,R,ok,hs,q⟩:=h
 have hr2:Room 2 _:=hr4.mono (by decide)
 have R0:=R
 obtain⟨dx,p,o,a,q',d,kp,ko,ka,kq,kd,o1,o2,h1,_⟩:=R.ex
 refine⟨_,(Af (Ay (i:=3) scAfter.nd (EG (pv 0) L.cl m_out_sets G_out_sets hr2 b_out_sets .nil GH (Aa (pv 1) Ab))) (Af (BD (Aq C_check_can hr4 Ai (Aa (pv 0) (Aa (pv 1) (Aa (pv 2) Ab))))) (Ah (Ar (Aq C_led_to hr2 Ai (Aa (pv 3) (Aa (pv 2) Ab))))))),?_⟩
 refine⟨_,rfl,x,dx,_,rfl,h1,EK (by decide +kernel),_,rfl,x,m,ds,ls,n,rfl,R0,ok.nd,?_⟩
 rcases q with q | ⟨de,hde,e,rp,q⟩
 ·exact q.elim
 refine .inr ⟨de,hde,e,λt ht=>?_⟩
 have m2:=ok.m2
 have hl:=(ok.de de hde).len
 have hst:(de.name,bt (BN (λn=>decide (bt n≠0)) de.tab))∈EM ds ls:=Ec _ (AE.mpr ⟨de,hde,rfl⟩)
 refine⟨_,rfl,_,rfl,_,rfl,x,m,ds,ls,n,s,_,rfl,R0,ok.nd,DX hs m2,hst,e,NL ok hst,rp,?_⟩
 rw[VC hl hs]
 rcases q with⟨hb,q⟩ | q
 ·refine .inl ⟨hb,?_⟩;exact⟨_,rfl,_,rfl,t,s,m,de,rfl,ht,hl,m2,hs,q⟩
 exact q.elim
structure Lx (H:Hp)(l1 l2:Addr)(us ws:List V)(ds:List Dee)(ls:List Loo)(m:Nat):Prop where
 h1:H l1=some (.lst us)
 h2:H l2=some (.lst ws)
 hd:A2 (DeV H) us ds
 hl:A2 (LoV H) ws ls
 nd:(ds.map Dee.name++ls.map Loo.name).Nodup
 de:∀d∈ds,DeOk m d
 lo:∀l∈ls,l.tab.length=m
 c1:ds.length<=3
 c2:ls.length<=2
 db:∀d∈ds,Lb d.name
 lb:∀l∈ls,Lb l.name
 ab:∀l∈ls,∀s,some s∈l.tab->Lb s
 m1:1<=m
 m2:m<=200
def Lx.same (h:Lx H l1 l2 us ws ds ls m)(s:Same H H'):Lx H' l1 l2 us ws ds ls m:=
 ⟨s _ _ h.h1,s _ _ h.h2,h.hd.mono λv t _ q=>q.same s,h.hl.mono λv t _ q=>q.same s,h.nd,h.de,h.lo,h.c1,h.c2,h.db,h.lb,h.ab,h.m1,h.m2⟩
structure OC (H:Hp)(us:List V)(nms:List Str)(tb:Nat->Addr):Prop where
 len:us.length=nms.length
 got:∀(i:Nat) v n,us[i]? = some v->nms[i]? = some n->∃p,StV H v n p (tb i)
def Q3 (h:A2 (DeV H) us ds):∃tb:Nat->Addr,OC H us (ds.map Dee.name) tb/\∀(i:Nat) d,ds[i]? = some d->∃es,H (tb i)=some (.lst es)/\A2 (EnV H) es d.tab:=by
 have ex:∀i:Nat,∃t:Addr,∀v d,us[i]? = some v->ds[i]? = some d->(∃p,StV H v d.name p t)/\∃es,H t=some (.lst es)/\A2 (EnV H) es d.tab:=λi=>by
  cases hv:us[i]? with
  | none=>exact⟨0,λv d e=>by cases e⟩
  | some v=>obtain⟨d,hd,_,t,es,st,ht,he⟩:=h.at hv;refine⟨t,λv' d' e1 e2=>?_⟩;cases e1;rw[hd]at e2;cases e2;exact⟨⟨_,st⟩,es,ht,he⟩
 refine⟨λi=>Classical.choose (ex i),⟨by rw[Al];exact h.len,λi v n h1 h2=>?_⟩,λi d hd=>?_⟩
 ·rw[AV]at h2;obtain⟨d,hd,e⟩:=CH.mp h2;subst e;exact(Oq (ex i) v d h1 hd).1
 have hl:=(AN.mp hd).1;have hl2:i<us.length:=by rw[h.len];exact hl
 exact(Oq (ex i) _ d (AC hl2) hd).2
def T3 (h:A2 (LoV H) us ds):∃tb:Nat->Addr,OC H us (ds.map Loo.name) tb/\∀(i:Nat) d,ds[i]? = some d->H (tb i)=some (.lst (d.tab.map oS)):=by
 have ex:∀i:Nat,∃t:Addr,∀v d,us[i]? = some v->ds[i]? = some d->(∃p,StV H v d.name p t)/\H t=some (.lst (d.tab.map oS)):=λi=>by
  cases hv:us[i]? with
  | none=>exact⟨0,λv d e=>by cases e⟩
  | some v=>obtain⟨d,hd,_,t,st,ht⟩:=h.at hv;refine⟨t,λv' d' e1 e2=>?_⟩;cases e1;rw[hd]at e2;cases e2;exact⟨⟨_,st⟩,ht⟩
 refine⟨λi=>Classical.choose (ex i),⟨by rw[Al];exact h.len,λi v n h1 h2=>?_⟩,λi d hd=>?_⟩
 ·rw[AV]at h2;obtain⟨d,hd,e⟩:=CH.mp h2;subst e;exact(Oq (ex i) v d h1 hd).1
 have hl:=(AN.mp hd).1;have hl2:i<us.length:=by rw[h.len];exact hl
 exact(Oq (ex i) _ d (AC hl2) hd).2
inductive Hs (vs:List V)(H:Hp)(Q:VK)(E0_:XK):Prop
 | mk (a:Addr) (us:List V) (n:Str) (nms:List Str) (tb:Nat->Addr) (c0:vs=[.ref a,.str n]) (c1:H a=some (.lst us)) (c2:OC H us nms tb) (c3:((n∉nms/\Q .non H)\/∃j,nms[j]? = some n/\nms.Nodup/\Q (.ref (tb j)) H)):Hs  vs H Q E0_
abbrev Fy:List Str:=["_law_steps", "_law_name"]
abbrev dX:List Str:=Be Fy ["_law_step"]
def scLTable:Au dX Fy (Ak GB):=AA
def Xw (h:strOk x=true):shaped (.str x)=true:=by unfold shaped;rw[PyData.canLay0,PyData.depth,h];rfl
def Xx:shaped .none=true:=by unfold shaped;rw[PyData.canLay0,PyData.depth];rfl
def UU (n:Int)(r:List Int):PyData.eqv (.list ((n::r).map PyData.int)) (.list (([]:List Int).map PyData.int))=false:=by simp[PyData.eqv,PyData.eqvAll]
def mJ (x:Str):PyData.eqv (.str x) (.list (([]:List Int).map PyData.int))=false:=by simp[PyData.eqv]
def mK:PyData.eqv .none (.list (([]:List Int).map PyData.int))=false:=by simp[PyData.eqv]
def V5:cs (Str.ofString "z")=[122]:=by decide +kernel
def Vl (d:DDs H ns m us ds i)(l:LLs H' ns m ws ls j)(hi:i<=3)(hj:j<=2)(m1:1<=m)(m2:m<=200):Hl m ds ls (pqrL.map (A8 ns 3)):=by
 have dl:=d.dl;have ll:=l.ll;refine⟨m1,m2,by lia,by lia,?_,d.so,l.sl,d.de,l.lo,l.an,by rw[Al];decide,Si (by decide)⟩;rw[d.nm,l.nm,<- AX];refine Si ?_;have h:(abcL++deL).Nodup:=by decide
 exact LV (List.Sublist.append (Hf _ _) (Hf _ _)) h
def V4 (d:DDs H ns m us ds i)(l:LLs H' ns m ws ls j):A8 ns 2 122∉ds.map Dee.name++ls.map Loo.name:=by
 rw[d.nm,l.nm,<- AX];intro z;obtain⟨c,hc,e⟩:=AE.mp z;have e2:=Sj e;subst e2;rcases(A5.mp hc)with y | y
 ·exact absurd (Jk y) (by decide)
 exact absurd (Jk y) (by decide)
def iN (h1:H l1=some (.lst us))(h2:H l2=some (.lst ws))(d:DDs H ns m us ds i)(l:LLs H ns m ws ls j)(hi:i<=3)(hj:j<=2)(m1:1<=m)(m2:m<=200):Lx H l1 l2 us ws ds ls m:=by
 have dl:=d.dl;have ll:=l.ll;refine⟨h1,h2,d.hd,l.hl,(Vl d l hi hj m1 m2).nd,d.de,l.lo,by lia,by lia,λx hx=>?_,λx hx=>?_,λx hx s hs=>?_,m1,m2⟩
 ·have:x.name∈(abcL.take i).map (A8 ns 2):=by rw[<- d.nm];exact AE.mpr ⟨x,hx,rfl⟩
  obtain⟨c,hc,e⟩:=AE.mp this;rw[<- e];exact Gs ns 2 (VH c (Jk hc))
 ·have:x.name∈(deL.take j).map (A8 ns 2):=by rw[<- l.nm];exact AE.mpr ⟨x,hx,rfl⟩
  obtain⟨c,hc,e⟩:=AE.mp this;rw[<- e];exact Gs ns 2 (Vb c (Jk hc))
 obtain⟨c,hc,e⟩:=AE.mp (l.an x hx s hs);rw[<- e];exact Gs ns 3 (Tp c hc)
def FB (s:Nat)(tab:List (Option Str)):List (Option Str):=(List.range tab.length).map λj=>if s.testBit j=true then tab.getD j none else none
def iA (s:Nat)(tab:List (Option Str)):(FB s tab).length=tab.length:=by unfold FB;rw[Al,Dw]
def iB (hj:j<tab.length):(FB s tab)[j]? = some (if s.testBit j=true then tab.getD j none else none):=by unfold FB;rw[AV,List.getElem?_range hj];rfl
def msk_at :(FB s tab)[j]? = some (some z)↔s.testBit j=true/\tab[j]? = some (some z):=by
 rcases Gj j tab.length with hj | hj
 ·rw[iB hj,CJ,AC hj];by_cases hb:s.testBit j=true
  ·rw[AB hb];simp[hb]
  rw[Ao hb];simp[hb]
 rw[Gq (by rw[iA];exact hj),Gq hj];simp
def iC (s:Nat)(tab:List (Option Str))(z:Str):bt (Bi (FB s tab) z)=s&&&bt (Bi tab z):=by refine Ee λi=>?_;rw[DZ,IJ,IJ,CT,CI,msk_at,B8,CI]
def msk_has :some z∈FB s tab↔s&&&bt (Bi tab z)≠0:=by
 rw[<- iC];constructor
 ·intro h e;obtain⟨j,hj⟩:=DL h;have b:=IJ (FB s tab) z j;rw[e,FO,Bb hj]at b;cases b
 intro h;refine VI λno=>h (Ee λi=>?_);rw[IJ,FO,Cg λe=>no (Bt e)]
def Ri (xs:List Str):Prop:=xs.Pairwise λa b=>a.cps.toList<b.cps.toList
def Ri.nd (h:Ri xs):xs.Nodup:=h.imp λl e=>by rw[e]at l;exact List.lt_irrefl _ l
def YH (h:x.cps.toList<y.cps.toList)(hr:Ri (y::r)):Ri (x::y::r):=by
 refine LF.mpr ⟨λz hz=>?_,hr⟩;rcases(AK.mp hz)with e | hz
 ·rw[e];exact h
 exact List.lt_trans h ((LF.mp hr).1 z hz)
theorem Ta:∀{zs:List (Str×V)},F7 zs=true->Ri (zs.map (·.1))
 | [],_=>Ru
 | [p],_=>LF.mpr ⟨λz hz=>(nomatch hz),Ru⟩
 | p::q::r,h=>by unfold F7 at h;simp only[List.tail_cons,List.zip_cons_cons,List.all_cons,B8,CI]at h;refine YH h.1 (Ta (zs:=q::r) ?_);unfold F7;exact h.2
structure QrAt (H:Hp)(ts:List Addr)(qs:List (Str×Nat)):Prop where
 len:ts.length=qs.length
 got:∀(i:Nat) t q,ts[i]? = some t->qs[i]? = some q->H t=some (.tup [.str q.1,.int (q.2:Int)])
def QrAt.same (h:QrAt H ts qs)(s:Same H H'):QrAt H' ts qs:=⟨h.len,λi t q h1 h2=>s _ _ (h.got i t q h1 h2)⟩
def QrAt.snoc (h:QrAt H ts qs)(e:H t=some (.tup [.str q.1,.int (q.2:Int)])):QrAt H (ts++[t]) (qs++[q]):=by
 refine⟨by rw[AR,AR,h.len];rfl,λi t' q' h1 h2=>?_⟩;by_cases hi:i<ts.length
 ·rw[Cr hi]at h1;rw[Cr (by rw[<- h.len];exact hi)]at h2;exact h.got i t' q' h1 h2
 rw[Ci (by lia)]at h1;rw[Ci (by rw[<- h.len];lia),<- h.len]at h2;cases hk:i-ts.length with
 | zero=>rw[hk]at h1 h2;cases h1;cases h2;exact e
 | succ k=>rw[hk]at h1;cases h1
structure VV (tab:List (Option Str))(s:Nat)(qs:List (Str×Nat)):Prop where
 ri:Ri (qs.map (·.1))
 mem:∀q,q∈qs↔q.2=s&&&bt (Bi tab q.1)/\q.2≠0
def Y1 (pm:zs.Perm ps)(lt:F7 zs=true)(ok:PsOk tab ps):VV tab s ((zs.map λp=>(p.1,s&&&bt (Bi tab p.1))).filter λq=>decide (q.2≠0)):=by
 refine⟨?_,λq=>?_⟩
 ·have sub:(((zs.map λp=>(p.1,s&&&bt (Bi tab p.1))).filter λq=>decide (q.2≠0)).map (·.1)).Sublist (zs.map (·.1)):=by
   have h1:((zs.map λp=>(p.1,s&&&bt (Bi tab p.1))).map (·.1))=zs.map (·.1):=by rw[BC];rfl
   rw[<- h1];exact List.Sublist.map _ List.filter_sublist
  exact List.Pairwise.sublist sub (Ta lt)
 rw[C4,CI];constructor
 ·rintro⟨hq,n⟩;(obtain⟨p,hp,rfl⟩:=AE.mp hq);exact⟨rfl,n⟩
 rintro⟨e,n⟩;refine⟨?_,n⟩;have has:some q.1∈FB s tab:=msk_has.mpr (by rw[<- e];exact n);obtain⟨j,hj⟩:=DL has;have hz:=(ok.has q.1).mp (Bt (msk_at.mp hj).2);obtain⟨p,hp,e2⟩:=AE.mp hz;exact AE.mpr ⟨p,pm.mem_iff.mpr hp,by rw[e2,<- e]⟩
def lW {p:Int->Bool}{xs:List Int}{i:Nat}{w:Int}(h:xs[i]? = some w)(no:(xs.take i).filter p=[])(hp:p w=true):∃r,xs.filter p=w::r:=by
 obtain⟨hi,hw⟩:=AN.mp h;have e:xs=xs.take i++w::xs.drop (i+1):=by rw[<- hw,<- List.drop_eq_getElem_cons hi,RP]
 refine⟨(xs.drop (i+1)).filter p,?_⟩;rw[e,Eu,Oc,AB hp];rw[<- e,no];rfl
inductive O4 (C:Addr)(vs:List V)(H:Hp)(Q:VK)(E:XK):Prop
 | mk (x:Addr) (m:Nat) (ds:List Dee) (ls:List Loo) (as:List Str) (n:Str) (s:Nat) (c0:vs=[.ref x,.str n,.int (s:Int)]) (c1:ChAt C H x m ds ls) (c2:Hl m ds ls as) (c3:s<2^m) (c4:(False \/   ∃l∈ls,l.name=n/\Rp n/\((ER l s=[]/\∀(r:Addr) (ts:List Addr) (qs:List (Str×Nat)) (H':Hp),Same H H'->H r=none->H' r=some (.lst (ts.map V.ref))->QrAt H' ts qs->VV l.tab s qs->qs.length<=1000->Q (.ref r) H')\/False))):O4 C vs H Q E
abbrev Ki:List Str:=["chart", "name", "some"]
abbrev cW:List Str:=Be Ki ["told"]
def scParts:Au cW Ki (Ak JP):=AA
abbrev KF:List Str:=["_law_errand", "_law_some", "_law_plan_here"]
abbrev fQ:List Str:=Be KF ["_law_told_here", "_law_error", "_law_refused"]
def scLAsked:Au fQ KF (Ak MZ):=AA
abbrev Kq:List Str:=["_law_errand", "_law_some", "_law_plan_here"]
abbrev dU:List Str:=Be Kq ["_law_refused"]
def scLUnknown:Au dU Kq (Ak MP):=AA
def ZY {f1:Addr} (F:Fun K "parts" "parts" JP f fd)(L:Cl K C)(b_answer_sets:Binds K d1 ["self", "name"] [])(m_answer_sets:B9 K C "answer_sets" f1)(G_answer_sets:FnOk P w K mg base (CXe P w) 2 f1 d1 ID (Mz C NN))
  (C_check_can:Ca P w K mg base CX0 4 "check_can" J9 IC (My C)):FnOk P w K mg base CX0 5 f fd Ki (O4 C):=by
 refine F.oq scParts λaj A ag s0 H vs Q E hr4 h=>?_
 obtain⟨x,m,ds,ls,as,n,s,rfl,R,ok,hs,q⟩:=h
 have hr2:Room 2 _:=hr4.mono (by decide)
 have ak:sizeLine=16777216:=AL
 have R0:=R
 obtain⟨dx,p,o,a,q',d,kp,ko,ka,kq,kd,o1,o2,h1,_⟩:=R.ex
 refine⟨_,(Af (Ay (i:=3) scParts.nd (EG (pv 0) L.cl m_answer_sets G_answer_sets hr2 b_answer_sets .nil GH (Aa (pv 1) Ab))) (Af (BD (Aq C_check_can hr4 Ai (Aa (pv 0) (Aa (pv 1) (Aa (pv 2) Ab))))) (Ah (Ar (CK (N:=["answer", "tellers", "some"]) (sc:=Ak JP) (own:=["answer", "tellers"]) (fr:=["some"]) (js:=[2]) B2 rfl (Qo (pv 3)) (λ_ _ _ _=>Le K rfl (DV (n:=2) rfl (BP (AU (i:=0) (show List.Nodup (["answer", "tellers", "some"]:List Str) by decide +kernel)) (BP (AU (i:=1) (show List.Nodup (["answer", "tellers", "some"]:List Str) by decide +kernel)) DU)))) (λ_ _ _ _=>Fw (AS IE (Aw F5 (pv 2) (pv 1)) Ac (AO _))) (λ_ _ _ _=>(Bd (Aa (pv 0) (Aa (Aw F5 (pv 2) (pv 1)) Ab))))))))),?_⟩
 refine⟨_,rfl,x,dx,_,rfl,h1,EK (by decide +kernel),_,rfl,x,m,ds,ls,n,rfl,R0,ok.nd,?_⟩
 rcases q with q | ⟨l,hl,e,rp,q⟩
 ·exact q.elim
 refine .inr ⟨l,hl,e,λv pv=>?_⟩
 have m2:=ok.m2
 have hll:=ok.lo l hl
 have hst:(l.name,bt (BN isSome l.tab))∈EM ds ls:=C8 _ (AE.mpr ⟨l,hl,rfl⟩)
 refine⟨_,rfl,_,rfl,_,rfl,x,m,ds,ls,n,s,_,rfl,R0,ok.nd,DX hs m2,hst,e,NL ok hst,rp,?_⟩
 rw[VB hll hs]
 rcases q with⟨hb,q⟩ | q
 ·refine .inl ⟨hb,?_⟩;obtain⟨r,ro,ts,ps,zs,rfl,d0,hr,hp,pm,lt,po⟩:=pv;have zl:zs.length<=1000:=by have n1:=Oz po.nd (l₂:=as) λy hy=>ok.an l hl y ((po.has y).mpr hy);have:=ok.a3;have:=pm.length_eq;rw[Al]at n1;lia
  have hT:∀H':Hp,Same H H'->SqT K H' r (ts.map V.ref):=λH' s'=>.inl (.inr ⟨ro,s' _ _ hr⟩);have tl:(ts.map V.ref).length=zs.length:=by rw[Al];exact hp.1
  refine⟨_,rfl,r,rfl,⟨_,hT H (Same.refl _)⟩,λD hD=>?_⟩
  refine NA (K:=K) (n:=(ts.map V.ref).length) (λi ys H2=>∃us:List Addr,ys=us.map V.ref/\QrAt (rm H2 [D]) us (((zs.take i).map λp=>(p.1,s&&&bt (Bi l.tab p.1))).filter λq=>decide (q.2≠0))/\Same H H2/\H2 D=some (.lst ys))
   ⟨[],rfl,⟨rfl,λi t q h=>by cases h⟩,Same.new hD,Ae⟩ (λi ys H2 hi ⟨_,_,_,s2,_⟩=>⟨_,(ts.map V.ref)[i],hT H2 s2,AC hi⟩) (λys H2 hh0=>by obtain⟨_,_,_,s2,_⟩:=hh0;exact⟨_,hT H2 s2,Am _⟩) ?_ ?_
  ·rintro i ys H2 v H3 hi ⟨us,rfl,qr,s2,e2⟩ ⟨rfl,hy⟩;have hv:=hy _ (hT H3 s2);rw[AV]at hv;obtain⟨t,ht,rfl⟩:=CH.mp hv;have hiz:i<zs.length:=by lia
   have hz:zs[i]? = some zs[i]:=AC hiz;have et:=hp.2 i t _ ht hz;rw[po.val _ (pm.mem_iff.mp (CQ hiz))]at et;have htk:zs.take (i+1)=zs.take i++[zs[i]]:=BK hiz;have qrl:=qr.len;have fl:(((zs.take i).map λp=>(p.1,s&&&bt (Bi l.tab p.1))).filter λq=>decide (q.2≠0)).length<=zs.length:=by refine BV (Gn _ _) ?_;rw[Al,BO];lia
   refine⟨t,_,_,rfl,SqT.of (s2 _ _ et),?_⟩;refine⟨_,rfl,_,rfl,_,_,rfl,rfl,rfl,_,rfl,?_⟩;rw[G2];by_cases nz:s&&&bt (Bi l.tab zs[i].1)=0
   ·refine AZ (λz=>absurd z (by rw[nz];decide)) (λ_=>?_);refine⟨us,rfl,?_,s2,e2⟩;rw[htk,AX,Eu];simp only[BU,map_nil,nz];rw[show(List.filter (λq:Str×Nat=>decide (q.2≠0)) [(zs[i].1,0)])=[] from rfl,BR];exact qr
   refine AZ (λ_=>?_) (λz=>absurd (by simp;lia) z);refine⟨_,rfl,_,rfl,_,rfl,_,_,rfl,rfl,AW,λtp htp=>?_⟩;rw[G2];have s3:=Same.new (o:=.tup [.str zs[i].1,.int ((s&&&bt (Bi l.tab zs[i].1):Nat):Int)]) htp;have nD:tp≠D:=(AM e2 htp).symm;refine⟨_,s3 _ _ e2,by rw[Al];lia,us++[tp],by rw[AX];rfl,?_,(s2.trans s3).put hD,Ae⟩;rw[htk,AX,Eu];have one:List.filter (λq:Str×Nat=>decide (q.2≠0)) (List.map (λp=>(p.1,s&&&bt (Bi l.tab p.1))) [zs[i]])=[(zs[i].1,s&&&bt (Bi l.tab zs[i].1))]:=by simp[nz]
   rw[one,F0 (by simp)];exact(qr.same (E3 s3)).snoc (by rw[Ej (by simpa using nD)];exact Ae)
  rintro ys H2 ⟨us,rfl,qr,s2,e2⟩;rw[tl,Bq]at qr;have fl:((zs.map λp=>(p.1,s&&&bt (Bi l.tab p.1))).filter λq=>decide (q.2≠0)).length<=1000:=by refine BV (Gn _ _) ?_;rw[Al];exact zl
  exact q D us _ H2 s2 hD e2 (qr.same HS) (Y1 pm lt po) fl
 exact q.elim
inductive Pn where
 | stop
 | dd (d:Str) (r:Pn)
 | lk (l:Str) (ws:Pn)
 | nil
 | way (a:Str) (p r:Pn)
abbrev B0:Str:=Str.ofString "stop"
def BL:Pn->List Str
 | .way a _ r=>a::BL r
 | _=>[]
def okP:Bool->Pn->Prop
 | true,.stop=>True
 | true,.dd d r=>Lb d/\okP true r
 | true,.lk l ws=>Lb l/\ws≠.nil/\((BL ws).Nodup/\(BL ws).length<=1000)/\okP false ws
 | false,.nil=>True
 | false,.way a p r=>Lb a/\okP true p/\okP false r
 | _,_=>False
def Bs:Pn->Nat
 | .stop=>1
 | .dd _ r=>Bs r+1
 | .lk _ ws=>Bs ws+1
 | .nil=>0
 | .way _ p r=>max (Bs p) (Bs r)
def szP:Pn->Nat
 | .stop=>1
 | .dd _ r=>szP r+1
 | .lk _ ws=>szP ws+1
 | .nil=>0
 | .way _ p r=>szP p+szP r
def A6:Pn->Nat
 | .stop=>1
 | .dd _ r=>A6 r+1
 | .lk _ ws=>A6 ws+1
 | .nil=>0
 | .way _ p r=>A6 p+A6 r+1
theorem Gv:∀t:Pn,szP t<=A6 t
 | .stop=>Am _
 | .dd _ r=>Ex (Gv r)
 | .lk _ ws=>Ex (Gv ws)
 | .nil=>Am _
 | .way _ p r=>by have h1:=Gv p;have h2:=Gv r;show szP p+szP r<=A6 p+A6 r+1;lia
abbrev Rw:=Pn×Option Nat×Option Str
def Bc:Pn->Nat->Option Nat->Option Str->List Rw
 | .stop,_,b,a=>[(.stop,b,a)]
 | .dd d r,n,b,a=>(.dd d r,b,a)::Bc r (n+1) (some n) none
 | .lk l ws,n,b,a=>(.lk l ws,b,a)::Bc ws (n+1) (some n) none
 | .nil,_,_,_=>[]
 | .way x p r,n,b,_=>Bc p n b (some x)++Bc r (n+szP p) b none
theorem EZ:∀(t:Pn) (n:Nat) (b:Option Nat) (a:Option Str),(Bc t n b a).length=szP t
 | .stop,_,_,_=>rfl
 | .dd _ r,_,_,_=>BY (· + 1) (EZ r _ _ _)
 | .lk _ ws,_,_,_=>BY (· + 1) (EZ ws _ _ _)
 | .nil,_,_,_=>rfl
 | .way x p r,n,b,a=>by show(Bc p n b (some x)++Bc r (n+szP p) b none).length=_;rw[AR,EZ p,EZ r];rfl
def Cv:List Rw->Nat->List Rw
 | [],_=>[]
 | w::r,n=>Bc w.1 n w.2.1 w.2.2++Cv r (n+szP w.1)
def GV:Pn->Nat->List Rw
 | .way a p r,n=>(p,some n,some a)::GV r n
 | _,_=>[]
def F8:Pn->Nat->List Rw
 | .dd _ r,n=>[(r,some n,none)]
 | .lk _ ws,n=>GV ws n
 | _,_=>[]
theorem S4:∀(ws:Pn) (n m:Nat) (r:List Rw),okP false ws->Bc ws m (some n) none++Cv r (m+szP ws)=Cv (GV ws n++r) m
 | .nil,_,_,_,_=>rfl
 | .way a p q,n,m,r,h=>by have e:=S4 q n (m+szP p) r h.2.2;show(Bc p m (some n) (some a)++Bc q (m+szP p) (some n) none)++Cv r (m+(szP p+szP q))=Bc p m (some n) (some a)++Cv (GV q n++r) (m+szP p);rw[Fn,<- e,Nat.add_assoc]
 | .stop,_,_,_,h=>h.elim
 | .dd _ _,_,_,_,h=>h.elim
 | .lk _ _,_,_,_,h=>h.elim
def YC (r:List Rw)(n:Nat)(h:okP true t):Cv ((t,b,a)::r) n=(t,b,a)::Cv (F8 t n++r) (n+1):=by
 cases t with
 | stop=>rfl
 | dd d q=>show(.dd d q,b,a)::(Bc q (n+1) (some n) none++Cv r (n+(szP q+1)))=(.dd d q,b,a)::(Bc q (n+1) (some n) none++Cv r (n+1+szP q));rw[show n+(szP q+1)=n+1+szP q by lia]
 | lk l ws=>show(.lk l ws,b,a)::(Bc ws (n+1) (some n) none++Cv r (n+(szP ws+1)))=(.lk l ws,b,a)::Cv (GV ws n++r) (n+1);rw[<- S4 ws n (n+1) r h.2.2.2,show n+(szP ws+1)=n+1+szP ws by lia]
 | nil=>exact h.elim
 | way _ _ _=>exact h.elim
end
end K40
namespace K40
open PySem L2 Tx Rk PyProof.Rows PySem.SeqAt
open PySem.PyData (strOk)
end K40
namespace K40
open PySem L2 Tx Rk PyProof.Rows PySem.SeqAt
open PySem.PyData (strOk)
section
variable {P:Program}{w:World}{K:W.Frag}{mg:Str->Option Value}{base:Heap}
def TrAt (H:Hp):Pn->List V->Prop
 | .stop,vs=>∃t:Addr,vs=[.ref t]/\H t=some (.tup [.str B0])
 | .dd d r,vs=>∃(t:Addr) (v:V),vs=[.ref t]/\H t=some (.tup [.str (Str.ofString "do"),.str d,v])/\TrAt H r [v]
 | .lk l ws,vs=>∃(t u:Addr) (us:List V),vs=[.ref t]/\H t=some (.tup [.str (Str.ofString "look"),.str l,.ref u])/\H u=some (.lst us)/\TrAt H ws us
 | .nil,vs=>vs=[]
 | .way a p r,vs=>∃(t:Addr) (v:V) (us:List V),vs=.ref t::us/\H t=some (.tup [.str a,v])/\TrAt H p [v]/\TrAt H r us
theorem TrAt.same (s:Same H H'):∀{t:Pn}{vs:List V},TrAt H t vs->TrAt H' t vs
 | .stop,_,⟨t,e,h⟩=>⟨t,e,s _ _ h⟩
 | .dd _ _,_,⟨t,v,e,h,r⟩=>⟨t,v,e,s _ _ h,TrAt.same s r⟩
 | .lk _ _,_,⟨t,u,us,e,h,h2,r⟩=>⟨t,u,us,e,s _ _ h,s _ _ h2,TrAt.same s r⟩
 | .nil,_,e=>e
 | .way _ _ _,_,⟨t,v,us,e,h,p,r⟩=>⟨t,v,us,e,s _ _ h,TrAt.same s p,TrAt.same s r⟩
structure C3 where
 s:Addr
 d:Addr
 l:Addr
def Ll (d:Str)(v:V):List (Str×V):=AI "rest" v (AI "deed" (.str d) [])
def Lk (l:Str)(v:V):List (Str×V):=AI "told_ways" v (AI "look" (.str l) [])
def PlAt (C:C3)(H:Hp):Pn->List V->Prop
 | .stop,vs=>∃o dx:Addr,vs=[.ref o]/\H o=some (.ins C.s dx [])
 | .dd d r,vs=>∃(o dx:Addr) (v:V),vs=[.ref o]/\H o=some (.ins C.d dx (Ll d v))/\PlAt C H r [v]
 | .lk l ws,vs=>∃(o dx u:Addr) (us:List V),vs=[.ref o]/\H o=some (.ins C.l dx (Lk l (.ref u)))/\H u=some (.tup us)/\PlAt C H ws us
 | .nil,vs=>vs=[]
 | .way a p r,vs=>∃(t:Addr) (v:V) (us:List V),vs=.ref t::us/\H t=some (.tup [.str a,v])/\PlAt C H p [v]/\PlAt C H r us
theorem PlAt.same (s:Same H H'):∀{t:Pn}{vs:List V},PlAt C H t vs->PlAt C H' t vs
 | .stop,_,⟨t,dx,e,h⟩=>⟨t,dx,e,s _ _ h⟩
 | .dd _ _,_,⟨t,dx,v,e,h,r⟩=>⟨t,dx,v,e,s _ _ h,PlAt.same s r⟩
 | .lk _ _,_,⟨t,dx,u,us,e,h,h2,r⟩=>⟨t,dx,u,us,e,s _ _ h,s _ _ h2,PlAt.same s r⟩
 | .nil,_,e=>e
 | .way _ _ _,_,⟨t,v,us,e,h,p,r⟩=>⟨t,v,us,e,s _ _ h,PlAt.same s p,PlAt.same s r⟩
structure JB (K:W.Frag)(C:Addr):Prop where
 cl:Cls K C
 n1:NoAttr K C "deed"
 n2:NoAttr K C "rest"
structure Gr (K:W.Frag)(C:Addr):Prop where
 cl:Cls K C
 n1:NoAttr K C "look"
 n2:NoAttr K C "told_ways"
def QV (d:Str)(v:V):(Ll d v).lookup ("deed" : Str)=some (.str d):=rfl
def lY (d:Str)(v:V):(Ll d v).lookup ("rest" : Str)=some v:=rfl
def NH (l:Str)(v:V):(Lk l v).lookup ("look" : Str)=some (.str l):=rfl
def lX (l:Str)(v:V):(Lk l v).lookup ("told_ways" : Str)=some v:=rfl
structure WyAt (H:Hp)(us:List V)(as:List Str):Prop where
 len:us.length=as.length
 got:∀(i:Nat) u a,us[i]? = some u->as[i]? = some a->∃(t:Addr) (v:V),u=.ref t/\H t=some (.tup [.str a,v])
def WyAt.same (h:WyAt H us as)(s:Same H H'):WyAt H' us as:=⟨h.len,λi u a h1 h2=>by obtain⟨t,v,e,z⟩:=h.got i u a h1 h2;exact⟨t,v,e,s _ _ z⟩⟩
def WyAt.at {H:Hp}{us:List V}{as:List Str}(h:WyAt H us as){i:Nat}{u:V}(e:us[i]? = some u):∃(a:Str) (t:Addr) (v:V),as[i]? = some a/\u=.ref t/\H t=some (.tup [.str a,v]):=by have hi:=(AN.mp e).1;have ha:as[i]? = some (as[i]'(by rw[<- h.len];exact hi)):=AC _;obtain⟨t,v,e1,e2⟩:=h.got i u _ e ha;exact⟨_,t,v,ha,e1,e2⟩
abbrev Nl:List Str:=["self"]
abbrev cR:List Str:=Nl
def XS:Au cR Nl (Ak PX):=AA
abbrev KL:List Str:=["self", "deed", "rest"]
abbrev gA:List Str:=KL
def Yh:Au gA KL (Ak P6):=AA
abbrev Np:List Str:=["self"]
abbrev gB:List Str:=Np
def Yi:Au gB Np (Ak P7):=AA
abbrev KM:List Str:=["ways"]
abbrev gC:List Str:=Be KM ["answers"]
def scCheckWays:Au gC KM (Ak J5):=AA
abbrev Kk:List Str:=["self", "look", "ways"]
abbrev dB:List Str:=Be Kk ["told"]
def scLookInit:Au dB Kk (Ak MI):=AA
abbrev Ii:List Str:=["self"]
abbrev cZ:List Str:=Ii
def XU:Au cZ Ii (Ak PZ):=AA
abbrev Nm:List Str:=["self"]
abbrev dC:List Str:=Nm
def XW:Au dC Nm (Ak P0):=AA
inductive Ht (vs:List V)(H:Hp)(Q:VK)(E0_:XK):Prop
 | mk (x:V) (c0:vs=[x]) (c1:∀l:Addr,H l=none->Q (.ref l) (upd H l (.lst []))):Ht  vs H Q E0_
inductive Pu (C:Addr)(vs:List V)(H:Hp)(Q:VK)(E0_:XK):Prop
 | mk (x dx:Addr) (d:Str) (v:V) (c0:vs=[.ref x,.str d,v]) (c1:H x=some (.ins C dx [])) (c2:∀H':Hp,(∀c u,H c=some u->c≠x->H' c=some u)->H' x=some (.ins C dx (Ll d v))->Q .non H'):Pu C vs H Q E0_
inductive Hu (C:Addr)(vs:List V)(H:Hp)(Q:VK)(E0_:XK):Prop
 | mk (x dx:Addr) (d:Str) (v:V) (c0:vs=[.ref x]) (c1:H x=some (.ins C dx (Ll d v))) (c2:∀(l t:Addr) (H':Hp),Same H H'->H l=none->H' l=some (.lst [.ref t])->H' t=some (.tup [.non,v])->Q (.ref l) H'):Hu C vs H Q E0_
inductive Py (vs:List V)(H:Hp)(Q:VK)(E0_:XK):Prop
 | mk (t:Addr) (us:List V) (as:List Str) (c0:vs=[.ref t]) (c1:H t=some (.tup us)) (c2:WyAt H us as) (c3:as≠[]) (c4:as.Nodup) (c5:as.length<=1000) (c6:∀H':Hp,Same H H'->Q .non H'):Py  vs H Q E0_
inductive Pc (C:Addr)(vs:List V)(H:Hp)(Q:VK)(E0_:XK):Prop
 | mk (x dx u:Addr) (l:Str) (us:List V) (as:List Str) (c0:vs=[.ref x,.str l,.ref u]) (c1:H x=some (.ins C dx [])) (c2:H u=some (.lst us)) (c3:WyAt H us as) (c4:as≠[]) (c5:as.Nodup) (c6:as.length<=1000) (c7:∀(tw:Addr) (H':Hp),(∀c u,H c=some u->c≠x->H' c=some u)->H' x=some (.ins C dx (Lk l (.ref tw)))->H' tw=some (.tup us)->Q .non H'):Pc C vs H Q E0_
inductive Fs (C:Addr)(vs:List V)(H:Hp)(Q:VK)(E0_:XK):Prop
 | mk (x dx u:Addr) (l:Str) (us:List V) (c0:vs=[.ref x]) (c1:H x=some (.ins C dx (Lk l (.ref u)))) (c2:H u=some (.tup us)) (c3:∀r:Addr,H r=none->Q (.ref r) (upd H r (.lst us))):Fs C vs H Q E0_
def ZP (F:Fun K "goes_on" "Stop.goes_on" PX f fd):FnOk P w K mg base CX0 1 f fd Nl Ht:=by refine F.oq XS λaj A ag s H vs Q E hr h=>?_;obtain⟨x,rfl,q⟩:=h;refine⟨_,(Ah (Ar (Cy Ab))),?_⟩;exact⟨AW,q⟩
def aZ (F:Fun K "__init__" "Do.__init__" P6 f fd)(L:JB K C):FnOk P w K mg base CX0 1 f fd KL (Pu C):=by refine F.oq Yh λaj A ag s H vs Q E hr h=>?_;obtain⟨x,dx,d,v,rfl,hx,q⟩:=h;refine⟨_,(Af (DT (pv 0) (pv 1) rfl) (Ah (DT (pv 0) (pv 2) rfl))),?_⟩;refine⟨_,rfl,_,rfl,x,C,dx,[],rfl,hx,L.cl,L.n1,by show 0<1000;decide,?_⟩;refine⟨_,rfl,_,rfl,x,C,dx,_,rfl,Ae,L.cl,L.n2,by show 1<1000;decide,?_⟩;refine q _ (λc u e hc=>by rw[Aj hc,Aj hc];exact e) ?_;rw[Ae];rfl
def bB (F:Fun K "goes_on" "Do.goes_on" P7 f fd)(L:JB K C):FnOk P w K mg base CX0 1 f fd Np (Hu C):=by refine F.oq Yi λaj A ag s H vs Q E hr h=>?_;obtain⟨x,dx,d,v,rfl,hx,q⟩:=h;have ak:sizeLine=16777216:=AL;refine⟨_,(Ah (Ar (Cy (Aa (Bd (Aa Cw (Aa (Co (pv 0) rfl) Ab))) Ab)))),?_⟩;refine⟨_,rfl,x,C,dx,_,_,rfl,hx,L.cl,L.n2,lY d v,AW,λt ht=>?_⟩;have s1:=Same.new (o:=.tup [.non,v]) ht;refine⟨AW,λl hl=>?_⟩;exact q l t _ (s1.trans (Same.new hl)) (s1.free hl) Ae (by rw[Aj (AM Ae hl)];exact Ae)
def bM (F:Fun K "check_ways" "check_ways" J5 f fd)(T:Bl mg):FnOk P w K mg base CX0 1 f fd KM Py:=by
 refine F.oq scCheckWays λaj A ag s H vs Q E hr h=>?_;obtain⟨t,us,as,rfl,ht,wy,ne,nd,ml,q⟩:=h;have ak:sizeLine=16777216:=AL;have hul:=wy.len;refine⟨_,(Af (HW (i:=1) (N:=["way"]) (sc:=Ak J5) (own:=["way"]) (fr:=[]) (js:=[]) scCheckWays.nd rfl rfl B2 rfl (Qo (pv 0)) (λ_ _ _ _=>AU (i:=0) (show List.Nodup (["way"]:List Str) by decide +kernel)) (λ_ _ _ _=>Dd) (λ_ _ _ _=>(As (El K rfl) (pv 0) Ac (λ_ _=>rfl)))) (Af (AH (AS BA (Bf C2 (by rfl) T.len CG (Aa (pv 1) Ab)) Ac (AO _)) EF AD) (Ah (AH (AS K2 (Bf Vr (by rfl) T.len CG (Aa (Cb (Vq rfl) (by rfl) T.set Lr (Aa (pv 1) Ab)) Ab)) (Bf C2 (by rfl) T.len CG (Aa (pv 1) Ab)) (AO _)) EF AD)))),?_⟩;refine⟨_,rfl,t,rfl,⟨_,SqT.of ht⟩,λD hD=>?_⟩
 refine Cd (n:=us.length) (λi ys H4=>ys=(as.take i).map V.str/\Same H H4/\H4 D=some (.lst ys)) ⟨rfl,Same.new hD,Ae⟩
  (λi ys H4 hi hh0=>by obtain⟨_,s4,_⟩:=hh0;exact⟨_,us[i],SqT.of (s4 _ _ ht),by simp[hi]⟩) (λys H4 hh0=>by obtain⟨_,s4,_⟩:=hh0;exact⟨_,SqT.of (s4 _ _ ht),by simp⟩) ?_ ?_
 ·rintro i ys H4 y H5 hi ⟨rfl,s4,e4⟩ ⟨rfl,hy⟩;refine CW ?_;obtain⟨a,a',v,ha,rfl,et⟩:=wy.at (hy _ (SqT.of (s4 _ _ ht)));have at0:Ax [V.str a,v] ((0:Nat):Int)=some (.str a):=Av rfl;refine⟨_,rfl,a',_,_,_,rfl,rfl,SqT.of (s4 _ _ et),at0,_,e4,by simp only[Al,BO];lia,?_,s4.put hD,Ae⟩;obtain⟨hi2,e⟩:=AN.mp ha;rw[BK hi2,AX,e];rfl
 rintro ys H4 ⟨rfl,s4,e4⟩;rw[hul,Bq]at e4;have hml:(as.map V.str).length=as.length:=Al ..;have h0:0<as.length:=List.length_pos_iff.mpr ne;refine⟨_,rfl,_,_,rfl,.inl ⟨_,SqL.of e4,rfl⟩,rfl,_,rfl,?_⟩;refine AZ (λz=>?_) (λ_=>?_)
 ·exfalso;have h9:=BF z;rw[hml]at h9;have h8:=V.int.inj h9;lia
 have ek:as.map V.str=(as.map (Sum.inr:Str->Ag)).map kV:=by rw[BC];rfl
 have hdd:=S1 nd;have hks:(as.map (Sum.inr:Str->Ag)).length=as.length:=Al ..;refine⟨_,rfl,D,as.map Sum.inr,rfl,SqL.of (by rw[<- ek];exact e4),by lia,λst' hst'=>?_⟩;have s5:Same H4 (upd H4 st' (JN P w st' (SK.dd (BX (as.map (Sum.inr:Str->Ag))) (as.map (Sum.inr:Str->Ag)).length).length)):=Same.new hst';refine⟨st',_,rfl,Ae,_,rfl,_,_,rfl,.inl ⟨_,SqL.of (s5 _ _ e4),rfl⟩,_,_,rfl,rfl,_,rfl,?_⟩;refine AZ (λz=>?_) (λ_=>?_)
 ·exfalso;have:=BF z;rw[hdd,hml]at this;lia
 exact q _ (s4.trans s5)
def Z7 (F:Fun K "ways" "Look.ways" PZ f fd)(LL:Gr K C)(T:Bl mg):FnOk P w K mg base CX0 1 f fd Ii (Fs C):=by refine F.oq XU λaj A ag s H vs Q E hr h=>?_;obtain⟨x,dx,u,l,us,rfl,hx,hu,q⟩:=h;refine⟨_,(Ah (Ar (Cb Gh (by rfl) T.list EO (Aa (Co (pv 0) rfl) Ab)))),?_⟩;exact⟨_,rfl,x,C,dx,_,_,rfl,hx,LL.cl,LL.n2,lX l _,u,_,rfl,.inr (SqT.of hu),q⟩
def Z9 {f1:Addr} (F:Fun K "goes_on" "Look.goes_on" P0 f fd)(LL:Gr K C)(b_ways:Binds K d1 ["self"] [])(m_ways:B9 K C "ways" f1)(G_ways:FnOk P w K mg base CX0 1 f1 d1 Ii (Fs C)):FnOk P w K mg base CX0 2 f fd Nm (Fs C):=by refine F.oq XW λaj A ag s H vs Q E hr1 h=>?_;obtain⟨x,dx,u,l,us,rfl,hx,hu,q⟩:=h;refine⟨_,(Ah (Ar (HY (pv 0) LL.cl m_ways G_ways hr1 b_ways .nil Ai))),?_⟩;exact⟨_,rfl,x,dx,_,rfl,hx,rfl,x,dx,u,l,us,rfl,hx,hu,q⟩
def Z8 (F:Fun K "__init__" "Look.__init__" MI f fd)(LL:Gr K C)(T:Bl mg)(C_check_ways:Ca P w K mg base CX0 1 "check_ways" J5 KM Py):FnOk P w K mg base CX0 2 f fd Kk (Pc C):=by
 refine F.oq scLookInit λaj A ag s H vs Q E hr1 h=>?_;obtain⟨x,dx,u,l,us,as,rfl,hx,hu,wy,ne,nd,ml,q⟩:=h;have ak:sizeLine=16777216:=AL;have hul:=wy.len;refine⟨_,(Af (Ay (i:=3) scLookInit.nd (Cb NR (by rfl) T.tuple Lq (Aa (CK (N:=["way"]) (sc:=Ak MI) (own:=["way"]) (fr:=[]) (js:=[]) B2 rfl (BG (pv 2)) (λ_ _ _ _=>AU (i:=0) (show List.Nodup (["way"]:List Str) by decide +kernel)) (λ_ _ _ _=>Dd) (λ_ _ _ _=>(Cb (nR K rfl) (by rfl) T.tuple Lq (Aa (pv 0) Ab)))) Ab))) (Af (BD (Aq C_check_ways hr1 Ai (Aa (pv 3) Ab))) (Af (DT (pv 0) (pv 1) rfl) (Ah (DT (pv 0) (pv 3) rfl))))),?_⟩;refine⟨_,rfl,u,rfl,⟨_,SqL.of hu⟩,λD hD=>?_⟩
 refine Cd (n:=us.length) (λi ys H4=>ys=us.take i/\Same H H4/\H4 D=some (.lst ys)) ⟨rfl,Same.new hD,Ae⟩
  (λi ys H4 hi hh0=>by obtain⟨_,s4,_⟩:=hh0;exact⟨_,us[i],SqL.of (s4 _ _ hu),by simp[hi]⟩) (λys H4 hh0=>by obtain⟨_,s4,_⟩:=hh0;exact⟨_,SqL.of (s4 _ _ hu),by simp⟩) ?_ ?_
 ·rintro i ys H4 y H5 hi ⟨rfl,s4,e4⟩ ⟨rfl,hy⟩;refine CW ?_;have hyu:=hy _ (SqL.of (s4 _ _ hu));obtain⟨a,a',v,ha,rfl,et⟩:=wy.at hyu;refine⟨_,rfl,a',_,rfl,.inr ⟨SqT.of (s4 _ _ et),?_⟩⟩;refine⟨_,e4,by rw[BO];lia,?_,s4.put hD,Ae⟩;obtain⟨hi2,e⟩:=AN.mp hyu;rw[BK hi2,e]
 rintro ys H4 ⟨rfl,s4,e4⟩;rw[Bq]at e4;refine⟨D,_,rfl,.inl ⟨SqL.of e4,λtw htw=>?_⟩⟩;obtain⟨H5,g0,s5,e5⟩:=Bu (H:=H4) (o:=.tup us) htw;rw[g0];have s05:=s4.trans s5;refine⟨_,rfl,tw,us,as,rfl,e5,wy.same s05,ne,nd,ml,λH6 s6=>?_⟩;have s06:=s05.trans s6;have hx6:=s06 _ _ hx;have e6:=s6 _ _ e5;have nx:tw≠x:=Bg e6 hx6 (by intro z;cases z);refine⟨_,rfl,_,rfl,x,C,dx,[],rfl,hx6,LL.cl,LL.n1,by show 0<1000;decide,?_⟩;refine⟨_,rfl,_,rfl,x,C,dx,_,rfl,Ae,LL.cl,LL.n2,by show 1<1000;decide,?_⟩;refine q tw _ (λc u e hc=>by rw[Aj hc,Aj hc];exact s06 _ _ e) ?_ (by rw[Aj nx,Aj nx];exact e6);rw[Ae];rfl
theorem PlAt.kx (k:∀c u,H c=some u->c≠m->H' c=some u)(hm:H m=some (.lst xs)):∀{t:Pn}{vs:List V},PlAt C H t vs->PlAt C H' t vs
 | .stop,_,⟨t,dx,e,h⟩=>⟨t,dx,e,k _ _ h (Bg h hm (by intro z;cases z))⟩
 | .dd _ _,_,⟨t,dx,v,e,h,r⟩=>⟨t,dx,v,e,k _ _ h (Bg h hm (by intro z;cases z)),PlAt.kx k hm r⟩
 | .lk _ _,_,⟨t,dx,u,us,e,h,h2,r⟩=>⟨t,dx,u,us,e,k _ _ h (Bg h hm (by intro z;cases z)),k _ _ h2 (Bg h2 hm (by intro z;cases z)),PlAt.kx k hm r⟩
 | .nil,_,e=>e
 | .way _ _ _,_,⟨t,v,us,e,h,p,r⟩=>⟨t,v,us,e,k _ _ h (Bg h hm (by intro z;cases z)),PlAt.kx k hm p,PlAt.kx k hm r⟩
def oR :Ax (xs++[v]) (-1)=some v:=by
 unfold Ax GX;rw[Ao (by decide),AB (by rw[AR,Fh];lia)];have e:((-1:Int)+((xs++[v]).length:Nat)).toNat=xs.length:=by rw[AR,Fh];lia
 rw[e];show(xs++[v])[xs.length]? = some v;rw[Ci (Am _),Nat.sub_self];rfl
def BQ:List (Str×Pn)->Pn->Pn
 | [],w=>w
 | x::r,w=>.way x.1 x.2 (BQ r w)
theorem PlAt.put (h1:H t=some (.tup [.str a,v]))(h2:PlAt C H p [v]):∀{pre:List (Str×Pn)}{us:List V},PlAt C H (BQ pre .nil) us->PlAt C H (BQ (pre++[(a,p)]) .nil) (us++[.ref t])
 | [],us,e=>by rw[show us=[] from e];exact⟨t,v,[],rfl,h1,h2,rfl⟩
 | x::r,us,⟨t',v',us',e,z1,z2,z3⟩=>by rw[e];exact⟨t',v',us'++[.ref t],rfl,z1,z2,PlAt.put h1 h2 z3⟩
inductive Z2 {α:Type}(R:V->α->Prop):List V->List α->Prop
 | nil:Z2 R [] []
 | cons {v:V}{t:α}{vs:List V}{ts:List α}(h:R v t) (r:Z2 R vs ts):Z2 R (v::vs) (t::ts)
def Z2.mono {α:Type}{R S:V->α->Prop}(m:∀v t,R v t->S v t){vs:List V}{ts:List α}(h:Z2 R vs ts):Z2 S vs ts:=by
 induction h with
 | nil=>exact .nil
 | cons a _ ih=>exact .cons (m _ _ a) ih
def Z2.len {α:Type}{R:V->α->Prop}{vs:List V}{ts:List α}(h:Z2 R vs ts):vs.length=ts.length:=by
 induction h with
 | nil=>rfl
 | cons _ _ ih=>rw[CF,(CF),ih]
def Z2.app {α:Type}{R:V->α->Prop}{vs vs':List V}{ts ts':List α}(h:Z2 R vs ts)(h':Z2 R vs' ts'):Z2 R (vs++vs') (ts++ts'):=by
 induction h with
 | nil=>exact h'
 | cons a _ ih=>exact .cons a ih
def Z2.rev {α:Type}{R:V->α->Prop}{vs:List V}{ts:List α}(h:Z2 R vs ts):Z2 R vs.reverse ts.reverse:=by
 induction h with
 | nil=>exact .nil
 | cons a _ ih=>rw[LS,LS];exact ih.app (.cons a .nil)
def Z2.at {α:Type}{R:V->α->Prop}{vs:List V}{ts:List α}(h:Z2 R vs ts):∀{i:Nat}{v:V},vs[i]? = some v->∃t,ts[i]? = some t/\R v t:=by
 induction h with
 | nil=>intro i v e;cases e
 | cons a _ ih=>
  intro i v e;cases i with
  | zero=>cases e;exact⟨_,rfl,a⟩
  | succ i=>exact ih e
def oN:Option Nat->V
 | none=>.non
 | some k=>.int (k:Int)
def RwV (C:C3)(H:Hp)(v:V)(x:Rw):Prop:=∃(t:Addr) (p:V),v=.ref t/\H t=some (.tup [p,oN x.2.1,oS x.2.2])/\PlAt C H x.1 [p]/\okP true x.1
def V0 (C:C3)(H:Hp)(v:V)(x:Rw):Prop:=∃(t:Addr) (p:V),v=.ref t/\H t=some (.tup [oS x.2.2,p])/\PlAt C H x.1 [p]/\okP true x.1
def RwV.same (s:Same H H')(v:V)(x:Rw):RwV C H v x->RwV C H' v x:=λ⟨t,p,e,h,pl,ok⟩=>⟨t,p,e,s _ _ h,pl.same s,ok⟩
def RwV.kx (k:∀c u,H c=some u->c≠m->H' c=some u)(hm:H m=some (.lst xs))(v:V)(x:Rw):RwV C H v x->RwV C H' v x:=λ⟨t,p,e,h,pl,ok⟩=>⟨t,p,e,k _ _ h (Bg h hm (by intro z;cases z)),pl.kx k hm,ok⟩
theorem Uc (n:Nat):∀{ws:Pn}{us:List V},okP false ws->PlAt C H ws us->Z2 (V0 C H) us (GV ws n)
 | .nil,us,_,e=>by rw[show us=[] from e];exact .nil
 | .way a p r,us,h,⟨t,v,us',e,h1,h2,h3⟩=>by rw[e];exact .cons ⟨t,v,rfl,h1,h2,h.2.1⟩ (Uc n h.2.2 h3)
def Xi (h:okP true t):1<=szP t:=by
 cases t with
 | stop=>exact Am _
 | dd _ _=>exact Jj ..
 | lk _ _=>exact Jj ..
 | nil=>exact h.elim
 | way _ _ _=>exact h.elim
def YD (hR:∀v x,R v x->okP true x.1) (h:Z2 R vs ws):∀n:Nat,ws.length<=(Cv ws n).length:=by
 induction h with
 | nil=>intro n;exact Am _
 | @cons v x _ ts a _ ih=>intro n;have h1:=ih (n+szP x.1);have h2:=Xi (hR _ _ a);show ts.length+1<=(Bc x.1 n x.2.1 x.2.2++Cv ts (n+szP x.1)).length;rw[AR,EZ];lia
structure MV (P:Program)(w:World)(K:W.Frag)(mg:Str->Option Value)(base:Heap)(C:Addr)(x:Str)(k:Nat)(sp:Sp):Prop where
 cl:Cls K C
 ex:∃(f:Addr) (fd:FuncData),B9 K C x f/\FnOk P w K mg base CX0 k f fd ["self"] sp/\Binds K fd ["self"] []
def VT (C:C3)(a:Addr)(sp:Sp):Prop:=(a=C.s/\sp=Ht)\/(a=C.d/\sp=Hu C.d)\/(a=C.l/\sp=Fs C.l)
inductive O1 (C:C3)(vs:List V)(H:Hp)(Q:VK)(E0_:XK):Prop
 | mk (p:V) (t:Pn) (c0:vs=[p]) (c1:PlAt C H t [p]) (c2:okP true t) (c3:A6 t<=40000) (c4:∀(r:Addr) (us:List V) (H':Hp),Same H H'->H r=none->H' r=some (.lst us)->Z2 (RwV C H') us (Cv [(t,none,none)] 0)->Q (.ref r) H'):O1 C vs H Q E0_
theorem Ub :∀{t:Pn}{x:Rw},x∈GV t n->x.2.1=some n
 | .way a p r,x,h=>by
  rcases(AK.mp h)with e | h
  ·rw[e]
  exact Ub h
 | .nil,_,h=>nomatch h
 | .stop,_,h=>nomatch h
 | .dd _ _,_,h=>nomatch h
 | .lk _ _,_,h=>nomatch h
def jE (h:x∈F8 t n):x.2.1=some n:=by
 cases t with
 | dd d r=>rw[AQ.mp h]
 | lk l ws=>exact Ub h
 | stop=>exact nomatch h
 | nil=>exact nomatch h
 | way _ _ _=>exact nomatch h
def lF (n:Nat)(E:XK)(h:PlAt C H t [v])(ok:okP true t):∃(a C' dx:Addr) (fs:List (Str×V)) (sp:Sp),v=.ref a/\H a=some (.ins C' dx fs)/\fs.lookup ("goes_on" : Str)=none/\VT C C' sp/\∀Q:VK,(∀(g:Addr) (us:List V) (H':Hp),Same H H'->H g=none->H' g=some (.lst us)->Z2 (V0 C H') us (F8 t n)->Q (.ref g) H')->sp [.ref a] H Q E:=by
 cases t with
 | stop=>obtain⟨o,dx,e,h⟩:=h;cases e;exact⟨o,C.s,dx,[],Ht,rfl,h,rfl,.inl ⟨rfl,rfl⟩,λQ q=>⟨.ref o,rfl,λl hl=>q l [] _ (Same.new hl) hl Ae .nil⟩⟩
 | dd d r=>obtain⟨o,dx,v',e,h,pl⟩:=h;cases e;exact⟨o,C.d,dx,_,Hu C.d,rfl,h,rfl,.inr (.inl ⟨rfl,rfl⟩),λQ q=>⟨o,dx,d,v',rfl,h,λl t H' s hl e1 e2=>q l [.ref t] H' s hl e1 (.cons ⟨t,v',rfl,e2,pl.same s,ok.2⟩ .nil)⟩⟩
 | lk l ws=>obtain⟨o,dx,u,us,e,h,hu,pl⟩:=h;cases e;exact⟨o,C.l,dx,_,Fs C.l,rfl,h,rfl,.inr (.inr ⟨rfl,rfl⟩),λQ q=>⟨o,dx,u,l,us,rfl,h,hu,λg hg=>q g us _ (Same.new hg) hg Ae (Uc n ok.2.2.2 (pl.same (Same.new hg)))⟩⟩
 | nil=>exact ok.elim
 | way _ _ _=>exact ok.elim
def VU (C:C3)(H:Hp)(full:List Rw)(p:V)(r wv:Addr)(n:Nat)(σ:L2.St)(H':Hp):Prop:=∃(v3 v4 v5:Option V) (dn st:List Rw) (ds ss:List V),σ = [some p,some (.ref r),some (.ref wv),v3,v4,v5]/\n=full.length-dn.length/\Same H H'/\H' r=some (.lst ds)/\H' wv=some (.lst ss)/\Z2 (RwV C H') ds dn/\Z2 (RwV C H') ss.reverse st/\dn++Cv st dn.length=full
abbrev Kh:List Str:=["plan"]
abbrev cT:List Str:=Be Kh ["rows", "waiting", "row", "answer", "rest"]
def scRowsIn:Au cT Kh (Ak MF):=AA
def ZU (F:Fun K "rows_in" "rows_in" MF f fd)(T:Bl mg)(GS:MV P w K mg base C.s "goes_on" 1 Ht)(GD:MV P w K mg base C.d "goes_on" 1 (Hu C.d))(GL:MV P w K mg base C.l "goes_on" 2 (Fs C.l)):FnOk P w K mg base CX0 3 f fd Kh (O1 C):=by
 refine F.oq scRowsIn λaj A ag s H vs Q E hr2 h=>?_;obtain⟨p,t,rfl,hp,ok,wt,q⟩:=h;have hr1:Room 1 _:=hr2.mono (by decide);have ak:sizeLine=16777216:=AL
 have hV_goes_on:∀C' sp,VT C C' sp->∃(k:Nat) (f:Addr) (fd:FuncData) (ps:List Str),Cls K C'/\B9 K C' "goes_on" f/\FnOk P w K mg base CX0 k f fd ps sp/\Room k _/\Binds K fd ps []:=λC' sp hv=>by
  rcases hv with⟨rfl,rfl⟩ | ⟨rfl,rfl⟩ | ⟨rfl,rfl⟩
  ·obtain⟨f',fd',m',g',b'⟩:=GS.ex;exact⟨1,f',fd',["self"],GS.cl,m',g',hr1,b'⟩
  ·obtain⟨f',fd',m',g',b'⟩:=GD.ex;exact⟨1,f',fd',["self"],GD.cl,m',g',hr1,b'⟩
  obtain⟨f',fd',m',g',b'⟩:=GL.ex;exact⟨2,f',fd',["self"],GL.cl,m',g',hr2,b'⟩
 have hfl:(Cv [(t,none,none)] 0).length<=40000:=by show(Bc t 0 none none++[]).length<=_;rw[BR,EZ];have:=Gv t;lia
 generalize hfu:Cv [(t,none,none)] 0=full at hfl q;refine⟨_,(Af (Ay (i:=1) scRowsIn.nd (Cy Ab)) (Af (Ay (i:=2) scRowsIn.nd (Cy (Aa (Bd (Aa (pv 0) (Aa Cw (Aa Cw Ab)))) Ab))) (Af (Y2 B4 (AS K3 (Bf C2 (by rfl) T.len CG (Aa (pv 2) Ab)) Ac (AO _)) (Af (Ay (i:=3) scRowsIn.nd (Nk Dx PySem.F.slot_list_pop PySem.F.type_list_pop hO (pv 2))) (Af (BD (Dq Dx Dy DN Dr (pv 1) (Aa (pv 3) Ab))) (Ah (BW B4 rfl (Zd (by rfl) T.reversed (by decide +kernel) (Aa (Zk (As AJ (pv 3) Ac (λ_ _=>rfl)) hV_goes_on) Ab)) (DV rfl (BP (AU (i:=4) scRowsIn.nd) (BP (AU (i:=5) scRowsIn.nd) DU))) (Ah (BD (Dq Dx Dy DN Dr (pv 2) (Aa (Bd (Aa (pv 5) (Aa (Aw K1 (Bf C2 (by rfl) T.len CG (Aa (pv 1) Ab)) Ac) (Aa (pv 4) Ab)))) Ab))))))))) (Ah (Ar (pv 1)))))),?_⟩;refine⟨AW,λr hr'=>?_⟩;obtain⟨H1,g0,s1,e1⟩:=Bu (H:=H) (o:=.lst []) hr';rw[g0];refine⟨_,rfl,AW,λt0 ht0=>?_⟩;obtain⟨H2,g0,s2,e2⟩:=Bu (H:=H1) (o:=.tup [p,.non,.non]) ht0;rw[g0];refine⟨AW,λwv hwv=>?_⟩;obtain⟨H3,g0,s3,e3⟩:=Bu (H:=H2) (o:=.lst [.ref t0]) hwv;rw[g0];have rw':r≠wv:=AM (s2 _ _ e1) hwv;have s03:=(s1.trans s2).trans s3;have hw0:H wv=none:=(s1.trans s2).free hwv;refine⟨VU C H full p r wv,⟨full.length,none,none,none,[],[(t,none,none)],[],[.ref t0],rfl,rfl,s03,s3 _ _ (s2 _ _ e1),e3,.nil,.cons ⟨t0,p,rfl,s3 _ _ e2,hp.same s03,ok⟩ .nil,hfu⟩,?_⟩;rintro n σ H4 ⟨v3,v4,v5,dn,st,ds,ss,rfl,rfl,s4,er,ew,zd,zs,ef⟩;have hzd:=zd.len;have hfd:dn.length<=full.length:=by rw[<- ef,AR];lia
 refine⟨_,rfl,_,_,rfl,.inl ⟨_,SqL.of ew,rfl⟩,_,_,rfl,rfl,_,rfl,?_⟩;generalize hrv:ss.reverse=rs at zs;cases zs with
 | nil=>
  have hs0:ss=[]:=List.reverse_eq_nil_iff.mp hrv;refine AZ (λz=>?_) (λ_=>?_)
  ·exfalso;have:=BF z;rw[hs0]at this;exact absurd this (by decide)
  refine⟨_,rfl,q r ds H4 s4 hr' er ?_⟩;have e9:dn=full:=by rw[<- ef];exact(BR _).symm
  rw[<- e9];exact zd
 | @cons v x rs st' hx zs=>
  have hss:ss=rs.reverse++[v]:=by rw[<- RJ ss,hrv,LS]
  subst hss;have hl:(rs.reverse++[v]).length=rs.reverse.length+1:=by rw[AR];rfl
  have hg:(rs.reverse++[v])[(rs.reverse++[v]).length-1]? = some v:=by rw[hl,Nat.add_sub_cancel,Ci (Am _),Nat.sub_self];rfl
  refine AZ (λ_=>?_) (λz=>absurd (Bb (by rw[hl];lia)) z);refine⟨λσ' H'=>∃m',m'<full.length-dn.length/\VU C H full p r wv m' σ' H',λ_ _ z=>z,?_⟩;refine⟨_,rfl,.inl ⟨rfl,_,SqL.of ew⟩,wv,_,_,rfl,rfl,ew,hg,?_⟩;rw[List.dropLast_concat];have k5:∀c u,H4 c=some u->c≠wv->(upd H4 wv (.lst rs.reverse)) c=some u:=λc u e hc=>by rw[Aj hc];exact e
  have ew5:(upd H4 wv (.lst rs.reverse)) wv=some (.lst rs.reverse):=Ae;generalize (upd H4 wv (.lst rs.reverse))=H5 at k5 ew5 ⊢;have er5:=k5 _ _ er rw';obtain⟨tt,pv,rfl,ht4,hpl4,hok⟩:=hx;have nw:tt≠wv:=Bg ht4 ew (by intro z;cases z);have nr:tt≠r:=Bg ht4 er (by intro z;cases z);have hef:=YC (t:=x.1) (b:=x.2.1) (a:=x.2.2) st' dn.length hok;have ef':dn++(x::Cv (F8 x.1 dn.length++st') (dn.length+1))=full:=by rw[<- ef];exact BY (dn++·) hef.symm
  have hfl2:dn.length+1<=full.length:=by rw[<- ef',AR,CF];lia
  refine⟨_,rfl,.inl ⟨rfl,_,SqL.of er5⟩,_,rfl,r,_,_,rfl,rfl,er5,by lia,?_⟩;have k6:∀c u,H5 c=some u->c≠r->(upd H5 r (.lst (ds++[.ref tt]))) c=some u:=λc u e hc=>by rw[Aj hc];exact e
  have er6:(upd H5 r (.lst (ds++[.ref tt]))) r=some (.lst (ds++[.ref tt])):=Ae;generalize (upd H5 r (.lst (ds++[.ref tt])))=H6 at k6 er6 ⊢;have ew6:=k6 _ _ ew5 rw'.symm;have ht6:=k6 _ _ (k5 _ _ ht4 nw) nr;have pl6:=(hpl4.kx k5 ew).kx k6 er5;have s46:∀c u,H c=some u->H6 c=some u:=λc u e=>k6 c u (k5 c u (s4 _ _ e) (AM e hw0)) (AM e hr');have zd6:Z2 (RwV C H6) (ds++[.ref tt]) (dn++[x]):=((zd.mono (RwV.kx k5 ew)).mono (RwV.kx k6 er5)).app (.cons ⟨tt,pv,rfl,ht6,pl6,hok⟩ .nil);have zs6:=(zs.mono (RwV.kx k5 ew)).mono (RwV.kx k6 er5);have at0:Ax [pv,oN x.2.1,oS x.2.2] ((0:Nat):Int)=some pv:=Av rfl;obtain⟨a,C',dx,fs,sp,rfl,ha,hlk,hv,go⟩:=lF dn.length E0 pl6 hok;refine⟨_,rfl,tt,_,_,_,rfl,rfl,SqT.of ht6,at0,a,C',dx,fs,sp,rfl,ha,hlk,hv,go _ λg us H7 s7 hg eg zk=>?_⟩;have zk7:=zk.len;refine⟨g,us,rfl,SqL.of eg,?_⟩;have gw:g≠wv:=(AM ew6 hg).symm;have gr:g≠r:=(AM er6 hg).symm
  have hall:(F8 x.1 dn.length++st').length<=40000:=by
   have h1:=YD (R:=λ_ y=>okP true y.1) (λ_ _ z=>z) ((zk.mono (λ_ _ hh0=>by obtain⟨_,_,_,_,_,z⟩:=hh0;exact z)).app (zs6.mono (λ_ _ hh0=>by obtain⟨_,_,_,_,_,z⟩:=hh0;exact z))) (dn.length+1);have h2:full.length=dn.length+((Cv (F8 x.1 dn.length++st') (dn.length+1)).length+1):=by rw[<- ef',AR,CF]
   lia
  rw[AR]at hall;have hrl:rs.reverse.length=st'.length:=by rw[Oo];exact zs.len
  refine lU (K:=K) (a:=g) (xs:=us) (λi σ H8=>∃(v4 v5:Option V) (ts:List V),σ = [some p,some (.ref r),some (.ref wv),some (.ref tt),v4,v5]/\(∀c u,H7 c=some u->c≠wv->H8 c=some u)/\H8 wv=some (.lst (rs.reverse++ts))/\Z2 (RwV C H8) ts ((F8 x.1 dn.length).reverse.take i))
   ⟨v4,v5,[],rfl,λc u e _=>e,by rw[BR];exact s7 _ _ ew6,.nil⟩ (λi σ H8 _ hh0=>by obtain⟨_,_,_,_,k8,_⟩:=hh0;exact SqL.of (k8 _ _ eg gw)) ?_ ?_
  ·rintro i y σ H8 hy ⟨v4,v5,ts,rfl,k8,ew8,zt⟩;have hiu:=(AN.mp hy).1;rw[Oo]at hiu;obtain⟨kd,hkd,tk,pk,rfl,htk,plk,okk⟩:=zk.rev.at hy;have htk8:=k8 _ _ htk (Bg htk (s7 _ _ ew6) (by intro z;cases z));have plk8:=plk.kx k8 (s7 _ _ ew6);have er8:=k8 _ _ (s7 _ _ er6) rw';have hkn:kd.2.1=some dn.length:=jE (List.mem_reverse.mp (Bt hkd));obtain⟨hik,ekd⟩:=AN.mp hkd;have htl:=zt.len;rw[BO]at htl;have hds:(ds++[V.ref tt]).length=dn.length+1:=by rw[AR,Fh,hzd]
   have hrt:(rs.reverse++ts).length=rs.reverse.length+ts.length:=AR ..;refine⟨tk,_,rfl,SqT.of htk8,rfl,_,_,rfl,_,_,rfl,rfl,?_⟩;refine⟨_,rfl,.inl ⟨rfl,_,SqL.of ew8⟩,_,rfl,_,rfl,_,_,rfl,.inl ⟨_,SqL.of er8,rfl⟩,_,_,rfl,rfl,_,rfl,AW,λt9 ht9=>?_⟩;rw[show(((ds++[V.ref tt]).length:Nat):Int)-1=(dn.length:Int) by lia];obtain⟨H9,g0,s9,e9⟩:=Bu (H:=H8) (o:=.tup [pk,.int (dn.length:Int),oS kd.2.2]) ht9;rw[g0];have ew9:=s9 _ _ ew8;refine⟨wv,_,_,rfl,rfl,ew9,by lia,?_⟩;have kA:∀c u,H9 c=some u->c≠wv->(upd H9 wv (.lst (rs.reverse++ts++[.ref t9]))) c=some u:=λc u e hc=>by rw[Aj hc];exact e
   have nt:t9≠wv:=Bg e9 ew9 (by intro z;cases z);refine⟨some (oS kd.2.2),some pk,ts++[.ref t9],rfl,λc u e hc=>kA c u (s9 _ _ (k8 c u e hc)) hc,by rw[<- Fn];exact Ae,?_⟩;rw[BK hik,ekd];refine((zt.mono (RwV.same s9)).mono (RwV.kx kA ew9)).app (.cons ⟨t9,pk,rfl,?_,(plk8.same s9).kx kA ew9,okk⟩ .nil);rw[hkn];exact kA _ _ e9 nt
  rintro σ H8 ⟨v4,v5,ts,rfl,k8,ew8,zt⟩;rw[zk7,<- Oo,Bq]at zt;have sx:∀c u,H6 c=some u->c≠wv->H8 c=some u:=λc u e hc=>k8 c u (s7 _ _ e) hc;refine⟨full.length-(dn++[x]).length,by rw[AR,Fh];lia,some (.ref tt),v4,v5,dn++[x],F8 x.1 dn.length++st',ds++[.ref tt],rs.reverse++ts,rfl,rfl,λc u e=>sx c u (s46 c u e) (AM e hw0),sx _ _ er6 rw',ew8,zd6.mono (RwV.kx sx ew6),?_,?_⟩
  ·rw[List.reverse_append,RJ];have z1:=zt.rev;rw[RJ]at z1;exact z1.app (zs6.mono (RwV.kx sx ew6))
  rw[AR,Fh,Fn];exact ef'
structure Ed where
 ds:List Dee
 ls:List Loo
 g:Nat
 k:Nat
def Sb (s t:Nat):Prop:=s&&&t=s
instance (s t:Nat):Decidable (Sb s t):=inferInstanceAs (Decidable (_=_))
def sb_iff :Sb s t↔∀i,s.testBit i=true->t.testBit i=true:=by
 unfold Sb;constructor
 ·intro e i hi;rw[<- e,DZ,B8]at hi;exact hi.2
 intro h;refine Ee λi=>?_;rw[DZ];cases hb:s.testBit i with
 | false=>rfl
 | true=>rw[h i hb];rfl
structure Ct (m:Nat)(e:Ed)(as:List Str):Prop where
 ch:Hl m e.ds e.ls as
 hg:e.g<2^m
 hk:e.k<2^m
 m7:m<=7
 rd:∀d∈e.ds,Rp d.name
 rl:∀l∈e.ls,Rp l.name
structure Hk (K:W.Frag)(C:Addr):Prop where
 cl:Cls K C
 n1:NoAttr K C "told_chart"
 n2:NoAttr K C "told_goal"
 n3:NoAttr K C "told_keep"
def e1 (c:Addr):List (Str×V):=AI "told_chart" (.ref c) []
def e2 (c:Addr)(g:Nat):List (Str×V):=AI "told_goal" (.int (g:Int)) (e1 c)
def e3 (c:Addr)(g k:Nat):List (Str×V):=AI "told_keep" (.int (k:Int)) (e2 c g)
def NI {k:Nat} (h:n∉(["told_chart", "told_goal", "told_keep"]:List Str)):(e3 c g k).lookup n=none:=by simp only[AK,Bw,Bv,Fk]at h;obtain⟨h1,h2,h3⟩:=h;unfold e3 e2 e1;rw[Bh,Ao h3,Bh,Ao h2,Bh,Ao h1];rfl
def mU {k:Nat}:(e3 c g k).lookup ("told_chart" : Str)=some (.ref c):=by unfold e3 e2 e1;rw[Bh,Ao (by decide +kernel),Bh,Ao (by decide +kernel),Bh,AB rfl]
def mT {k:Nat}:(e3 c g k).lookup ("told_goal" : Str)=some (.int (g:Int)):=by unfold e3 e2;rw[Bh,Ao (by decide +kernel),Bh,AB rfl]
def mR {k:Nat}:(e3 c g k).lookup ("told_keep" : Str)=some (.int (k:Int)):=by unfold e3;rw[Bh,AB rfl]
inductive ErAt (CE C:Addr)(H:Hp)(x:Addr)(m:Nat)(e:Ed):Prop
 | mk (dx c:Addr) (hx:H x=some (.ins CE dx (e3 c e.g e.k))) (hc:ChAt C H c m e.ds e.ls):ErAt CE C H x m e
def ErAt.same {CE:Addr} (h:ErAt CE C H x m e)(s:Same H H'):ErAt CE C H' x m e:=by obtain⟨dx,c,hx,hc⟩:=h;exact⟨dx,c,s _ _ hx,hc.same s⟩
abbrev nV (ss:List Nat):List V:=ss.map λy:Nat=>V.int (y:Int)
inductive Po (CE:Addr)(vs:List V)(H:Hp)(Q:VK)(E0_:XK):Prop
 | mk (y dy c:Addr) (g k:Nat) (c0:vs=[.ref y,.ref c,.int (g:Int),.int (k:Int)]) (c1:H y=some (.ins CE dy [])) (c2:∀H':Hp,(∀c u,H c=some u->c≠y->H' c=some u)->H' y=some (.ins CE dy (e3 c g k))->Q .non H'):Po CE vs H Q E0_
inductive Mr (CE C:Addr)(vs:List V)(H:Hp)(Q:VK)(E0_:XK):Prop
 | mk (x:Addr) (m:Nat) (e:Ed) (c0:vs=[.ref x]) (c1:ErAt CE C H x m e) (c2:∀c,ChAt C H c m e.ds e.ls->Q (.ref c) H):Mr CE C vs H Q E0_
inductive Pp (CE C:Addr)(vs:List V)(H:Hp)(Q:VK)(E0_:XK):Prop
 | mk (x:Addr) (m:Nat) (e:Ed) (c0:vs=[.ref x]) (c1:ErAt CE C H x m e) (c2:Q (.int (e.g:Int)) H):Pp CE C vs H Q E0_
inductive Pm (CE C:Addr)(vs:List V)(H:Hp)(Q:VK)(E0_:XK):Prop
 | mk (x:Addr) (m:Nat) (e:Ed) (c0:vs=[.ref x]) (c1:ErAt CE C H x m e) (c2:Q (.int (e.k:Int)) H):Pm CE C vs H Q E0_
abbrev Nn:List Str:=["self", "chart", "goal", "keep"]
abbrev fU:List Str:=Nn
def Yc:Au fU Nn (Ak J3):=AA
abbrev Ir:List Str:=["self"]
abbrev fW:List Str:=Ir
def Ye:Au fW Ir (Ak P4):=AA
abbrev KJ:List Str:=["self"]
abbrev fV:List Str:=KJ
def Yd:Au fV KJ (Ak P3):=AA
abbrev KI:List Str:=["self"]
abbrev fT:List Str:=KI
def Yb:Au fT KI (Ak P2):=AA
def aS {CE:Addr} (F:FunD K "__init__" "Errand.__init__" J3 f fd TD)(LE:Hk K CE):FnOk P w K mg base CX0 2 f fd Nn (Po CE):=by
 refine F.ok Yc (λvs H Q E h=>?_) (λaj A ag s H vs Q E hr h=>?_)
 ·obtain⟨y,dy,c,g,k,rfl,_⟩:=h;rfl
 obtain⟨y,dy,c,g,k,rfl,hy,q⟩:=h;refine⟨_,(Af (DT (pv 0) (pv 1) rfl) (Af (DT (pv 0) (pv 2) rfl) (Ah (DT (pv 0) (Qu (AS GT (pv 3) Cw (AO _)) Zi (pv 3)) rfl)))),?_⟩;refine⟨_,rfl,_,rfl,y,CE,dy,_,rfl,hy,LE.cl,LE.n1,by show 0<1000;decide,?_⟩;refine⟨_,rfl,_,rfl,y,CE,dy,_,rfl,Ae,LE.cl,LE.n2,by show 1<1000;decide,?_⟩;refine⟨_,rfl,rfl,_,rfl,?_⟩;refine A4 ?_;refine⟨_,rfl,_,rfl,y,CE,dy,_,rfl,Ae,LE.cl,LE.n3,by show 2<1000;decide,?_⟩;exact q _ (λc u e n=>by rw[Aj n,Aj n,Aj n];exact e) Ae
def aV {CE:Addr} (F:Fun K "chart" "Errand.chart" P4 f fd)(LE:Hk K CE):FnOk P w K mg base CX0 1 f fd Ir (Mr CE C):=by refine F.oq Ye λaj A ag s H vs Q E hr h=>?_;obtain⟨x,m,e,rfl,⟨dx,c,hx,hc⟩,q⟩:=h;refine⟨_,(Ah (Ar (Co (pv 0) rfl))),?_⟩;exact⟨_,rfl,x,CE,dx,_,_,rfl,hx,LE.cl,LE.n1,mU,q c hc⟩
def aU {CE:Addr} (F:Fun K "goal" "Errand.goal" P3 f fd)(LE:Hk K CE):FnOk P w K mg base CX0 1 f fd KJ (Pp CE C):=by refine F.oq Yd λaj A ag s H vs Q E hr h=>?_;obtain⟨x,m,e,rfl,⟨dx,c,hx,hc⟩,q⟩:=h;refine⟨_,(Ah (Ar (Co (pv 0) rfl))),?_⟩;exact⟨_,rfl,x,CE,dx,_,_,rfl,hx,LE.cl,LE.n2,mT,q⟩
def aR {CE:Addr} (F:Fun K "keep" "Errand.keep" P2 f fd)(LE:Hk K CE):FnOk P w K mg base CX0 1 f fd KI (Pm CE C):=by refine F.oq Yb λaj A ag s H vs Q E hr h=>?_;obtain⟨x,m,e,rfl,⟨dx,c,hx,hc⟩,q⟩:=h;refine⟨_,(Ah (Ar (Co (pv 0) rfl))),?_⟩;exact⟨_,rfl,x,CE,dx,_,_,rfl,hx,LE.cl,LE.n3,mR,q⟩
def Dc (e:Ed)(d:Str)(s:Nat):Nat:=match e.ds.find? λx=>decide (x.name=d)with
 | some de=>Fc (.did de) s
 | none=>0
def A3 (e:Ed)(l a:Str)(s:Nat):Nat:=match e.ls.find? λx=>decide (x.name=l)with
 | some lo=>s&&&bt (Bi lo.tab a)
 | none=>0
def NG {ds:List Dee}(nd:(ds.map Dee.name).Nodup){d:Dee}(h:d∈ds):(ds.find? λx=>decide (x.name=d.name))=some d:=by
 induction ds with
 | nil=>cases h
 | cons x r ih=>
  rw[BU,Ey]at nd;rw[CB];by_cases e:x.name=d.name
  ·rw[Bb e];rcases(AK.mp h)with h | h
   ·rw[h]
   exact absurd (by rw[e];exact AE.mpr ⟨d,h,rfl⟩) nd.1
  rw[Cg e];rcases(AK.mp h)with h | h
  ·rw[h]at e;exact absurd rfl e
  exact ih nd.2 h
def NF {ls:List Loo}(nd:(ls.map Loo.name).Nodup){l:Loo}(h:l∈ls):(ls.find? λx=>decide (x.name=l.name))=some l:=by
 induction ls with
 | nil=>cases h
 | cons x r ih=>
  rw[BU,Ey]at nd;rw[CB];by_cases e:x.name=l.name
  ·rw[Bb e];rcases(AK.mp h)with h | h
   ·rw[h]
   exact absurd (by rw[e];exact AE.mpr ⟨l,h,rfl⟩) nd.1
  rw[Cg e];rcases(AK.mp h)with h | h
  ·rw[h]at e;exact absurd rfl e
  exact ih nd.2 h
def Hr (ok:Ct m e as) (h:d∈e.ds)(s:Nat):Dc e d.name s=Fc (.did d) s:=by unfold Dc;rw[NG (BZ.mp ok.ch.nd).1 h]
def F3 (ok:Ct m e as) (h:l∈e.ls)(a:Str)(s:Nat):A3 e l.name a s=s&&&bt (Bi l.tab a):=by unfold A3;rw[NF (BZ.mp ok.ch.nd).2.1 h]
def Bz (e:Ed):Pn->Str->Nat->List Nat
 | .stop,_,s=>[s]
 | .dd d r,_,s=>s::Bz e r d (Dc e d s)
 | .lk l ws,_,s=>s::Bz e ws l s
 | .nil,_,_=>[]
 | .way a p r,l,s=>Bz e p l (A3 e l a s)++Bz e r l s
theorem DS (e:Ed):∀(t:Pn) (l:Str) (s:Nat),(Bz e t l s).length=szP t
 | .stop,_,_=>rfl
 | .dd _ r,_,_=>BY (· + 1) (DS e r _ _)
 | .lk _ ws,_,_=>BY (· + 1) (DS e ws _ _)
 | .nil,_,_=>rfl
 | .way a p r,l,s=>by show(Bz e p l (A3 e l a s)++Bz e r l s).length=szP p+szP r;rw[AR,DS e p,DS e r]
def L5 (e:Ed):Pn->Nat->Prop
 | .stop,s=>Sb s e.k/\Sb s e.g
 | .dd d _,s=>Sb s e.k/\∃de∈e.ds,de.name=d/\G1 de s=[]
 | .lk l ws,s=>Sb s e.k/\∃lo∈e.ls,lo.name=l/\ER lo s=[]/\∀i,s.testBit i=true->∃z∈BL ws,lo.tab[i]? = some (some z)
 | _,_=>True
def DC (e:Ed):Pn->Str->Nat->Prop
 | .stop,_,s=>L5 e .stop s
 | .dd d r,_,s=>L5 e (.dd d r) s/\DC e r d (Dc e d s)
 | .lk l ws,_,s=>L5 e (.lk l ws) s/\DC e ws l s
 | .nil,_,_=>True
 | .way a p r,l,s=>DC e p l (A3 e l a s)/\DC e r l s
def K9 (e:Ed)(t:Pn)(a:Option Str)(s:Nat):Nat:=match t,a with
 | .dd d _,_=>Dc e d s
 | .lk l _,some y=>A3 e l y s
 | _,_=>0
def kE:Pn->Bool
 | .dd _ _=>true
 | _=>false
def jZ:Pn->Bool
 | .lk _ _=>true
 | _=>false
def R8 (t:Pn)(a:Option Str):Prop:=(kE t=true/\a=none)\/(jZ t=true/\∃y,a=some y)
theorem Ka (ok:Ct m e as):∀(t:Pn) (l:Str) (s:Nat),s<2^m->∀c∈Bz e t l s,c<2^m
 | .stop,_,s,hs,c,h=>by rw[AQ.mp h];exact hs
 | .dd d r,_,s,hs,c,h=>by
  rcases(AK.mp h)with h | h
  ·rw[h];exact hs
  refine Ka ok r d _ ?_ c h;unfold Dc;cases hf:e.ds.find? λx=>decide (x.name=d)with
  | none=>exact Es m
  | some de=>exact Lh (ls:=e.ls) ok.ch.m2 ok.ch.de (.did de (EU hf)) hs
 | .lk l ws,_,s,hs,c,h=>by
  rcases(AK.mp h)with h | h
  ·rw[h];exact hs
  exact Ka ok ws l s hs c h
 | .nil,_,_,_,_,h=>nomatch h
 | .way a p r,l,s,hs,c,h=>by
  rcases(A5.mp h)with h | h
  ·refine Ka ok p l _ ?_ c h;unfold A3;cases hf:e.ls.find? λx=>decide (x.name=l)with
   | none=>exact Es m
   | some lo=>exact FQ Ji hs
  exact Ka ok r l s hs c h
theorem K8 (full:List Rw)(C:List Nat):∀(t:Pn) (q:Bool) (l:Str) (s n:Nat) (b:Option Nat) (a:Option Str),okP q t->(∀i x,(Bc t n b a)[i]? = some x->full[n+i]? = some x)->(∀i c,(Bz e t l s)[i]? = some c->C[n+i]? = some c) ->
  ∀(i:Nat) (x:Rw) (c:Nat),(Bc t n b a)[i]? = some x->(Bz e t l s)[i]? = some c ->
   (x.2.1=b/\((q=true/\x.2.2=a/\c=s)\/(q=false/\∃y,x.2.2=some y/\c=A3 e l y s)))\/∃k tk ck,x.2.1=some k/\n<=k/\k<n+i/\full[k]?.map (·.1)=some tk/\C[k]? = some ck/\R8 tk x.2.2/\c=K9 e tk x.2.2 ck
 | .stop,q,l,s,n,b,a,ok,_,_,i,x,c,h1,h2=>by
  cases q with
  | false=>exact ok.elim
  | true=>
   cases i with
   | zero=>cases h1;cases h2;exact .inl ⟨rfl,.inl ⟨rfl,rfl,rfl⟩⟩
   | succ i=>cases h1
 | .dd d r,true,l,s,n,b,a,ok,hf,hC,i,x,c,h1,h2=>by
  cases i with
  | zero=>cases h1;cases h2;exact .inl ⟨rfl,.inl ⟨rfl,rfl,rfl⟩⟩
  | succ i=>
   right;have f0:=hf 0 (.dd d r,b,a) rfl;have c0:=hC 0 s rfl;rcases K8 full C r true d _ (n+1) (some n) none ok.2 (λi x h=>by have:=hf (i+1) x h;rw[show n+1+i=n+(i+1) by lia];exact this) (λi c h=>by have:=hC (i+1) c h;rw[show n+1+i=n+(i+1) by lia];exact this) i x c h1 h2 with⟨e1,⟨_,e2,e3⟩ | ⟨z,_⟩⟩ | ⟨k,tk,ck,e1,k1,k2,r1⟩
   ·exact⟨n,.dd d r,s,e1,Am _,by lia,by rw[NX]at f0;rw[f0];rfl,by rw[NX]at c0;exact c0,.inl ⟨rfl,e2⟩,by rw[e3];rfl⟩
   ·cases z
   exact⟨k,tk,ck,e1,by lia,by lia,r1⟩
 | .lk l' ws,true,l,s,n,b,a,ok,hf,hC,i,x,c,h1,h2=>by
  cases i with
  | zero=>cases h1;cases h2;exact .inl ⟨rfl,.inl ⟨rfl,rfl,rfl⟩⟩
  | succ i=>
   right;have f0:=hf 0 (.lk l' ws,b,a) rfl;have c0:=hC 0 s rfl;rcases K8 full C ws false l' _ (n+1) (some n) none ok.2.2.2 (λi x h=>by have:=hf (i+1) x h;rw[show n+1+i=n+(i+1) by lia];exact this) (λi c h=>by have:=hC (i+1) c h;rw[show n+1+i=n+(i+1) by lia];exact this) i x c h1 h2 with⟨e1,⟨z,_⟩ | ⟨_,y,e2,e3⟩⟩ | ⟨k,tk,ck,e1,k1,k2,r1⟩
   ·cases z
   ·exact⟨n,.lk l' ws,s,e1,Am _,by lia,by rw[NX]at f0;rw[f0];rfl,by rw[NX]at c0;exact c0,.inr ⟨rfl,y,e2⟩,by rw[e2,e3];rfl⟩
   exact⟨k,tk,ck,e1,by lia,by lia,r1⟩
 | .nil,_,_,_,_,_,_,_,_,_,i,x,c,h1,_=>by cases h1
 | .way y p r,false,l,s,n,b,a,ok,hf,hC,i,x,c,h1,h2=>by
  have h1':(Bc p n b (some y)++Bc r (n+szP p) b none)[i]? = some x:=h1;have h2':(Bz e p l (A3 e l y s)++Bz e r l s)[i]? = some c:=h2;have pl:=EZ p n b (some y);have sl:=DS e p l (A3 e l y s);by_cases hi:i<szP p
  ·rw[Cr (by rw[pl];exact hi)]at h1';rw[Cr (by rw[sl];exact hi)]at h2'
   rcases K8 full C p true l _ n b (some y) ok.2.1 (λi x h=>hf i x (by
    show(Bc p n b (some y)++Bc r (n+szP p) b none)[i]? = some x
    rw[Cr (AN.mp h).1];exact h)) (λi c h=>hC i c (by
    show(Bz e p l (A3 e l y s)++Bz e r l s)[i]? = some c
    rw[Cr (AN.mp h).1];exact h)) i x c h1' h2' with⟨e1,⟨_,e2,e3⟩ | ⟨z,_⟩⟩ | r1
   ·exact .inl ⟨e1,.inr ⟨rfl,y,e2,e3⟩⟩
   ·cases z
   exact .inr r1
  rw[Ci (by rw[pl];lia),pl]at h1';rw[Ci (by rw[sl];lia),sl]at h2'
  rcases K8 full C r false l s (n+szP p) b none ok.2.2 (λi x h=>by
   rw[show n+szP p+i=n+(szP p+i) by lia]
   refine hf (szP p+i) x ?_
   show(Bc p n b (some y)++Bc r (n+szP p) b none)[szP p+i]? = some x
   rw[Ci (by rw[pl];lia),pl,RW];exact h) (λi c h=>by
   rw[show n+szP p+i=n+(szP p+i) by lia]
   refine hC (szP p+i) c ?_
   show(Bz e p l (A3 e l y s)++Bz e r l s)[szP p+i]? = some c
   rw[Ci (by rw[sl];lia),sl,RW];exact h) (i-szP p) x c h1' h2' with⟨e1,⟨z,_⟩ | r1⟩ | ⟨k,tk,ck,e1,k1,k2,r1⟩
  ·cases z
  ·exact .inl ⟨e1,.inr r1⟩
  exact .inr ⟨k,tk,ck,e1,by lia,by lia,r1⟩
 | .dd _ _,false,_,_,_,_,_,ok,_,_,_,_,_,_,_=>ok.elim
 | .lk _ _,false,_,_,_,_,_,ok,_,_,_,_,_,_,_=>ok.elim
 | .way _ _ _,true,_,_,_,_,_,ok,_,_,_,_,_,_,_=>ok.elim
structure OH (K:W.Frag)(C:C3):Prop where
 nS:OG K C.s
 nD:OG K C.d
 nL:OG K C.l
 sD:PySem.W.kin_not K C.s C.d=true
 sL:PySem.W.kin_not K C.s C.l=true
 dS:PySem.W.kin_not K C.d C.s=true
 dL:PySem.W.kin_not K C.d C.l=true
 lS:PySem.W.kin_not K C.l C.s=true
 lD:PySem.W.kin_not K C.l C.d=true
def IK :PySem.W.isIn K (.ref C) C=true:=by unfold PySem.W.isIn;simp
def Dn (ds:List Dee)(ls:List Loo):Pn->Prop
 | .dd d _=>d∈ds.map Dee.name
 | .lk l _=>l∈ls.map Loo.name
 | _=>True
inductive Pe (C:C3)(CC:Addr)(vs:List V)(H:Hp)(Q:VK)(E0_:XK):Prop
 | mk (c:Addr) (m:Nat) (e:Ed) (as:List Str) (v:V) (t:Pn) (a:Option Str) (s:Nat) (c0:vs=[.ref c,v,oS a,.int (s:Int)]) (c1:ChAt CC H c m e.ds e.ls) (c2:Ct m e as) (c3:s<2^m) (c4:PlAt C H t [v]) (c5:okP true t) (c6:L5 e t s) (c7:R8 t a) (c8:∀H':Hp,Same H H'->Q (.int (K9 e t a s:Nat)) H'):Pe C CC vs H Q E0_
theorem Sd :∀{ws:Pn}{us:List V},okP false ws->PlAt C H ws us->∃(ts:List Addr) (kvs:List (Ag×V)),us=ts.map V.ref/\ts.length=kvs.length/\kvs.map (·.1)=(BL ws).map (λz=>(Sum.inr z:Ag))/\∀(i:Nat) (t:Addr) (k:Ag) (v:V),ts[i]? = some t->kvs[i]? = some (k,v)->H t=some (.tup [kV k,v])
 | .nil,us,_,e=>⟨[],[],e,rfl,rfl,λi t k v h=>by cases h⟩
 | .way a p r,us,ok,⟨t,v,us',e,h1,_,h3⟩=>by
  obtain⟨ts,kvs,e1,e2,e3,g⟩:=Sd ok.2.2 h3;refine⟨t::ts,((Sum.inr a:Ag),v)::kvs,by rw[e,e1];rfl,by rw[CF,CF,e2],by rw[BU,e3];rfl,λi t' k' v' h h'=>?_⟩;cases i with
  | zero=>cases h;cases h';exact h1
  | succ i=>exact g i t' k' v' h h'
inductive PQ (C:C3)(CC:Addr)(vs:List V)(H:Hp)(Q:VK)(E0_:XK):Prop
 | mk (c:Addr) (m:Nat) (e:Ed) (as:List Str) (v:V) (lo:Loo) (ws:Pn) (c0:vs=[.ref c,v]) (c1:ChAt CC H c m e.ds e.ls) (c2:Ct m e as) (c3:lo∈e.ls) (c4:PlAt C H (.lk lo.name ws) [v]) (c5:okP true (.lk lo.name ws)) (c6:∀(F:Nat) (H':Hp),Same H H'->(∀i,F.testBit i=true↔∃z∈BL ws,lo.tab[i]? = some (some z))->Q (.int (F:Int)) H'):PQ C CC vs H Q E0_
abbrev KP:List Str:=["chart", "rows"]
abbrev gJ:List Str:=Be KP ["row"]
def scCheckNames:Au gJ KP (Ak M3):=AA
abbrev Km:List Str:=["chart", "one", "answer", "some"]
abbrev dG:List Str:=Km
def XX:Au dG Km (Ak MK):=AA
abbrev KW:List Str:=["chart", "one"]
abbrev gX:List Str:=Be KW ["answers", "found", "answer", "tellers"]
def scAnswered:Au gX KW (Ak M7):=AA
abbrev KH:List Str:=["errand", "one", "some"]
abbrev fS:List Str:=Be KH ["chart", "found"]
def scFaults:Au fS KH (Ak M0):=AA
abbrev Nq:List Str:=["errand", "number", "one", "some"]
abbrev gH:List Str:=Be Nq ["wrong", "first"]
def scCheckRow:Au gH Nq (Ak HR):=AA
abbrev Fx:List Str:=["errand", "some", "plan"]
abbrev cQ:List Str:=Be Fx ["chart", "rows", "come", "one", "above", "answer", "here"]
def scWalked:Au cQ Fx (Ak Hx):=AA
abbrev GP:List Str:=["errand", "some", "plan"]
abbrev fX:List Str:=GP
def Yf:Au fX GP (Ak J4):=AA
def aH (F:Fun K "led_on" "led_on" MK f fd)(T:Bl mg)(L:Cl K CC)(I:OH K C)(LD:JB K C.d)(LL:Gr K C.l)(mD:mg "Do" = some (.ref C.d))
  (C_after:Ca P w K mg base CX0 5 "after" M8 KY (PR CC))(C_parts:Ca P w K mg base CX0 5 "parts" JP Ki (O4 CC)):FnOk P w K mg base CX0 6 f fd Km (Pe C CC):=by
 refine F.oq XX λaj A ag s0 H vs Q E hr5 h=>?_
 obtain⟨c,m,e,as,v,t,a,s,rfl,ch,ok,hs,pl,okt,ro,kd,q⟩:=h
 have hu:=Em hr5
 refine⟨_,(Af (AH (Cn (Bf IW (by rfl) T.isi Eo (Aa (pv 1) (Aa (EH (v:=.ref C.d) (by rfl) mD rfl) Ab)))) (Ah (Ar (Aq C_after hr5 Ai (Aa (pv 0) (Aa (Co (pv 1) rfl) (Aa (pv 3) Ab)))))) AD) (Ah (Ar (Tt hu (Cb (NS rfl) (by rfl) T.dict NU (Aa (Aq C_parts hr5 Ai (Aa (pv 0) (Aa (Co (pv 1) rfl) (Aa (pv 3) Ab)))) Ab)) (pv 2) Ac ⟨by rfl,by rfl,by rfl,by rfl⟩)))),?_⟩
 cases t with
 | stop=>rcases kd with⟨z,_⟩ | ⟨z,_⟩ <;> cases z
 | dd d r=>
  obtain⟨o,dx,w',e',h,_⟩:=pl;cases e';obtain⟨_,de,hde,rfl,can⟩:=ro;refine⟨_,rfl,o,C.d,C.d,dx,_,rfl,h,.inl ⟨IK,_,rfl,?_⟩⟩;refine BH ?_;refine⟨_,rfl,_,rfl,o,C.d,dx,_,_,rfl,h,LD.cl,LD.n1,QV _ w',_,rfl,c,m,_,_,as,de.name,s,rfl,ch,ok.ch,hs,.inr ⟨de,hde,rfl,ok.rd de hde,.inl ⟨can,λH' s'=>?_⟩⟩⟩;have:=q H' s';have e1:K9 e (.dd de.name r) a s=Fc (.did de) s:=by show(match (Pn.dd de.name r),a with | .dd d _,_=>Dc e d s | .lk l _,some y=>A3 e l y s | _,_=>0)=_;exact Hr ok hde s
  rw[e1]at this;exact this
 | lk l ws=>
  obtain⟨o,dx,u,us',e',h,_⟩:=pl;cases e';obtain⟨_,lo,hlo,rfl,can,_⟩:=ro
  obtain⟨y,rfl⟩:∃y,a=some y:=by
   rcases kd with⟨z,_⟩ | ⟨_,z⟩
   ·cases z
   exact z
  refine⟨_,rfl,o,C.l,C.d,dx,_,rfl,h,.inr ⟨I.nL,I.lD,_,rfl,?_⟩⟩;refine A4 ?_;dsimp only[A9];refine⟨_,rfl,_,rfl,o,C.l,dx,_,_,rfl,h,LL.cl,LL.n1,NH _ (.ref u),_,rfl,c,m,_,_,as,lo.name,s,rfl,ch,ok.ch,hs,.inr ⟨lo,hlo,rfl,ok.rl lo hlo,.inl ⟨can,λr ts qs H1 s1 hr er qr pt ql=>?_⟩⟩⟩
  have nk:((qs.map λq=>((Sum.inr q.1:Ag),V.int (q.2:Int))).map (·.1)).Nodup:=by
   have:=pt.ri.nd;rw[BC];have e2:qs.map ((λp:Ag×V=>p.1) ∘ λq=>((Sum.inr q.1:Ag),V.int (q.2:Int)))=(qs.map (·.1)).map λz=>(Sum.inr z:Ag):=by rw[BC];rfl
   rw[e2];exact List.Pairwise.map _ (λa b hab z=>hab (Et z)) this
  refine⟨r,ts,(qs.map λq=>((Sum.inr q.1:Ag),V.int (q.2:Int))),rfl,er,by rw[Al];exact qr.len,by rw[Al];exact ql,λi t k v h1 h2=>?_,λd hd=>?_⟩
  ·rw[AV]at h2;obtain⟨q',hq',e2⟩:=CH.mp h2;cases e2;exact qr.got i t q' h1 hq'
  rw[Nc nk];have s2:Same H1 (upd H1 d (.dK (qs.map λq=>((Sum.inr q.1:Ag),V.int (q.2:Int))))):=Same.new hd;refine⟨d,rfl,.inl ⟨_,.inl Ae⟩,_,rfl,_,DGet.k (k:=(Sum.inr y:Ag)) Ae,?_⟩;have:=q _ (s1.trans s2);have e1:K9 e (.lk lo.name ws) (some y) s=s&&&bt (Bi lo.tab y):=F3 ok hlo y s;rw[e1]at this
  have e3:(BM (qs.map λq=>((Sum.inr q.1:Ag),V.int (q.2:Int))) (Sum.inr y:Ag)).getD (V.int 0)=V.int ((s&&&bt (Bi lo.tab y):Nat):Int):=by
   by_cases nz:s&&&bt (Bi lo.tab y)=0
   ·have no:BM (qs.map λq=>((Sum.inr q.1:Ag),V.int (q.2:Int))) (Sum.inr y:Ag)=none:=by
     cases hv:BM (qs.map λq=>((Sum.inr q.1:Ag),V.int (q.2:Int))) (Sum.inr y:Ag)with
     | none=>rfl
     | some v=>have:=Mg hv;rw[BC]at this;obtain⟨q',hq',e4⟩:=AE.mp this;have e5:q'.1=y:=Et e4;obtain⟨h3,h4⟩:=(pt.mem q').mp hq';rw[h3,e5]at h4;exact absurd nz h4
    rw[no,nz];rfl
   have hm:=(pt.mem (y,s&&&bt (Bi lo.tab y))).mpr ⟨rfl,nz⟩;obtain⟨i,hi⟩:=DL hm;have:=OM nk (i:=i) (kv:=((Sum.inr y:Ag),V.int ((s&&&bt (Bi lo.tab y):Nat):Int))) (by rw[AV,hi];rfl);rw[this];rfl
  rw[e3];exact this
 | nil=>exact okt.elim
 | way _ _ _=>exact okt.elim
def cF {f1 f2:Addr} (F:Fun K "answered" "answered" M7 f fd)(T:Bl mg)(L:Cl K CC)(LL:Gr K C.l)(b_ways:Binds K d1 ["self"] [])(m_ways:B9 K C.l "ways" f1)(G_ways:FnOk P w K mg base CX0 1 f1 d1 Ii (Fs C.l))
  (b_answer_sets:Binds K d2 ["self", "name"] [])(m_answer_sets:B9 K CC "answer_sets" f2)(G_answer_sets:FnOk P w K mg base (CXe P w) 2 f2 d2 ID (Mz CC NN)):FnOk P w K mg base CX0 3 f fd KW (PQ C CC):=by
 refine F.oq scAnswered λaj A ag s0 H vs Q E hr2 h=>?_
 obtain⟨c,m,e,as,v,lo,ws,rfl,ch,ok,hlo,pl,okt,q⟩:=h
 have hr1:Room 1 _:=hr2.mono (by decide)
 have hu:=Em hr2
 obtain⟨cdx,p',o',a',q',d',kp,ko,ka,kq,kd,o1,o2,h1,_⟩:=ch.ex
 obtain⟨o,dx,u,us,e',h,hu',plw⟩:=pl
 cases e'
 obtain⟨ts,kvs,rfl,tl,ek,got⟩:=Sd okt.2.2.2 plw
 have nk:(kvs.map (·.1)).Nodup:=by rw[ek];exact List.Pairwise.map _ (λa b hab z=>hab (Et z)) okt.2.2.1.1
 have kl:kvs.length<=1000:=by have:=BY List.length ek;rw[Al,Al]at this;rw[this];exact okt.2.2.1.2
 have inA:∀z:Str,(BM kvs (Sum.inr z:Ag)).isSome=true↔z∈BL ws:=λz=>by
  rw[<- JE,DK];constructor
  ·rintro⟨kv,hkv,e1⟩;have:kv.1∈kvs.map (·.1):=AE.mpr ⟨kv,hkv,rfl⟩;rw[ek,BF e1]at this;obtain⟨z',hz',e2⟩:=AE.mp this;rw[<- Et e2];exact hz'
  intro hz;have:(Sum.inr z:Ag)∈kvs.map (·.1):=by rw[ek];exact AE.mpr ⟨z,hz,rfl⟩
  obtain⟨kv,hkv,e1⟩:=AE.mp this;exact⟨kv,hkv,Bb e1⟩
 refine⟨_,(Af (Ay (i:=2) scAnswered.nd (Cb (NS rfl) (by rfl) T.dict NU (Aa (HY (pv 1) LL.cl m_ways G_ways hr1 b_ways .nil Ai) Ab))) (Af (Ay (i:=3) scAnswered.nd Ac) (Af (BW B4 rfl (Qo (EG (pv 0) L.cl m_answer_sets G_answer_sets hr2 b_answer_sets .nil GH (Aa (Co (pv 1) rfl) Ab))) (DV rfl (BP (AU (i:=4) scAnswered.nd) (BP (AU (i:=5) scAnswered.nd) DU))) (Ah (AH (Nd (Zr hu (pv 4) (pv 2))) (Ah (Ay (i:=3) scAnswered.nd (Aw F4 (pv 3) (pv 5)))) AD))) (Ah (Ar (pv 3)))))),?_⟩
 refine⟨_,rfl,o,dx,_,rfl,h,rfl,o,dx,u,lo.name,_,rfl,h,hu',λr hr=>?_⟩
 obtain⟨H1,g0,s1,e1⟩:=Bu (H:=H) (o:=.lst (ts.map V.ref)) hr
 rw[g0]
 refine⟨r,ts,kvs,rfl,e1,tl,kl,λi t k v h1 h2=>s1 _ _ (got i t k v h1 h2),λd hd=>?_⟩
 rw[Nc nk]
 obtain⟨H2,g0,s2,e2⟩:=Bu (H:=H1) (o:=.dK kvs) hd
 rw[g0]
 have s02:=s1.trans s2
 refine⟨_,rfl,c,cdx,_,rfl,s02 _ _ h1,EK (by decide +kernel),_,rfl,o,C.l,dx,_,_,rfl,s02 _ _ h,LL.cl,LL.n1,NH _ (.ref u),c,m,_,_,lo.name,rfl,ch.same s02,ok.ch.nd,.inr ⟨lo,hlo,rfl,λv pv=>?_⟩⟩
 obtain⟨rr,ro,ts2,ps,zs,rfl,d0,hrr,hp,pm,lt,po⟩:=pv
 have hT:SqT K H2 rr (ts2.map V.ref):=.inl (.inr ⟨ro,hrr⟩)
 refine⟨rr,rfl,⟨_,hT⟩,?_⟩
 refine lR (K:=K) (a:=rr) (xs:=ts2.map V.ref) (λi σ H3=>∃(v4 v5:Option V) (F:Nat),σ = [some (.ref c),some (.ref o),some (.ref d),some (.int (F:Int)),v4,v5]/\H3=H2/\∀k,F.testBit k=true↔∃p∈zs.take i,p.1∈BL ws/\lo.tab[k]? = some (some p.1))
  ⟨none,none,0,rfl,rfl,λk=>⟨λz=>(by rw[FO]at z;cases z),λhp0=>by obtain⟨p,hp,_⟩:=hp0;exact(by rw[Dv]at hp;cases hp)⟩⟩ (λi σ H3 _ hh0=>by obtain⟨_,_,_,_,z,_⟩:=hh0;rw[z];exact hT) ?_ ?_
 ·rintro i v σ H3 hv ⟨v4,v5,F,rfl,rfl,hF⟩;rw[AV]at hv;obtain⟨t,ht,rfl⟩:=CH.mp hv;have hiz:i<zs.length:=by rw[<- hp.1];exact(AN.mp ht).1
  have hz:zs[i]? = some zs[i]:=AC hiz;have et:=hp.2 i t _ ht hz;rw[po.val _ (pm.mem_iff.mp (CQ hiz))]at et;have htk:zs.take (i+1)=zs.take i++[zs[i]]:=BK hiz;refine⟨t,_,rfl,SqT.of et,rfl,_,_,rfl,_,_,rfl,rfl,?_⟩;refine⟨_,rfl,_,rfl,d,_,rfl,DGet.k (k:=(Sum.inr zs[i].1:Ag)) e2,_,rfl,?_⟩;by_cases hin:zs[i].1∈BL ws
  ·refine AZ (λ_=>?_) (λz=>absurd ((inA _).mpr hin) z);refine⟨_,rfl,_,rfl,_,_,rfl,rfl,?_⟩;refine⟨_,_,F|||bt (Bi lo.tab zs[i].1),by rw[<- E7];rfl,rfl,λk=>?_⟩;rw[Jd,Bool.or_eq_true,hF,IJ,CI,htk];constructor
   ·rintro(⟨p,hp',r1⟩ | hk)
    ·exact⟨p,Ec _ hp',r1⟩
    exact⟨_,C8 _ (AQ.mpr rfl),hin,hk⟩
   rintro⟨p,hp',r1,r2⟩;rcases A5.mp hp' with hp' | hp'
   ·exact .inl ⟨p,hp',r1,r2⟩
   rw[AQ.mp hp']at r2;exact .inr r2
  refine AZ (λz=>absurd ((inA _).mp z) hin) (λ_=>?_);refine⟨_,_,F,rfl,rfl,λk=>?_⟩;rw[hF,htk];constructor
  ·rintro⟨p,hp',r1⟩;exact⟨p,Ec _ hp',r1⟩
  rintro⟨p,hp',r1,r2⟩;rcases A5.mp hp' with hp' | hp'
  ·exact⟨p,hp',r1,r2⟩
  rw[AQ.mp hp']at r1;exact absurd r1 hin
 rintro σ H3 ⟨v4,v5,F,rfl,rfl,hF⟩
 have zl:(ts2.map V.ref).length=zs.length:=by rw[Al];exact hp.1
 rw[zl,Bq]at hF
 refine⟨_,rfl,q F _ s02 λk=>?_⟩
 rw[hF]
 constructor
 ·rintro⟨p,_,r1,r2⟩;exact⟨p.1,r1,r2⟩
 rintro⟨z,r1,r2⟩
 obtain⟨p,hp',e3⟩:=AE.mp ((po.has z).mp (Bt r2))
 exact⟨p,pm.mem_iff.mpr hp',by rw[e3];exact r1,by rw[e3];exact r2⟩
def ZO (F:Fun K "_law_table" "_law_table" GB f fd):FnOk P w K mg base CX0 1 f fd Fy Hs:=by
 refine F.oq scLTable λaj A ag s H vs Q E hr h=>?_;obtain⟨a,us,n,nms,tb,rfl,ha,st,q⟩:=h;refine⟨_,(Af (BW B4 rfl (BG (pv 0)) (AU (i:=2) scLTable.nd) (Ah (AH (AS BA (As AJ (pv 2) Ac (λ_ _=>rfl)) (pv 1) (AO _)) (Ah (Ar (As AJ (pv 2) Ac (λ_ _=>rfl)))) AD))) (Ah (Ar Cw))),?_⟩;have hul:=st.len;refine⟨_,rfl,a,rfl,⟨_,SqL.of ha⟩,C1 (K:=K) (a:=a) (xs:=us) (λi σ H2=>∃(v2:Option V),σ = [some (.ref a),some (.str n),v2]/\H2=H/\n∉nms.take i) ⟨none,rfl,rfl,by simp⟩ (λi σ H2 _ hh0=>by obtain⟨_,_,z,_⟩:=hh0;rw[z];exact SqL.of ha) ?_ ?_⟩
 ·rintro i v σ H2 hv ⟨v2,rfl,rfl,no⟩;have hi:i<nms.length:=by have:=(AN.mp hv).1;lia
  have hn:nms[i]? = some nms[i]:=AC hi;obtain⟨p,ta,rfl,et⟩:=st.got i v _ hv hn;have at0:Ax [V.str nms[i],V.int p,V.ref (tb i)] ((0:Nat):Int)=some (.str nms[i]):=Av rfl;have at2:Ax [V.str nms[i],V.int p,V.ref (tb i)] ((2:Nat):Int)=some (.ref (tb i)):=Av rfl;refine⟨_,rfl,ta,_,_,_,rfl,rfl,SqT.of et,at0,_,rfl,rfl,_,rfl,?_⟩;refine AZ (λhc=>?_) (λhc=>?_)
  ·have e:nms[i]=n:=V.str.inj (BF hc);rcases q with⟨no',q⟩ | ⟨j,hj,nn,q⟩
   ·exact absurd (Bt (hn.trans (by rw[e]))) no'
   have:i=j:=(List.getElem?_inj hi nn).mp (by rw[hn,hj,e]);subst this;exact⟨_,rfl,ta,_,_,_,rfl,rfl,SqT.of et,at2,q⟩
  refine⟨_,rfl,rfl,λz=>?_⟩;rw[Hb,hn]at z;rcases(A5.mp z)with z | z
  ·exact no z
  have e:n=nms[i]:=AQ.mp z;exact hc (Bb (by rw[<- e]))
 rintro σ H2 ⟨v2,rfl,rfl,no⟩;rw[hul,Bq]at no;rcases q with⟨_,q⟩ | ⟨j,hj,_,q⟩
 ·exact q
 exact absurd (Bt hj) no
def F6:Bool->Pn->Prop
 | true,.stop=>True
 | true,.dd d r=>Lb d/\F6 true r
 | true,.lk l ws=>Lb l/\F6 false ws
 | false,.nil=>True
 | false,.way a p r=>Lb a/\F6 true p/\F6 false r
 | _,_=>False
theorem okP.wk:∀{t:Pn}{p:Bool},okP p t->F6 p t
 | .stop,true,_=>trivial
 | .dd _ _,true,h=>⟨h.1,okP.wk h.2⟩
 | .lk _ _,true,h=>⟨h.1,okP.wk h.2.2.2⟩
 | .nil,false,_=>trivial
 | .way _ _ _,false,h=>⟨h.1,okP.wk h.2.1,okP.wk h.2.2⟩
 | .stop,false,h=>h.elim
 | .dd _ _,false,h=>h.elim
 | .lk _ _,false,h=>h.elim
 | .nil,true,h=>h.elim
 | .way _ _ _,true,h=>h.elim
def Lc:Pn->Prop
 | .nil=>True
 | .way _ _ r=>Lc r
 | _=>False
theorem PlAt.wy :∀{ws:Pn}{us:List V},Lc ws->PlAt C H ws us->WyAt H us (BL ws)
 | .nil,us,_,e=>by rw[show us=[] from e];exact⟨rfl,λi u a h=>by cases h⟩
 | .way a p r,us,h,⟨t,v,us',e,h1,_,h3⟩=>by
  have ih:=PlAt.wy (ws:=r) h h3;rw[e];refine⟨BY (· + 1) ih.len,λi u a' g1 g2=>?_⟩;cases i with
  | zero=>cases g1;cases g2;exact⟨t,v,rfl,h1⟩
  | succ i=>exact ih.got i u a' g1 g2
def oW (h:Lc ws)(n:ws≠.nil):BL ws≠[]:=by
 cases ws with
 | nil=>exact absurd rfl n
 | way a p r=>exact List.cons_ne_nil _ _
 | stop=>exact h.elim
 | dd _ _=>exact h.elim
 | lk _ _=>exact h.elim
structure pH (K:W.Frag)(C:Addr):Prop where
 ma:PySem.W.makesIn K C=true
 hi:PySem.W.findIn K (.ref C) "__init__" = some (some (.builtin "object.__init__"))
 so:PySem.W.subIn K (.ref C) (.type "object")=some true
 kp:PySem.W.keepIn K (.ref C)=true
def NC (h:F6 true t):1<=Bs t:=by
 cases t with
 | stop=>exact Am _
 | dd _ _=>exact Jj ..
 | lk _ _=>exact Jj ..
 | nil=>exact h.elim
 | way _ _ _=>exact h.elim
def Lj {k:Nat} (h:∀vs H Q E,¬sp vs H Q E):FnOk P w K mg base CX0 k f fd ps sp:=⟨λvs H Q E z=>absurd z (h vs H Q E),λ_ _ _ H _ _ vs Q E _ _ _ _ z=>absurd z (h vs H Q E)⟩
def wyL:Pn->List (Str×Pn)
 | .way a p r=>(a,p)::wyL r
 | _=>[]
def WtV (H:Hp)(n m:Nat)(v:V)(x:Str×Pn):Prop:=∃(t:Addr) (u:V),v=.ref t/\H t=some (.tup [.str x.1,u])/\TrAt H x.2 [u]/\Lb x.1/\F6 true x.2/\Bs x.2<=n/\A6 x.2<=m
def WtV.same (s:Same H H')(v:V)(x:Str×Pn):WtV H n m v x->WtV H' n m v x:=λ⟨t,u,e,h,tr,z⟩=>⟨t,u,e,s _ _ h,tr.same s,z⟩
theorem Mb :∀{ws:Pn}{us:List V},F6 false ws->Bs ws<=n->A6 ws<=m->TrAt H ws us->Z2 (WtV H n m) us (wyL ws)
 | .nil,us,_,_,_,e=>by rw[show us=[] from e];exact .nil
 | .way a p r,us,h,hh,hw,⟨t,v,us',e,h1,h2,h3⟩=>by
  rw[e];have hh':max (Bs p) (Bs r)<=n:=hh;have hw':A6 p+A6 r+1<=m:=hw;have hm:=Nat.max_le.mp hh';have z1:A6 p<=m:=by lia
  have z2:A6 r<=m:=by lia
  exact .cons ⟨t,v,rfl,h1,h2,h.1,h.2.1,hm.1,z1⟩ (Mb h.2.2 hm.2 z2 h3)
theorem OI:∀ws:Pn,(wyL ws).length=(BL ws).length
 | .way a p r=>BY (· + 1) (OI r)
 | .nil=>rfl
 | .stop=>rfl
 | .dd _ _=>rfl
 | .lk _ _=>rfl
theorem QB:∀{ws:Pn},okP false ws->BQ (wyL ws) .nil=ws
 | .nil,_=>rfl
 | .way a p r,h=>BY (Pn.way a p) (QB h.2.2)
 | .stop,h=>h.elim
 | .dd _ _,h=>h.elim
 | .lk _ _,h=>h.elim
theorem JC:∀{ws:Pn},okP false ws->∀y∈wyL ws,Lb y.1/\okP true y.2
 | .way a p r,h,y,hy=>by
  rcases(AK.mp hy)with e | hy
  ·rw[e];exact⟨h.1,h.2.1⟩
  exact JC h.2.2 y hy
 | .nil,_,_,hy=>nomatch hy
 | .stop,h,_,_=>h.elim
 | .dd _ _,h,_,_=>h.elim
 | .lk _ _,h,_,_=>h.elim
inductive Mq (C:C3)(n:Nat)(vs:List V)(H:Hp)(Q:VK)(E0_:XK):Prop
 | mk (v:V) (t:Pn) (c0:vs=[v]) (c1:TrAt H t [v]) (c2:okP true t) (c3:Bs t<=n) (c4:∀(v':V) (H':Hp),Same H H'->PlAt C H' t [v']->Q v' H'):Mq C n vs H Q E0_
abbrev GM:List Str:=["_law_tree"]
abbrev eK:List Str:=GM
def X3:Au eK GM (Ak GC):=AA
theorem TF (F:Fun K "_law_plan" "_law_plan" GC f fd)(D_l_plan:Df K mg "_law_plan" GC GM f fd)(OS:pH K C.s)(mS:mg "Stop" = some (.ref C.s))(MD:L2.Mk K C.d fD)(mD:mg "Do" = some (.ref C.d))(bD:Binds K dD ["self", "deed", "rest"] [])(GD:FnOk P w K mg base CX0 1 fD dD KL (Pu C.d))
  (ML:L2.Mk K C.l fL)(mL:mg "Look" = some (.ref C.l))(bL:Binds K dL ["self", "look", "ways"] [])(GL:FnOk P w K mg base CX0 2 fL dL Kk (Pc C.l)):∀n:Nat,FnOk P w K mg base CX0 (4+n) f fd GM (Mq C n)
 | 0=>Lj λvs H Q E h=>by obtain⟨v,t,_,_,ok,h0,_⟩:=h;have:=NC ok.wk;lia
 | n+1=>by
  have G_l_plan:=TF F D_l_plan OS mS MD mD bD GD ML mL bL GL n;refine F.ok (k:=4+n) X3 (λvs H Q E h=>?_) (λaj A ag s H vs Q E hrP h=>?_)
  ·obtain⟨v,t,rfl,_⟩:=h;rfl
  obtain⟨v,t,rfl,tr,ok,hn,q⟩:=h;have hr2:Room 2 _:=hrP.mono (by lia);have hr3:Room 3 _:=hrP.mono (by lia);have ak:sizeLine=16777216:=AL;refine⟨_,(Af (AH (AS BA (As AJ (pv 0) Ac (λ_ _=>rfl)) A0 (AO _)) (Ah (Ar (Zl OS.ma OS.hi OS.so OS.kp (by rfl) mS))) AD)
  (Af (AH (AS BA (As AJ (pv 0) Ac (λ_ _=>rfl)) A0 (AO _)) (Ah (Ar (Nh MD GD hr2 (by rfl) mD bD .nil Ai (Aa (As AJ (pv 0) Ac (λ_ _=>rfl)) (Aa (Br G_l_plan hrP (by rfl) D_l_plan.m D_l_plan.F.kp D_l_plan.b .nil Ai (Aa (As AJ (pv 0) Ac (λ_ _=>rfl)) Ab)) Ab))))) AD)
  (Ah (Ar (Nh ML GL hr3 (by rfl) mL bL .nil Ai (Aa (As AJ (pv 0) Ac (λ_ _=>rfl)) (Aa (CK (N:=["_law_way"]) (sc:=Ak GC) (own:=["_law_way"]) (fr:=[]) (js:=[]) B2 rfl (BG (As AJ (pv 0) Ac (λ_ _=>rfl))) (λ_ _ _ _=>AU (i:=0) (show List.Nodup (["_law_way"]:List Str) by decide +kernel)) (λ_ _ _ _=>Dd) (λ_ _ _ _=>(Bd (Aa (As (El K rfl) (pv 0) Ac (λ_ _=>rfl)) (Aa (Br G_l_plan hrP (by rfl) D_l_plan.m D_l_plan.F.kp D_l_plan.b .nil Ai (Aa (As (El K rfl) (pv 0) Ac (λ_ _=>rfl)) Ab)) Ab))))) Ab))))))),?_⟩
  cases t with
  | nil=>exact ok.elim
  | way _ _ _=>exact ok.elim
  | stop=>obtain⟨a,e,h⟩:=tr;cases e;refine⟨_,rfl,a,_,_,_,rfl,rfl,SqT.of h,Av (j:=0) (v:=V.str B0) rfl,rfl,_,rfl,?_⟩;refine E8 ?_;intro o dx ho hdx dn;exact q (.ref o) _ ((Same.new hdx).trans (Same.new (by rw[Aj dn.symm];exact ho))) ⟨o,dx,rfl,Ae⟩
  | dd d r=>obtain⟨a,v',e,h,tr'⟩:=tr;cases e;have a0:Ax [V.str (Str.ofString "do"),.str d,v'] ((0:Nat):Int)=some (.str (Str.ofString "do")):=Av rfl;have a1:Ax [V.str (Str.ofString "do"),.str d,v'] ((1:Nat):Int)=some (.str d):=Av rfl;have a2:Ax [V.str (Str.ofString "do"),.str d,v'] ((2:Nat):Int)=some v':=Av rfl;have hh':Bs r+1<=n+1:=hn;refine⟨_,rfl,a,_,_,_,rfl,rfl,SqT.of h,a0,rfl,_,rfl,?_⟩;refine Ds ?_;dsimp only[A9];refine⟨_,rfl,a,_,_,_,rfl,rfl,SqT.of h,a0,rfl,_,rfl,?_⟩;refine E8 ?_;refine⟨_,rfl,a,_,_,_,rfl,rfl,SqT.of h,a1,_,rfl,a,_,_,_,rfl,rfl,SqT.of h,a2,v',r,rfl,tr',ok.2,by lia,λpv H1 s1 pl1=>?_⟩;intro o dx ho hdx dn;obtain⟨H2,g0,s2,e2⟩:=ND (C:=C.d) ho hdx dn;rw[g0];refine⟨o,dx,d,pv,rfl,e2,λH3 k3 e3=>⟨rfl,?_⟩⟩;have s13:Same H1 H3:=λc u e=>k3 c u (s2 _ _ e) (AM e ho);exact q (.ref o) H3 (s1.trans s13) ⟨o,dx,pv,rfl,e3,pl1.same s13⟩
  | lk l ws=>
   obtain⟨a,u,us,e,h,hu,tr'⟩:=tr;cases e;have a0:Ax [V.str (Str.ofString "look"),.str l,.ref u] ((0:Nat):Int)=some (.str (Str.ofString "look")):=Av rfl;have a1:Ax [V.str (Str.ofString "look"),.str l,.ref u] ((1:Nat):Int)=some (.str l):=Av rfl;have a2:Ax [V.str (Str.ofString "look"),.str l,.ref u] ((2:Nat):Int)=some (.ref u):=Av rfl;have hh':Bs ws+1<=n+1:=hn;refine⟨_,rfl,a,_,_,_,rfl,rfl,SqT.of h,a0,rfl,_,rfl,?_⟩;refine Ds ?_;dsimp only[A9];refine⟨_,rfl,a,_,_,_,rfl,rfl,SqT.of h,a0,rfl,_,rfl,?_⟩;refine Ds ?_;dsimp only[A9];have okw:=ok.2.2.2;have zt:=Mb (n:=n) (m:=A6 ws) okw.wk (by lia) (Am _) tr';have l1:=zt.len;have l2:=OI ws;have l3:=ok.2.2.1.2;refine⟨_,rfl,a,_,_,_,rfl,rfl,SqT.of h,a1,_,rfl,a,_,_,_,rfl,rfl,SqT.of h,a2,u,rfl,⟨_,SqL.of hu⟩,λD hD=>?_⟩
   refine Cd (n:=us.length) (λi ys H4=>PlAt C H4 (BQ ((wyL ws).take i) .nil) ys/\ys.length=i/\Same H H4/\H4 D=some (.lst ys)) ⟨rfl,rfl,Same.new hD,Ae⟩
    (λi ys H4 hi hh0=>by obtain⟨_,_,s4,_⟩:=hh0;exact⟨_,us[i],SqL.of (s4 _ _ hu),by simp[hi]⟩) (λys H4 hh0=>by obtain⟨_,_,s4,_⟩:=hh0;exact⟨_,SqL.of (s4 _ _ hu),by simp⟩) ?_ ?_
   ·rintro i ys HZ y H4 hi ⟨pl4,yl,s4,e4⟩ ⟨rfl,hy⟩;refine CW ?_;obtain⟨x,hx,t',v',rfl,ht',trx,_,_,hnx,_⟩:=(zt.mono (WtV.same s4)).at (hy _ (SqL.of (s4 _ _ hu)));obtain⟨_,okx⟩:=JC okw x (Bt hx);have b0:Ax [V.str x.1,v'] ((0:Nat):Int)=some (.str x.1):=Av rfl;have b1:Ax [V.str x.1,v'] ((1:Nat):Int)=some v':=Av rfl;refine⟨_,rfl,t',_,_,_,rfl,rfl,SqT.of ht',b0,_,rfl,t',_,_,_,rfl,rfl,SqT.of ht',b1,v',x.2,rfl,trx,okx,hnx,λpv H5 s5 pl5=>?_⟩;refine⟨AW,λtp htp=>?_⟩;obtain⟨H6,g0,s6,e6⟩:=Bu (H:=H5) (o:=.tup [.str x.1,pv]) htp;rw[g0];have s46:=s5.trans s6;have eD:=s46 _ _ e4;obtain⟨hi2,ex⟩:=AN.mp hx;refine⟨_,eD,by lia,?_,by rw[AR,yl];rfl,(s4.trans s46).put hD,Ae⟩;have kD:∀c u,H6 c=some u->c≠D->(upd H6 D (.lst (ys++[.ref tp]))) c=some u:=λc u e hc=>by rw[Aj hc];exact e
    rw[BK hi2,ex];exact PlAt.put (a:=x.1) (p:=x.2) (kD _ _ e6 (Bg e6 eD (by intro z;cases z))) ((pl5.same s6).kx kD eD) ((pl4.same s46).kx kD eD)
   rintro ys H4 ⟨pl4,yl,s4,e4⟩;rw[l1,Bq,QB okw]at pl4
   have hw:Lc ws:=by
    have:∀{ws:Pn},okP false ws->Lc ws:=λ{ws}=>by
     induction ws with
     | nil=>exact λ_=>trivial
     | way a p r _ ih=>exact λh=>ih h.2.2
     | stop=>exact λh=>h.elim
     | dd _ _ _=>exact λh=>h.elim
     | lk _ _ _=>exact λh=>h.elim
    exact this okw
   intro o dx ho hdx dn;obtain⟨H5,g0,s5,e5⟩:=ND (C:=C.l) ho hdx dn;rw[g0];refine⟨o,dx,D,l,ys,BL ws,rfl,e5,s5 _ _ e4,(pl4.same s5).wy hw,oW hw ok.2.1,ok.2.2.1.1,ok.2.2.1.2,λtw H6 k6 e6 etw=>⟨rfl,?_⟩⟩;have s46:Same H4 H6:=λc u e=>k6 c u (s5 _ _ e) (AM e ho);exact q (.ref o) H6 (s4.trans s46) ⟨o,dx,tw,ys,rfl,e6,etw,pl4.same s46⟩
structure Dat (H:Hp)(dt:Addr)(e:Ed):Prop where
 ex:∃(l1 l2:Addr) (us ws:List V),H dt=some (.tup [.ref l1,.ref l2,.int (e.g:Int),.int (e.k:Int)])/\H l1=some (.lst us)/\H l2=some (.lst ws)/\A2 (DeV H) us e.ds/\A2 (LoV H) ws e.ls
def Dat.same (h:Dat H dt e)(s:Same H H'):Dat H' dt e:=by obtain⟨l1,l2,us,ws,h1,h2,h3,h4,h5⟩:=h.ex;exact⟨l1,l2,us,ws,s _ _ h1,s _ _ h2,s _ _ h3,h4.mono λv t _ r=>r.same s,h5.mono λv t _ r=>r.same s⟩
inductive JM (vs:List V)(H:Hp)(Q:VK)(E0_:XK):Prop
 | mk (dt tt:Addr) (m:Nat) (e:Ed) (as:List Str) (u0 u2:V) (d:Dee) (s:Nat) (c0:vs=[.ref dt,.ref tt,.int (s:Int)]) (c1:Dat H dt e) (c2:Ct m e as) (c3:s<2^m) (c4:H tt=some (.tup [u0,.str d.name,u2])) (c5:d∈e.ds) (c6:∀H':Hp,Same H H'->Q (.int (Fc (.did d) s:Nat)) H'):JM  vs H Q E0_
inductive JI (vs:List V)(H:Hp)(Q:VK)(E0_:XK):Prop
 | mk (dt tt:Addr) (m:Nat) (e:Ed) (as:List Str) (u0 u2:V) (l:Loo) (a:Str) (s:Nat) (c0:vs=[.ref dt,.ref tt,.str a,.int (s:Int)]) (c1:Dat H dt e) (c2:Ct m e as) (c3:s<2^m) (c4:H tt=some (.tup [u0,.str l.name,u2])) (c5:l∈e.ls) (c6:∀H':Hp,Same H H'->Q (.int (s&&&bt (Bi l.tab a):Nat)) H'):JI  vs H Q E0_
def oO :bt ((wl s).filter λw=>decide (tab[w.toNat]? = some (some a)))=s&&&bt (Bi tab a):=by
 refine Ee λi=>?_;rw[DZ,IJ,Ep,CT,DK,B8,CI];constructor
 ·rintro⟨w,hw,e⟩;obtain⟨h1,h2⟩:=C4.mp hw;have e':w.toNat=i:=by simpa using e
  rw[e',CI]at h2;have:=(wl_mem.mp h1).2;rw[e']at this;exact⟨this,h2⟩
 rintro⟨h1,h2⟩;exact⟨(i:Int),C4.mpr ⟨wl_mem.mpr ⟨by lia,by rw[A1];exact h1⟩,by rw[A1];exact Bb h2⟩,by simp⟩
theorem SC :∀{ws:Pn}{us:List V},okP false ws->TrAt H ws us->WyAt H us (BL ws)
 | .nil,us,_,e=>by rw[show us=[] from e];exact⟨rfl,λi u a h=>by cases h⟩
 | .way a p r,us,ok,⟨t,v,us',e,h1,_,h3⟩=>by
  have w:=SC ok.2.2 h3;rw[e];refine⟨by show us'.length+1=(BL r).length+1;rw[w.len],λi u b h h'=>?_⟩;cases i with
  | zero=>cases h;cases h';exact⟨t,v,rfl,h1⟩
  | succ i=>exact w.got i u b h h'
inductive OV (vs:List V)(H:Hp)(Q:VK)(E0_:XK):Prop
 | mk (tt u:Addr) (u0 u1:V) (us:List V) (as:List Str) (c0:vs=[.ref tt]) (c1:H tt=some (.tup [u0,u1,.ref u])) (c2:H u=some (.lst us)) (c3:WyAt H us as) (c4:as.length<=1000) (c5:∀(r:Addr) (H':Hp),Same H H'->H' r=some (.lst (as.map V.str))->Q (.ref r) H'):OV  vs H Q E0_
def CU (e:Ed)(l:Str)(s:Nat)(ys:List (Str×Pn)):List Nat:=ys.flatMap λy=>Bz e y.2 l (A3 e l y.1 s)
theorem OJ :∀{ws:Pn},okP false ws->Bz e ws l s=CU e l s (wyL ws)
 | .nil,_=>rfl
 | .way a p r,h=>by show Bz e p l (A3 e l a s)++Bz e r l s=CU e l s ((a,p)::wyL r);rw[OJ h.2.2];rfl
 | .stop,h=>h.elim
 | .dd _ _,h=>h.elim
 | .lk _ _,h=>h.elim
def V7 (ys:List (Str×Pn))(y:Str×Pn):CU e l s (ys++[y])=CU e l s ys++Bz e y.2 l (A3 e l y.1 s):=by unfold CU;rw[On,Rl,Rg,BR]
def V8 (ok:okP false ws)(i:Nat):(CU e l s ((wyL ws).take i)).length<=szP ws:=by have h1:=DS e ws l s;rw[OJ ok,<- RP i (wyL ws)]at h1;unfold CU at h1 ⊢;rw[On,AR]at h1;lia
theorem UC :∀{ws:Pn},okP false ws->DC e ws l s->∀y∈wyL ws,DC e y.2 l (A3 e l y.1 s)
 | .way a p r,h,g,y,hy=>by
  rcases(AK.mp hy)with z | hy
  ·rw[z];exact g.1
  exact UC h.2.2 g.2 y hy
 | .nil,_,_,_,hy=>nomatch hy
 | .stop,h,_,_,_=>h.elim
 | .dd _ _,h,_,_,_=>h.elim
 | .lk _ _,h,_,_,_=>h.elim
def Dt (e:Ed):Pn->Str->Nat->Nat
 | .stop,_,s=>s
 | .dd d r,_,s=>Dt e r d (Dc e d s)
 | .lk l ws,_,s=>Dt e ws l s
 | .nil,_,_=>0
 | .way a p r,l,s=>Dt e p l (A3 e l a s)|||Dt e r l s
def FT (e:Ed)(l:Str)(s:Nat)(ys:List (Str×Pn)):Nat:=ys.foldl (λn y=>n|||Dt e y.2 l (A3 e l y.1 s)) 0
theorem Sf :∀{ws:Pn}(n:Nat),okP false ws->(wyL ws).foldl (λn y=>n|||Dt e y.2 l (A3 e l y.1 s)) n=n|||Dt e ws l s
 | .nil,n,_=>(Nat.or_zero n).symm
 | .way a p r,n,h=>by
  show(wyL r).foldl _ (n|||Dt e p l (A3 e l a s))=n|||(Dt e p l (A3 e l a s)|||Dt e r l s)
  rw[Sf _ h.2.2,Nat.or_assoc]
 | .stop,_,h=>h.elim
 | .dd _ _,_,h=>h.elim
 | .lk _ _,_,h=>h.elim
def Wa (h:okP false ws):FT e l s (wyL ws)=Dt e ws l s:=by unfold FT;rw[Sf 0 h,Nat.zero_or]
def V9 (ys:List (Str×Pn))(y:Str×Pn):FT e l s (ys++[y])=FT e l s ys|||Dt e y.2 l (A3 e l y.1 s):=by unfold FT;rw[Rn];rfl
inductive Pr (n:Nat)(vs:List V)(H:Hp)(Q:VK)(E0_:XK):Prop
 | mk (dt:Addr) (tv:V) (m:Nat) (e:Ed) (as:List Str) (t:Pn) (l:Str) (s:Nat) (c0:vs=[.ref dt,tv,.int (s:Int)]) (c1:Dat H dt e) (c2:Ct m e as) (c3:s<2^m) (c4:TrAt H t [tv]) (c5:okP true t) (c6:Bs t<=n) (c7:DC e t l s) (c8:∀H':Hp,Same H H'->Q (.int (Dt e t l s:Nat)) H'):Pr n vs H Q E0_
abbrev E6:List Str:=["_law_data", "_law_tree", "_law_some"]
abbrev fP:List Str:=Be E6 ["_law_found", "_law_world", "_law_other"]
def scLBehind:Au fP E6 (Ak HP):=AA
abbrev E4:List Str:=["_law_data", "_law_tree", "_law_answer", "_law_some"]
abbrev eL:List Str:=Be E4 ["_law_table_here"]
def scLPart:Au eL E4 (Ak GF):=AA
abbrev Kp:List Str:=["_law_tree"]
abbrev dQ:List Str:=Kp
def XZ:Au dQ Kp (Ak JQ):=AA
abbrev Ij:List Str:=["_law_data", "_law_tree", "_law_world"]
abbrev dN:List Str:=Be Ij ["_law_answer"]
def scLWhy:Au dN Ij (Ak MN):=AA
abbrev Ik:List Str:=["_law_data", "_law_tree", "_law_some", "_law_rows"]
abbrev dR:List Str:=Be Ik ["_law_world", "_law_answer", "_law_rest", "_law_found"]
def scLWalk:Au dR Ik (Ak JR):=AA
abbrev Ip:List Str:=["_law_data", "_law_tree", "_law_some"]
abbrev fF:List Str:=Be Ip ["_law_found", "_law_answer", "_law_rest"]
def scLEnds:Au fF Ip (Ak JX):=AA
def cB (F:Fun K "_law_behind" "_law_behind" HP f fd)(C_l_list:Ca P w K mg base CX0 1 "_law_list" Ft E5 EX)(C_l_table:Ca P w K mg base CX0 1 "_law_table" GB Fy Hs):FnOk P w K mg base CX0 2 f fd E6 JM:=by
 refine F.oq scLBehind λaj A ag s0 H vs Q E hr1 h=>?_;obtain⟨dt,tt,m,e,as,u0,u2,d,s,rfl,D0,ok,hs,htt,hd,q⟩:=h;obtain⟨l1,l2,us,ws,hdt,h1,h2,hds,hls⟩:=D0.ex;obtain⟨tb,stl,tbs⟩:=Q3 hds;obtain⟨jd,hjd⟩:=DL hd;obtain⟨es,htb,he⟩:=tbs jd d hjd;have dok:=ok.ch.de d hd;have m2:=ok.ch.m2;have ndn:=(BZ.mp ok.ch.nd).1;have hel:=he.len;have hdl:=dok.len;have b0:∀u v x y:V,Ax [u,v,x,y] ((0:Nat):Int)=some u:=λ_ _ _ _=>Av rfl;have a1:∀u v z:V,Ax [u,v,z] ((1:Nat):Int)=some v:=λ_ _ _=>Av rfl;refine⟨_,(Af (Ay (i:=3) scLBehind.nd Ac) (Af (BW B4 rfl (BG (Aq C_l_list hr1 Ai (Aa (pv 2) Ab))) (AU (i:=4) scLBehind.nd) (Ah (BW B4 rfl (BG (As Dj (Aq C_l_table hr1 Ai (Aa (As AJ (pv 0) Ac (λ_ _=>rfl)) (Aa (As AJ (pv 1) Ac (λ_ _=>rfl)) Ab))) (pv 4) (λ_ _=>rfl))) (AU (i:=5) scLBehind.nd) (Ah (Ay (i:=3) scLBehind.nd (Aw F4 (pv 3) (Aw GQ Ac (pv 5)))))))) (Ah (Ar (pv 3))))),?_⟩;refine⟨_,rfl,s,rfl,DX hs m2,λl H1 s1 hl e1=>⟨l,rfl,⟨_,SqL.of e1⟩,?_⟩⟩;have hl1:((wl s).map V.int).length=(wl s).length:=Al ..
 refine C1 (K:=K) (a:=l) (xs:=(wl s).map V.int) (λi σ H2=>∃(v4 v5:Option V),σ = [some (.ref dt),some (.ref tt),some (.int (s:Int)),some (.int ((bt (((wl s).take i).flatMap (FE (.did d))):Nat):Int)),v4,v5]/\H2=H1)
  ⟨none,none,rfl,rfl⟩ (λi σ H2 _ hh0=>by obtain⟨_,_,_,z⟩:=hh0;rw[z];exact SqL.of e1) ?_ ?_
 ·rintro i v σ H2 hv ⟨v4,v5,rfl,rfl⟩;have hi:i<(wl s).length:=by have:=(AN.mp hv).1;lia
  have hw:(wl s)[i]? = some (wl s)[i]:=AC hi;have hv':v=.int (wl s)[i]:=by rw[AV,hw]at hv;exact(BS hv).symm
  subst hv';obtain⟨w0,w1⟩:=Eh hs (CQ hi);have htk:(wl s).take (i+1)=(wl s).take i++[(wl s)[i]]:=BK hi;generalize (wl s)[i]=wv at hw w0 w1 htk;obtain⟨j,rfl⟩:∃j:Nat,(j:Int)=wv:=⟨wv.toNat,Ew w0⟩;have hje:j<es.length:=by lia
  obtain⟨en,hen,henm,eb,hev,heb⟩:=he.at (AC hje);have hat:Ax es (j:Int)=some (.ref eb):=Av (by rw[AC hje,hev]);have hld:FE (.did d) (j:Int)=en:=by show d.tab.getD ((j:Int)).toNat []=_;rw[A1,CJ,hen];rfl
  have hinn:=dok.inn en henm;have hl2:(en.map V.int).length=en.length:=Al ..;refine⟨_,rfl,dt,_,_,_,rfl,rfl,SqT.of (s1 _ _ hdt),b0 _ _ _ _,_,rfl,tt,_,_,_,rfl,rfl,SqT.of (s1 _ _ htt),a1 _ _ _,l1,us,d.name,e.ds.map Dee.name,tb,rfl,s1 _ _ h1,⟨stl.len,λi v n h h'=>(stl.got i v n h h').imp λp z=>z.same s1⟩,.inr ⟨jd,by rw[AV,hjd];rfl,ndn,?_⟩⟩;refine⟨_,rfl,tb jd,_,_,_,rfl,rfl,SqL.of (s1 _ _ htb),hat,eb,rfl,⟨_,SqL.of (s1 _ _ heb)⟩,?_⟩
  refine C1 (K:=K) (a:=eb) (xs:=en.map V.int) (λi2 σ H3=>∃(v5:Option V),σ = [some (.ref dt),some (.ref tt),some (.int (s:Int)),some (.int ((bt (((wl s).take i).flatMap (FE (.did d))++en.take i2):Nat):Int)),some (.int (j:Int)),v5]/\H3=H2)
   ⟨v5,by rw[Dv,BR];rfl,rfl⟩ (λi2 σ H3 _ hh0=>by obtain⟨_,_,z⟩:=hh0;rw[z];exact SqL.of (s1 _ _ heb)) ?_ ?_
  ·rintro i2 v σ H3 hv ⟨v5,rfl,rfl⟩;rw[AV]at hv;obtain⟨n,en2,rfl⟩:=CH.mp hv;have hi2:i2<en.length:=(AN.mp en2).1;have hni:en[i2]=n:=(AN.mp en2).2;have hn2:=hinn n (Bt en2);have key:Builtin.bitOr ((bt (((wl s).take i).flatMap (FE (.did d))++en.take i2):Nat):Int) (1*2^n.toNat)=((bt (((wl s).take i).flatMap (FE (.did d))++en.take (i2+1)):Nat):Int):=by rw[BK hi2,hni,<- Fn,Q7,one_mul,HX,E7]
   refine⟨_,rfl,_,rfl,_,_,rfl,rfl,⟨hn2.1,by lia,by decide⟩,_,_,rfl,rfl,?_⟩;exact⟨some (.int n),by rw[<- key];rfl,rfl⟩
  rintro σ H3 ⟨v5,rfl,rfl⟩;refine⟨some (.int (j:Int)),v5,?_,rfl⟩;rw[hl2,Bq,htk,On];simp only[Rl,Rg,BR,hld]
 rintro σ H2 ⟨v4,v5,rfl,rfl⟩;rw[hl1,Bq];exact⟨_,rfl,q H2 s1⟩
def Z0 (F:Fun K "_law_part" "_law_part" GF f fd)(T:Bl mg)(C_l_list:Ca P w K mg base CX0 1 "_law_list" Ft E5 EX)(C_l_table:Ca P w K mg base CX0 1 "_law_table" GB Fy Hs):FnOk P w K mg base CX0 2 f fd E4 JI:=by
 refine F.oq scLPart λaj A ag s0 H vs Q E hr1 h=>?_;obtain⟨dt,tt,m,e,as,u0,u2,lo,a,s,rfl,D0,ok,hs,htt,hl,q⟩:=h;have ak:sizeLine=16777216:=AL;obtain⟨l1,l2,us,ws,hdt,h1,h2,hds,hls⟩:=D0.ex;obtain⟨tb,stl,tbs⟩:=T3 hls;obtain⟨jd,hjd⟩:=DL hl;have htb:=tbs jd lo hjd;have m2:=ok.ch.m2;have ndn:=(BZ.mp ok.ch.nd).2.1;have lol:=ok.ch.lo lo hl;have b1:∀u v x y:V,Ax [u,v,x,y] ((1:Nat):Int)=some v:=λ_ _ _ _=>Av rfl;have a1:∀u v z:V,Ax [u,v,z] ((1:Nat):Int)=some v:=λ_ _ _=>Av rfl;refine⟨_,(Af (Kb (i:=4) scLPart.nd rfl (Fm rfl) (Aq C_l_table hr1 Ai (Aa (As AJ (pv 0) Ac (λ_ _=>rfl)) (Aa (As AJ (pv 1) Ac (λ_ _=>rfl)) Ab)))) (Ah (Ar (Bf (Vo rfl) (by rfl) T.sum Vv (Aa (CK (N:=["_law_world", "_law_answer", "_law_table_here"]) (sc:=Ak GF) (own:=["_law_world"]) (fr:=["_law_answer", "_law_table_here"]) (js:=[2,4]) B2 rfl (BG (Aq C_l_list hr1 Ai (Aa (pv 3) Ab))) (λ_ _ _ _=>AU (i:=0) (show List.Nodup (["_law_world", "_law_answer", "_law_table_here"]:List Str) by decide +kernel)) (λ_ _ _ _=>Fw (AS BA (As (Ui K rfl) (pv 2) (pv 0) (λ_ _=>rfl)) (pv 1) (AO _))) (λ_ _ _ _=>(Aw GQ Ac (pv 0)))) Ab))))),?_⟩;refine⟨_,rfl,dt,_,_,_,rfl,rfl,SqT.of hdt,b1 _ _ _ _,_,rfl,tt,_,_,_,rfl,rfl,SqT.of htt,a1 _ _ _,l2,ws,lo.name,e.ls.map Loo.name,tb,rfl,h2,stl,.inr ⟨jd,by rw[AV,hjd];rfl,ndn,?_⟩⟩;refine⟨_,rfl,s,rfl,DX hs m2,λl H1 s1 hl' e1=>⟨l,rfl,⟨_,SqL.of e1⟩,λD hD=>?_⟩⟩;have hl1:((wl s).map V.int).length=(wl s).length:=Al ..;have wl7:(wl s).length<=200:=by unfold wl;rw[Al];refine BV (Gn _ _) ?_;rw[Dw];exact Ny (DX hs m2)
 refine Cd (n:=(wl s).length) (λi ys H2=>ys=((((wl s).take i).filter λw=>decide (lo.tab[w.toNat]? = some (some a))).map λn=>(2:Int)^n.toNat).map V.int/\Same H1 H2/\H2 D=some (.lst ys))
  ⟨by rw[Dv];rfl,Same.new hD,Ae⟩ (λi ys H2 hi ⟨_,z,_⟩=>⟨_,((wl s).map V.int)[i]'(by lia),SqL.of (z _ _ e1),AC (by lia)⟩) (λys H2 hh0=>by obtain⟨_,z,_⟩:=hh0;exact⟨_,SqL.of (z _ _ e1),by lia⟩) ?_ ?_
 ·rintro i ys H2 v H3 hi ⟨rfl,s2,e2⟩ ⟨rfl,hy⟩;have hv:=hy _ (SqL.of (s2 _ _ e1));have hw:(wl s)[i]? = some (wl s)[i]:=AC hi;have hv':v=.int (wl s)[i]:=by rw[AV,hw]at hv;exact(BS hv).symm
  subst hv';obtain⟨w0,w1⟩:=Eh hs (CQ hi);have htk:(wl s).take (i+1)=(wl s).take i++[(wl s)[i]]:=BK hi;generalize (wl s)[i]=wv at hw w0 w1 htk;obtain⟨j,rfl⟩:∃j:Nat,(j:Int)=wv:=⟨wv.toNat,Ew w0⟩;have hj:j<lo.tab.length:=by lia
  have hx:lo.tab[j]? = some lo.tab[j]:=AC hj;have hat:Ax (lo.tab.map oS) (j:Int)=some (oS lo.tab[j]):=Av (by rw[AV,hx];rfl);have fl:(((wl s).take i).filter λw=>decide (lo.tab[w.toNat]? = some (some a))).length<=200:=by refine BV (Gn _ _) ?_;rw[BO];lia
  refine⟨_,rfl,_,rfl,tb jd,_,_,_,rfl,rfl,SqL.of (s2 _ _ (s1 _ _ htb)),hat,_,rfl,(by cases lo.tab[j] <;> rfl),_,rfl,?_⟩;by_cases eq:lo.tab[j]=some a
  ·refine AZ (λ_=>?_) (λz=>absurd (Bb (by rw[eq];rfl)) z);refine⟨_,rfl,_,_,rfl,rfl,⟨by lia,by lia,by lia⟩,?_⟩;refine⟨_,e2,by rw[Al,Al];lia,?_,s2.put hD,Ae⟩;rw[htk,Eu,AX,AX];have e3:List.filter (λw:Int=>decide (lo.tab[w.toNat]? = some (some a))) [(j:Int)]=[(j:Int)]:=by rw[Oc,AB (by rw[A1,hx,eq];exact Bb rfl)];rfl
   rw[e3,one_mul];rfl
  have ne:¬oS lo.tab[j]=V.str a:=λz=>by
   cases ho:lo.tab[j]with
   | none=>rw[ho]at z;cases z
   | some y=>rw[ho]at z eq;cases z;exact eq rfl
  refine AZ (λz=>absurd (BF z) ne) (λ_=>?_);refine⟨?_,s2,e2⟩;rw[htk,Eu];have e3:List.filter (λw:Int=>decide (lo.tab[w.toNat]? = some (some a))) [(j:Int)]=[]:=by rw[Oc,Ao (by rw[A1,hx,CI];intro z;exact eq (BS z))];rfl
  rw[e3,BR]
 rintro ys H2 ⟨rfl,s2,e2⟩;rw[Bq]at e2;refine⟨D,_,rfl,SqL.of e2,?_⟩;rw[SR (((Ho s).filter _).imp λh=>by lia) (λn hn=>(wl_mem.mp (C4.mp hn).1).1),oO];exact q H2 (s1.trans s2)
def ZJ (F:Fun K "_law_ways" "_law_ways" JQ f fd):FnOk P w K mg base CX0 1 f fd Kp OV:=by
 refine F.oq XZ λaj A ag s0 H vs Q E hr0 h=>?_;obtain⟨tt,u,u0,u1,us,as,rfl,htt,hu,wy,l3,q⟩:=h;have ak:sizeLine=16777216:=AL;have a2:∀u v z:V,Ax [u,v,z] ((2:Nat):Int)=some z:=λ_ _ _=>Av rfl;have c0:∀u v:V,Ax [u,v] ((0:Nat):Int)=some u:=λ_ _=>Av rfl;refine⟨_,(Ah (Ar (CK (N:=["_law_way"]) (sc:=Ak JQ) (own:=["_law_way"]) (fr:=[]) (js:=[]) B2 rfl (BG (As AJ (pv 0) Ac (λ_ _=>rfl))) (λ_ _ _ _=>AU (i:=0) (show List.Nodup (["_law_way"]:List Str) by decide +kernel)) (λ_ _ _ _=>Dd) (λ_ _ _ _=>(As (El K rfl) (pv 0) Ac (λ_ _=>rfl)))))),?_⟩;refine⟨_,rfl,tt,_,_,_,rfl,rfl,SqT.of htt,a2 _ _ _,u,rfl,⟨_,SqL.of hu⟩,λD hD=>?_⟩;have ul:=wy.len;refine Cd (n:=us.length) (λi ys H2=>ys=(as.take i).map V.str/\Same H H2/\H2 D=some (.lst ys)) ⟨by rw[Dv];rfl,Same.new hD,Ae⟩ (λi ys H2 hi ⟨_,z,_⟩=>⟨_,us[i],SqL.of (z _ _ hu),AC hi⟩) (λys H2 hh0=>by obtain⟨_,z,_⟩:=hh0;exact⟨_,SqL.of (z _ _ hu),Am _⟩) ?_ ?_
 ·rintro i ys H2 v H3 hi ⟨rfl,s2,e2⟩ ⟨rfl,hy⟩;have hv:=hy _ (SqL.of (s2 _ _ hu));obtain⟨a,t,v',ha,rfl,ht⟩:=wy.at hv;have hia:=(AN.mp ha).1;have htk:as.take (i+1)=as.take i++[a]:=by rw[BK hia,(AN.mp ha).2]
  refine CW ?_;refine⟨_,rfl,t,_,_,_,rfl,rfl,SqT.of (s2 _ _ ht),c0 _ _,?_⟩;refine⟨_,e2,by rw[Al,BO];lia,?_,s2.put hD,Ae⟩;rw[htk,AX];rfl
 rintro ys H2 ⟨rfl,s2,e2⟩;rw[ul,Bq]at e2;exact q D H2 s2 e2
theorem TM {f3 f4:Addr} (F:Fun K "_law_ends" "_law_ends" JX f fd)(D_l_ends:Df K mg "_law_ends" JX Ip f fd)(D_l_behind:Df K mg "_law_behind" HP E6 f3 d3)(G_l_behind:FnOk P w K mg base CX0 2 f3 d3 E6 JM)(D_l_part:Df K mg "_law_part" GF E4 f4 d4)(G_l_part:FnOk P w K mg base CX0 2 f4 d4 E4 JI):∀n:Nat,FnOk P w K mg base CX0 (3+n) f fd Ip (Pr n)
 | 0=>Lj λvs H Q E h=>by obtain⟨dt,tv,m,e,as,t,l,s,_,_,_,_,_,okt,h0,_⟩:=h;have:=NC okt.wk;lia
 | n+1=>by
  have G_l_ends:=TM F D_l_ends D_l_behind G_l_behind D_l_part G_l_part n;refine F.ok (k:=3+n) scLEnds (λvs H Q E h=>?_) (λaj A ag s0 H vs Q E hrE h=>?_)
  ·obtain⟨dt,tv,m,e,as,t,l,s,rfl,_⟩:=h;rfl
  obtain⟨dt,tv,m,e,as,t,l,s,rfl,D0,ok,hs,tr,okt,hn,gd,q⟩:=h;have hr2:Room 2 _:=hrE.mono (by lia);have c0:∀u v z:V,Ax [u,v,z] ((0:Nat):Int)=some u:=λ_ _ _=>Av rfl;have c2:∀u v z:V,Ax [u,v,z] ((2:Nat):Int)=some z:=λ_ _ _=>Av rfl;refine⟨_,(Af (AH (AS BA (As AJ (pv 1) Ac (λ_ _=>rfl)) A0 (AO _)) (Ah (Ar (pv 2))) AD)
  (Af (AH (AS BA (As AJ (pv 1) Ac (λ_ _=>rfl)) A0 (AO _)) (Ah (Ar (Br G_l_ends hrE (by rfl) D_l_ends.m D_l_ends.F.kp D_l_ends.b .nil Ai (Aa (pv 0) (Aa (As AJ (pv 1) Ac (λ_ _=>rfl)) (Aa (Br G_l_behind hr2 (by rfl) D_l_behind.m D_l_behind.F.kp D_l_behind.b .nil Ai (Aa (pv 0) (Aa (pv 1) (Aa (pv 2) Ab)))) Ab)))))) AD)
  (Af (Ay (i:=3) scLEnds.nd Ac)
  (Af (BW B4 rfl (BG (As AJ (pv 1) Ac (λ_ _=>rfl))) (DV rfl (BP (AU (i:=4) scLEnds.nd) (BP (AU (i:=5) scLEnds.nd) DU))) (Ah (Ay (i:=3) scLEnds.nd (Aw F4 (pv 3) (Br G_l_ends hrE (by rfl) D_l_ends.m D_l_ends.F.kp D_l_ends.b .nil Ai (Aa (pv 0) (Aa (pv 5) (Aa (Br G_l_part hr2 (by rfl) D_l_part.m D_l_part.F.kp D_l_part.b .nil Ai (Aa (pv 0) (Aa (pv 1) (Aa (pv 4) (Aa (pv 2) Ab))))) Ab))))))))
  (Ah (Ar (pv 3))))))),?_⟩
  cases t with
  | nil=>exact okt.elim
  | way _ _ _=>exact okt.elim
  | stop=>obtain⟨a,e',h⟩:=tr;cases e';have hc0:Ax [V.str B0] ((0:Nat):Int)=some (.str B0):=Av rfl;refine⟨_,rfl,a,_,_,_,rfl,rfl,SqT.of h,hc0,rfl,_,rfl,?_⟩;refine E8 ?_;exact⟨_,rfl,q H (Same.refl _)⟩
  | dd d r=>
   obtain⟨a,v',e',h,tr'⟩:=tr;cases e';obtain⟨⟨_,de,hde,rfl,_⟩,gr⟩:=gd;have hh':Bs r+1<=n+1:=hn;refine⟨_,rfl,a,_,_,_,rfl,rfl,SqT.of h,c0 _ _ _,rfl,_,rfl,?_⟩;refine Ds ?_;dsimp only[A9];refine⟨_,rfl,a,_,_,_,rfl,rfl,SqT.of h,c0 _ _ _,rfl,_,rfl,?_⟩;refine E8 ?_;refine⟨_,rfl,_,rfl,a,_,_,_,rfl,rfl,SqT.of h,c2 _ _ _,_,rfl,_,rfl,_,rfl,dt,a,m,e,as,_,_,de,s,rfl,D0,ok,hs,h,hde,λH3 s3=>?_⟩;rw[<- Hr ok hde];have lt3:Dc e de.name s<2^m:=by rw[Hr ok hde];exact Lh (ls:=e.ls) ok.ch.m2 ok.ch.de (.did de hde) hs
   exact⟨dt,v',m,e,as,r,de.name,_,rfl,D0.same s3,ok,lt3,tr'.same s3,okt.2,by lia,gr,λH4 s4=>q H4 (s3.trans s4)⟩
  | lk l' ws=>
   obtain⟨a,u,us,e',h,hu,tr'⟩:=tr;cases e';obtain⟨⟨_,lo,hlo,rfl,_⟩,gw⟩:=gd;have hh':Bs ws+1<=n+1:=hn;have okw:=okt.2.2.2;have zt:=Mb (n:=n) (m:=A6 ws) okw.wk (by lia) (Am _) tr';have l1:=zt.len;refine⟨_,rfl,a,_,_,_,rfl,rfl,SqT.of h,c0 _ _ _,rfl,_,rfl,?_⟩;refine Ds ?_;dsimp only[A9];refine⟨_,rfl,a,_,_,_,rfl,rfl,SqT.of h,c0 _ _ _,rfl,_,rfl,?_⟩;refine Ds ?_;dsimp only[A9];refine⟨_,rfl,a,_,_,_,rfl,rfl,SqT.of h,c2 _ _ _,u,rfl,⟨_,SqL.of hu⟩,?_⟩
   refine C1 (K:=K) (a:=u) (xs:=us) (λi σ H3=>∃(v4 v5:Option V),σ = [some (.ref dt),some (.ref a),some (.int (s:Int)),some (.int (FT e lo.name s ((wyL ws).take i):Nat)),v4,v5]/\Same H H3)
    ⟨none,none,rfl,Same.refl _⟩ (λi σ H3 _ hh0=>by obtain⟨_,_,_,z⟩:=hh0;exact SqL.of (z _ _ hu)) ?_ ?_
   ·rintro i y σ H3 hy ⟨v4,v5,rfl,s3⟩;obtain⟨x,hx,t',v',rfl,ht',trx,_,_,hnx,_⟩:=zt.at hy;obtain⟨_,okx⟩:=JC okw x (Bt hx);obtain⟨hi2,ex⟩:=AN.mp hx;have htk:FT e lo.name s ((wyL ws).take (i+1))=FT e lo.name s ((wyL ws).take i)|||Dt e x.2 lo.name (A3 e lo.name x.1 s):=by rw[BK hi2,ex,V9]
    refine⟨t',_,rfl,SqT.of (s3 _ _ ht'),rfl,_,_,rfl,_,_,rfl,rfl,?_⟩;refine⟨_,rfl,_,rfl,_,rfl,_,rfl,_,rfl,_,rfl,_,rfl,dt,a,m,e,as,_,_,lo,x.1,s,rfl,D0.same s3,ok,hs,s3 _ _ h,hlo,λH4 s4=>?_⟩;rw[<- F3 ok hlo];have lt3:A3 e lo.name x.1 s<2^m:=by rw[F3 ok hlo];exact FQ Ji hs
    have s04:=s3.trans s4;refine⟨dt,v',m,e,as,x.2,lo.name,_,rfl,D0.same s04,ok,lt3,trx.same s04,okx,hnx,UC okw gw x (Bt hx),λH5 s5=>?_⟩;refine⟨_,_,rfl,rfl,some (.str x.1),some v',?_,s04.trans s5⟩;rw[htk,E7];rfl
   rintro σ H3 ⟨v4,v5,rfl,s3⟩;rw[l1,Bq,Wa okw];exact⟨_,rfl,q H3 s3⟩
theorem Lo (ok:Ct m e as):∀(t:Pn) (l:Str) (s:Nat),s<2^m->Dt e t l s<2^m
 | .stop,_,_,h=>h
 | .dd d r,_,s,h=>by
  refine Lo ok r d _ ?_;unfold Dc;cases hf:e.ds.find? λx=>decide (x.name=d)with
  | none=>exact Es m
  | some de=>exact Lh (ls:=e.ls) ok.ch.m2 ok.ch.de (.did de (EU hf)) h
 | .lk l ws,_,s,h=>Lo ok ws l s h
 | .nil,_,_,_=>Es m
 | .way a p r,l,s,h=>by
  refine Rj (Lo ok p l _ ?_) (Lo ok r l s h);unfold A3;cases hf:e.ls.find? λx=>decide (x.name=l)with
  | none=>exact Es m
  | some lo=>exact FQ Ji h
def fw (H H':Hp):Hp:=λc=>match H c with
 | none=>H' c
 | some _=>none
def Gc (h:H c=none):fw H H' c=H' c:=by unfold fw;rw[h]
def UE (e:fw H H' c=some u):H c=none/\H' c=some u:=by
 unfold fw at e;cases h:H c with
 | none=>rw[h]at e;exact⟨rfl,e⟩
 | some _=>rw[h]at e;cases e
def lO :Same (fw H H') H':=λ_ _ e=>(UE e).2
def GY (h1:∀c,H c=none->J c=none)(h2:∀c u,H c=none->H' c=some u->J' c=some u):Same (fw H H') (fw J J'):=λc u e=>by obtain⟨h,e'⟩:=UE e;rw[Gc (h1 c h)];exact h2 c u h e'
theorem TrAt.put (h1:H t=some (.tup [.str a,v]))(h2:TrAt H p [v]):∀{pre:List (Str×Pn)}{us:List V},TrAt H (BQ pre .nil) us->TrAt H (BQ (pre++[(a,p)]) .nil) (us++[.ref t])
 | [],us,e=>by rw[show us=[] from e];exact⟨t,v,[],rfl,h1,h2,rfl⟩
 | x::r,us,⟨t',v',us',e,z1,z2,z3⟩=>by rw[e];exact⟨t',v',us'++[.ref t],rfl,z1,z2,TrAt.put h1 h2 z3⟩
theorem QC:∀{pre:List (Str×Pn)},(∀x∈pre,Lb x.1/\okP true x.2)->okP false (BQ pre .nil)
 | [],_=>trivial
 | x::r,h=>⟨(h x Bo).1,(h x Bo).2,QC λy hy=>h y (Bn _ hy)⟩
theorem IF:∀pre:List (Str×Pn),BL (BQ pre .nil)=pre.map (·.1)
 | []=>rfl
 | x::r=>BY (x.1::·) (IF r)
theorem QD :∀{pre:List (Str×Pn)},(∀x∈pre,Bs x.2<=n)->Bs (BQ pre .nil)<=n
 | [],_=>Bk _
 | x::r,h=>Nat.max_le.mpr ⟨h x Bo,QD λy hy=>h y (Bn _ hy)⟩
theorem TN :∀{pre:List (Str×Pn)},(∀x∈pre,A6 x.2<=m)->A6 (BQ pre .nil)<=pre.length*(m+1)
 | [],_=>Bk _
 | x::r,h=>by have h1:=h x Bo;have h2:=TN (pre:=r) λy hy=>h y (Bn _ hy);show A6 x.2+A6 (BQ r .nil)+1<=(r.length+1)*(m+1);rw[Nat.add_mul];lia
def SA {k:Nat}(hi:i<=2)(h:(k+2)*3^(d+1)<=13122):(3*k+1+i+2)*3^d<=13122:=by
 have h1:(3*k+1+i+2)*3^d<=(3*(k+2))*3^d:=Nat.mul_le_mul_right _ (by lia);have h2:(k+2)*3^(d+1)=(3*(k+2))*3^d:=by rw[Nat.pow_succ,Nat.mul_comm 3 (k+2),Nat.mul_assoc,Nat.mul_comm 3]
 lia
def Sz {k:Nat}(h:(k+2)*3^d<=13122):k<13122:=by have h1:(k+2)*1<=(k+2)*3^d:=RA _ (Nat.pow_pos (by decide));lia
inductive R6 (H:Hp)(v:V)(bad:Bool):Prop
 | lst (b:Addr) (e:List Int) (hv:v=.ref b) (h:H b=some (.lst (e.map V.int))) (hb:bad=decide (e=[])):R6 H v bad
 | opt (o:Option Str) (hv:v=oS o) (hs:∀s,o=some s->strOk s=true) (hb:bad=decide (o=none)):R6 H v bad
inductive Pg (vs:List V)(H:Hp)(Q:VK)(E0_:XK):Prop
 | mk (t:Addr) (s m:Nat) (xs:List V) (bad:Nat->Bool) (c0:vs=[.ref t,.int (s:Int)]) (c1:H t=some (.lst xs)) (c2:xs.length=m) (c3:m<=200) (c4:s<2^m) (c5:(∀(i:Nat) v,xs[i]? = some v->R6 H v (bad i))) (c6:∀H':Hp,Same H H'->Q (.bl (decide ((wl s).filter (λw=>bad w.toNat)=[]))) H'):Pg  vs H Q E0_
abbrev DQ:Str:=Str.ofString "none of these"
structure Jz (m:Nat)(e:Ed)(as:List Str):Prop where
 ok:Ct m e as
 g:e.g=2^m-1
 k:e.k=2^m-1
 al:∀x∈as,Lb x
 so:∀x∈as,strOk x=true
 no:DQ∉as
 dl:∀d∈e.ds,Lb d.name
 ll:∀l∈e.ls,Lb l.name
 d3:e.ds.length<=3
 l2:e.ls.length<=2
def nF (ns:List Str):∃ds:List Str,SK.dd (BX (ns.map (Sum.inr:Str->Ag))) (ns.map (Sum.inr:Str->Ag)).length=ds.map Sum.inr/\ds.Nodup/\(∀n,n∈ds↔n∈ns)/\ds.length<=ns.length:=by
 have hl:(ns.map (Sum.inr:Str->Ag)).length=ns.length:=Al ..;rw[hl]
 have go:∀i,i<=ns.length->∃ds:List Str,SK.dd (BX (ns.map (Sum.inr:Str->Ag))) i=ds.map Sum.inr/\ds.Nodup/\(∀n,n∈ds↔n∈ns.take i)/\ds.length<=i:=by
  intro i;induction i with
  | zero=>exact λ_=>⟨[],rfl,nodup_nil,λn=>by simp,Am _⟩
  | succ i ih=>
   intro hi;have hi2:i<ns.length:=hi;obtain⟨ds,e,nd,me,le⟩:=ih (by lia);have ev:BX (ns.map (Sum.inr:Str->Ag)) i=Sum.inr ns[i]:=by simp[BX,List.getD,hi2]
   have htk:=BK hi2;have hin:(Sum.inr ns[i]:Ag)∈ds.map (Sum.inr:Str->Ag)↔ns[i]∈ds:=by rw[AE];exact⟨λ⟨m,hm,e⟩=>by cases e;exact hm,λh=>⟨_,h,rfl⟩⟩
   by_cases hm:ns[i]∈ds
   ·refine⟨ds,?_,nd,λn=>?_,by lia⟩
    ·unfold SK.dd;rw[e,ev,AB (hin.mpr hm)]
    rw[htk,A5,AQ,me n];exact⟨.inl,λz=>z.elim id λz=>by rw[z];exact(me _).mp hm⟩
   refine⟨ds++[ns[i]],?_,Nw nd hm,λn=>?_,by rw[AR];exact Ex le⟩
   ·unfold SK.dd;rw[e,ev,Ao λz=>hm (hin.mp z),AX];rfl
   rw[htk,A5,A5,me n]
 obtain⟨ds,h1,h2,h3,h4⟩:=go ns.length (Am _);rw[Bq]at h3;exact⟨ds,h1,h2,h3,h4⟩
def EC (lo:Loo)(w:Int):Str:=((lo.tab[w.toNat]?).getD none).getD Str.empty
def Mj {m:Nat}{e:Ed}{as:List Str}(gr:Jz m e as){lo:Loo}(hlo:lo∈e.ls){s:Nat}(hs:s<2^m)(bad:ER lo s=[]){w:Int}(hw:w∈wl s):lo.tab[w.toNat]? = some (some (EC lo w))/\EC lo w∈as:=by
 have hl:=gr.ok.ch.lo lo hlo;obtain⟨w0,w1⟩:=Eh hs hw;have h5:=LR.mp bad _ hw;have ht:lo.tab[w.toNat]? = some (lo.tab[w.toNat]'(by lia)):=AC (by lia)
 have key:lo.tab[w.toNat]? = some (some (EC lo w)):=by
  unfold EC;rw[ht]at h5 ⊢;cases hx:lo.tab[w.toNat]'(by lia)with
  | none=>rw[hx]at h5;exact absurd (Bb rfl) h5
  | some z=>rfl
 exact⟨key,gr.ok.ch.an lo hlo _ (Bt key)⟩
def AnsOf (lo:Loo)(s:Nat)(zs:List Str):Prop:=zs.Nodup/\∀z,z∈zs↔∃i,s.testBit i=true/\lo.tab[i]? = some (some z)
def oV {m:Nat}{e:Ed}{as:List Str}(gr:Jz m e as){lo:Loo}(hlo:lo∈e.ls){s:Nat}(hs:s<2^m)(bad:ER lo s=[]){zs:List Str}(nd:zs.Nodup)(h:∀z,z∈zs↔z∈(wl s).map (EC lo)):AnsOf lo s zs:=by
 refine⟨nd,λz=>?_⟩;rw[h,AE];constructor
 ·rintro⟨w,hw,rfl⟩;exact⟨w.toNat,(wl_mem.mp hw).2,(Mj gr hlo hs bad hw).1⟩
 rintro⟨i,hi,hz⟩;have hm:(i:Int)∈wl s:=wl_mem.mpr ⟨by lia,by rw[A1];exact hi⟩;refine⟨i,hm,?_⟩;have:=(Mj gr hlo hs bad hm).1;rw[A1,hz]at this;injection this with this;injection this with this;exact this.symm
def AnsOf.le {m:Nat}{e:Ed}{as:List Str}(gr:Jz m e as){lo:Loo}(hlo:lo∈e.ls){s:Nat}{zs:List Str}(h:AnsOf lo s zs):zs.length<=3/\∀z∈zs,z∈as:=by
 have hm:∀z∈zs,z∈as:=λz hz=>by obtain⟨i,_,hi⟩:=(h.2 z).mp hz;exact gr.ok.ch.an lo hlo z (Bt hi)
 exact⟨BV (Oz h.1 hm) gr.ok.ch.a3,hm⟩
def Hv (hg:g=2^m-1)(hx:x<2^m):Sb x g:=sb_iff.mpr λi hi=>by rw[hg,Nat.testBit_two_pow_sub_one];refine Bb (Nat.lt_of_not_le λh=>?_);rw[Oh (BJ hx (Gp (by decide) h))]at hi;cases hi
def T9:Lb DQ:=⟨by decide +kernel,by decide +kernel,by unfold Sm;decide +kernel⟩
theorem UD :∀{pre:List (Str×Pn)},(∀x∈pre,DC e x.2 l (A3 e l x.1 s))->DC e (BQ pre .nil) l s
 | [],_=>trivial
 | x::r,h=>⟨h x Bo,UD λy hy=>h y (Bn _ hy)⟩
def OB (H:Hp)(e:Ed)(s:Nat)(v:V):Prop:=(∃d∈e.ds,DeV H v d/\G1 d s=[])\/∃l∈e.ls,LoV H v l/\ER l s=[]
inductive JK (K:W.Frag)(n:Nat)(vs:List V)(H:Hp)(Q:VK)(E0_:XK):Prop
 | mk (a:Addr) (ns:List Int) (k d:Nat) (dt:Addr) (m:Nat) (e:Ed) (as:List Str) (s:Nat) (c0:vs=[.ref a,.int (k:Int),.ref dt,.int (s:Int),.int (d:Int)]) (c1:SqL K H a (ns.map V.int)) (c2:ns.length<=63) (c3:(k+2)*3^d<=13122) (c4:d<n) (c5:Dat H dt e) (c6:Jz m e as) (c7:s<2^m) (c8:∀(v:V) (p:Pn) (H':Hp),Same H H'->TrAt (fw H H') p [v]->okP true p->(∀l,DC e p l s)->Bs p<=d+1->A6 p+2<=3*4^d->Q v H'):JK K n vs H Q E0_
inductive Pk (K:W.Frag)(n:Nat)(vs:List V)(H:Hp)(Q:VK)(E0_:XK):Prop
 | mk (a:Addr) (ns:List Int) (k d:Nat) (dt:Addr) (m:Nat) (e:Ed) (as:List Str) (s:Nat) (st tb:Addr) (lo:Loo) (c0:vs=[.ref a,.int (k:Int),.ref dt,.ref st,.int (s:Int),.int ((d+1:Nat):Int)]) (c1:SqL K H a (ns.map V.int)) (c2:ns.length<=63) (c3:(k+2)*3^(d+1)<=13122) (c4:d<n) (c5:Dat H dt e) (c6:Jz m e as) (c7:s<2^m) (c8:lo∈e.ls) (c9:H st=some (.tup [.str lo.name,.int lo.price,.ref tb])) (c10:H tb=some (.lst (lo.tab.map oS))) (c11:ER lo s=[]) (c12:∀(r:Addr) (us:List V) (ws:Pn) (H':Hp),Same H H'->H r=none->H' r=some (.lst us)->TrAt (fw H H') ws us->okP false ws->ws≠.nil->(BL ws).Nodup->(BL ws).length<=4->(∀i,s.testBit i=true->∃z∈BL ws,lo.tab[i]? = some (some z))->DC e ws lo.name s->Bs ws<=d+1->A6 ws+3<=3*4^(d+1)->Q (.ref r) H'):Pk K n vs H Q E0_
abbrev GN:List Str:=["_law_script", "_law_k", "_law_prime", "_law_many_here"]
abbrev fH:List Str:=Be GN ["_law_mixed"]
def scLDeep:Au fH GN (Ak JY):=AA
abbrev Iq:List Str:=["_law_table_here", "_law_some"]
abbrev fO:List Str:=Be Iq ["_law_world"]
def scLCan:Au fO Iq (Ak MY):=AA
abbrev Io:List Str:=["_law_script", "_law_k", "_law_data", "_law_step", "_law_some", "_law_deep_here"]
abbrev eX:List Str:=Be Io ["_law_answers", "_law_ways_here", "_law_answer", "_law_part_here"]
def scLGrownWays:Au eX Io (Ak JW):=AA
abbrev Fz:List Str:=["_law_script", "_law_k", "_law_data", "_law_some", "_law_deep_here"]
abbrev eY:List Str:=Be Fz ["_law_steps", "_law_step", "_law_tree", "_law_later"]
def scLGrown:Au eY Fz (Ak GG):=AA
def bH (F:Fun K "_law_deep" "_law_deep" JY f fd)(C_l_cell:Ca P w K mg base CX0 1 "_law_cell" HN GO (JL K)):FnOk P w K mg base CX0 2 f fd GN (DR K):=by refine F.oq scLDeep λaj A ag s H vs Q E hr1 h=>?_;obtain⟨a,ns,k,p,m,rfl,hS,hn,k0,k1,p0,m0,q⟩:=h;refine⟨_,(Af (Ay (i:=4) scLDeep.nd (Aw FA (Aw B6 (Aw B6 (Aw DI (Aq C_l_cell hr1 Ai (Aa (pv 0) (Aa (Aw FA (Aw B6 (Aw DI Ac (pv 1)) Ac) Ac) Ab))) Ac) (Aw DI (Aw DI Ac (pv 1)) (pv 1))) Ac) (pv 2))) (Ah (Ar (Aw FA (Aw FA (Aw DI (pv 4) Ac) Ac) (pv 3))))),?_⟩;refine⟨_,rfl,_,rfl,_,_,rfl,rfl,.inl ⟨by decide,by decide⟩,_,_,rfl,rfl,_,_,rfl,rfl,(by show(0:Int)<_;decide),a,ns,_,rfl,hS,hn,Je _ (by decide),?_⟩;refine⟨_,_,rfl,rfl,.inr ⟨by decide,by decide⟩,_,rfl,_,_,rfl,rfl,.inl ⟨by decide,by decide⟩,_,rfl,_,_,rfl,rfl,.inl ⟨by lia,by lia⟩,_,_,rfl,rfl,_,_,rfl,rfl,_,rfl,_,_,rfl,rfl,p0,?_⟩;exact⟨_,rfl,_,_,rfl,rfl,.inr ⟨by decide,by decide⟩,_,_,rfl,rfl,(by show(0:Int)<_;decide),_,rfl,_,_,rfl,rfl,m0,q _ (Je _ (by lia)) (N7 _ m0)⟩
def aK (F:Fun K "_law_can" "_law_can" MY f fd)(C_l_list:Ca P w K mg base CX0 1 "_law_list" Ft E5 EX):FnOk P w K mg base CX0 2 f fd Iq Pg:=by
 refine F.oq scLCan λaj A ag s0 H vs Q E hr1 h=>?_;obtain⟨t,s,m,xs,bad,rfl,ht,hxl,m2,hs,tb,q⟩:=h;have ao:=hr1.units;refine⟨_,(Af (BW B4 rfl (BG (Aq C_l_list hr1 Ai (Aa (pv 1) Ab))) (AU (i:=2) scLCan.nd) (Ah (AH (PW.pt (F1 (AS (Tz ao) (As Dj (pv 0) (pv 2) (λ_ _=>rfl)) (Cy Ab) (AO _)) (HU (AS GT (As Dj (pv 0) (pv 2) (λ_ _=>rfl)) Cw (AO _))))) (Ah (Ar De)) AD))) (Ah (Ar De))),?_⟩;refine⟨_,rfl,s,rfl,DX hs m2,λl H1 s1 hl e1=>⟨l,rfl,⟨_,SqL.of e1⟩,?_⟩⟩;have hl1:((wl s).map V.int).length=(wl s).length:=Al ..
 refine C1 (K:=K) (a:=l) (xs:=(wl s).map V.int) (λi σ H2=>∃(v2:Option V),σ = [some (.ref t),some (.int (s:Int)),v2]/\Same H1 H2/\((wl s).take i).filter (λw=>bad w.toNat)=[])
  ⟨none,rfl,Same.refl _,rfl⟩ (λi σ H2 _ hh0=>by obtain⟨_,_,z,_⟩:=hh0;exact SqL.of (z _ _ e1)) ?_ ?_
 ·rintro i v σ H2 hv ⟨v2,rfl,s2,no⟩;have hi:i<(wl s).length:=by have:=(AN.mp hv).1;lia
  have hw:(wl s)[i]? = some (wl s)[i]:=AC hi;have hv':v=.int (wl s)[i]:=by rw[AV,hw]at hv;exact(BS hv).symm
  subst hv';obtain⟨w0,w1⟩:=Eh hs (CQ hi);have htk:(wl s).take (i+1)=(wl s).take i++[(wl s)[i]]:=BK hi;generalize (wl s)[i]=wv at hw w0 w1 htk;obtain⟨j,rfl⟩:∃j:Nat,(j:Int)=wv:=⟨wv.toNat,Ew w0⟩;have hj:j<xs.length:=by lia
  have hx:xs[j]? = some xs[j]:=AC hj;have s12:=s1.trans s2;have yes:bad j=true->∀H3,Same H2 H3->Q (.bl false) H3:=λhb H3 s3=>by obtain⟨r,er⟩:=lW (p:=λw=>bad w.toNat) hw no (by rw[A1];exact hb);have:=q H3 (s12.trans s3);rw[er]at this;exact this
  have goon:bad j=false->((wl s).take (i+1)).filter (λw=>bad w.toNat)=[]:=λhb=>by rw[htk,Eu,no];simp[hb]
  rcases tb j _ hx with⟨b,e,hv',hb,hbad⟩ | ⟨o,hv',hso,hbad⟩
  ·have hat:Ax xs (j:Int)=some (.ref b):=Av (by rw[hx,hv']);refine⟨_,rfl,_,rfl,t,_,_,_,rfl,rfl,SqL.of (s12 _ _ ht),hat,Bk _,λl0 hl0=>?_⟩;have s3:Same H2 (upd H2 l0 (.lst [])):=Same.new hl0;have e3:(upd H2 l0 (.lst [])) l0=some (.lst (([]:List Int).map V.int)):=Ae;generalize (upd H2 l0 (.lst []))=H3 at s3 e3 ⊢;refine⟨_,_,.lst (s3 _ _ (s12 _ _ hb)) (RdWs.of (Fv e)),.lst e3 (RdWs.of (Fv [])),FW _,FW _,_,rfl,?_⟩;cases e with
   | nil=>rw[QZ];refine BH ?_;exact yes hbad H3 s3
   | cons z0 zr=>rw[UU];refine A4 ?_;refine⟨_,rfl,_,rfl,t,_,_,_,rfl,rfl,SqL.of ((s12.trans s3) _ _ ht),hat,rfl,_,rfl,?_⟩;refine A4 ?_;exact⟨_,rfl,s2.trans s3,goon hbad⟩
  have hat:Ax xs (j:Int)=some (oS o):=Av (by rw[hx,hv']);refine⟨_,rfl,_,rfl,t,_,_,_,rfl,rfl,SqL.of (s12 _ _ ht),hat,Bk _,λl0 hl0=>?_⟩;have s3:Same H2 (upd H2 l0 (.lst [])):=Same.new hl0;have e3:(upd H2 l0 (.lst [])) l0=some (.lst (([]:List Int).map V.int)):=Ae;generalize (upd H2 l0 (.lst []))=H3 at s3 e3 ⊢;cases o with
  | none=>refine⟨_,_,.flat .non,.lst e3 (RdWs.of (Fv [])),Xx,FW _,_,rfl,?_⟩;rw[mK];refine A4 ?_;refine⟨_,rfl,_,rfl,t,_,_,_,rfl,rfl,SqL.of ((s12.trans s3) _ _ ht),hat,rfl,_,rfl,?_⟩;refine BH ?_;exact yes hbad H3 s3
  | some y=>refine⟨_,_,.flat (.str y),.lst e3 (RdWs.of (Fv [])),Xw (hso y rfl),FW _,_,rfl,?_⟩;rw[mJ];refine A4 ?_;refine⟨_,rfl,_,rfl,t,_,_,_,rfl,rfl,SqL.of ((s12.trans s3) _ _ ht),hat,rfl,_,rfl,?_⟩;refine A4 ?_;exact⟨_,rfl,s2.trans s3,goon hbad⟩
 rintro σ H2 ⟨v2,rfl,s2,no⟩;rw[hl1,Bq]at no;have:=q H2 (s1.trans s2);rw[no]at this;exact this
def aP {f3:Addr} (F:Fun K "_law_grown_ways" "_law_grown_ways" JW f fd)(T:Bl mg)(C_l_list:Ca P w K mg base CX0 1 "_law_list" Ft E5 EX)(C_l_deep:Ca P w K mg base CX0 2 "_law_deep" JY GN (DR K))
  (D_l_part:Df K mg "_law_part" GF E4 f3 d3)(G_l_part:FnOk P w K mg base CX0 2 f3 d3 E4 JI)(C_l_grown:Ca P w K mg base CX0 (4+2*n) "_law_grown" GG Fz (JK K n)):FnOk P w K mg base CX0 (4+2*n+1) f fd Io (Pk K n):=by
 refine F.ok (k:=4+2*n) scLGrownWays (λvs H Q E h=>?_) (λaj A ag s0 H vs Q E hrG h=>?_)
 ·obtain⟨a,ns,k,d,dt,m,e,as,s,st,tb,lo,rfl,_⟩:=h;rfl
 obtain⟨a,ns,k,d,dt,m,e,as,s,st,tb,lo,rfl,hS,hn,hk,hd,D0,gr,hs,hlo,hst,htb,bad,q⟩:=h
 have hr1:Room 1 _:=hrG.mono (by lia)
 have hr2:Room 2 _:=hrG.mono (by lia)
 have ao:=hr1.units
 have ak:sizeLine=16777216:=AL
 refine⟨_,(Af (Ay (i:=6) scLGrownWays.nd (Bf (nW rfl) (by rfl) T.sorted NT (Aa (Cb (Q6 rfl) (by rfl) T.set Lr (Aa (CK (N:=["_law_world", "_law_step"]) (sc:=Ak JW) (own:=["_law_world"]) (fr:=["_law_step"]) (js:=[3]) B2 rfl (BG (Aq C_l_list hr1 Ai (Aa (pv 4) Ab))) (λ_ _ _ _=>AU (i:=0) (show List.Nodup (["_law_world", "_law_step"]:List Str) by decide +kernel)) (λ_ _ _ _=>Dd) (λ_ _ _ _=>(As (Ui K rfl) (As (El K rfl) (pv 1) Ac (λ_ _=>rfl)) (pv 0) (λ_ _=>rfl)))) Ab)) Ab))) (Af (AH (AS BA (Aq C_l_deep hr2 Ai (Aa (pv 0) (Aa (pv 1) (Aa Ac (Aa Ac Ab))))) Ac (AO _)) (Ah (Ay (i:=6) scLGrownWays.nd (Zm rfl (by rfl) T.list EO (by rfl) T.reversed (by decide +kernel) (Aa (pv 6) Ab)))) AD) (Af (Ay (i:=7) scLGrownWays.nd (Cy Ab)) (Af (BW B4 rfl (BG (pv 6)) (AU (i:=8) scLGrownWays.nd) (Af (Ay (i:=9) scLGrownWays.nd (Br G_l_part hr2 (by rfl) D_l_part.m D_l_part.F.kp D_l_part.b .nil Ai (Aa (pv 2) (Aa (Bd (Aa A0 (Aa (As AJ (pv 3) Ac (λ_ _=>rfl)) (Aa (Cy Ab) Ab)))) (Aa (pv 8) (Aa (pv 4) Ab)))))) (Ah (BD (Dq Dx Dy DN Dr (pv 7) (Aa (Bd (Aa (pv 8) (Aa (Aq C_l_grown hrG Ai (Aa (pv 0) (Aa (Aw B6 (Aw B6 (Aw DI Ac (pv 1)) Ac) (Bf C2 (by rfl) T.len CG (Aa (pv 7) Ab))) (Aa (pv 2) (Aa (pv 9) (Aa (Aw K1 (pv 5) Ac) Ab)))))) Ab))) Ab)))))) (Af (AH (PW.pt (F1 (AS (TB ao) (pv 7) (Cy Ab) (AO _)) (HU (AS BA (Aq C_l_deep hr2 Ai (Aa (pv 0) (Aa (pv 1) (Aa Ac (Aa Ac Ab))))) Ac (AO _))))) (Ah (BD (Dq Dx Dy DN Dr (pv 7) (Aa (Bd (Aa A0 (Aa (Bd (Aa A0 Ab)) Ab))) Ab)))) AD) (Ah (Ar (pv 7)))))))),?_⟩
 have m2:=gr.ok.ch.m2
 have a2:∀u v z:V,Ax [u,v,z] ((2:Nat):Int)=some z:=λ_ _ _=>Av rfl
 have a0:∀u v z:V,Ax [u,v,z] ((0:Nat):Int)=some u:=λ_ _ _=>Av rfl
 have hl200:(wl s).length<=200:=by unfold wl;rw[Al];refine BV (Gn _ _) ?_;rw[Dw];exact Ny (DX hs m2)
 refine FX (λσ H1=>∃(l:Addr) (zs:List Str),σ = [some (.ref a),some (.int (k:Int)),some (.ref dt),some (.ref st),some (.int (s:Int)),some (.int ((d+1:Nat):Int)),some (.ref l),none,none,none]/\Same H H1/\H1 l=some (.lst (zs.map V.str))/\AnsOf lo s zs) ?_ ?_
 ·rintro σ H1 ⟨l,zs,rfl,s1,e1,an⟩;have hk0:=Sz hk;refine FX (λσ H2=>∃(l:Addr) (zs:List Str),σ = [some (.ref a),some (.int (k:Int)),some (.ref dt),some (.ref st),some (.int (s:Int)),some (.int ((d+1:Nat):Int)),some (.ref l),none,none,none]/\Same H H2/\H2 l=some (.lst (zs.map V.str))/\AnsOf lo s zs) ?_ ?_
  ·clear s1 e1 an;rintro σ H2 ⟨l,zs,rfl,s2,e2,an⟩;obtain⟨z3,zas⟩:=an.le gr hlo;refine⟨AW,λr hr=>?_⟩;have s23:Same H2 (upd H2 r (.lst [])):=Same.new hr;have e3:(upd H2 r (.lst [])) r=some (.lst []):=Ae;have n1:∀c,(upd H2 r (.lst [])) c=none->H2 c=none/\c≠r:=λc z=>⟨s23.free z,λe=>by rw[e,e3]at z;cases z⟩;generalize (upd H2 r (.lst []))=H3 at s23 e3 n1 ⊢;have s03:=s2.trans s23;have hr0:H r=none:=s2.free hr;dsimp only;refine Gz (λσ H4=>∃(v8 v9:Option V) (us:List V) (pre:List (Str×Pn)),σ = [some (.ref a),some (.int (k:Int)),some (.ref dt),some (.ref st),some (.int (s:Int)),some (.int ((d+1:Nat):Int)),some (.ref l),some (.ref r),v8,v9] /\ Same H2 H4/\H4 r=some (.lst us)/\(∀c u,H3 c=some u->c≠r->H4 c=some u)/\TrAt (fw H3 H4) (BQ pre .nil) us/\us.length=zs.length/\pre.map (·.1)=zs/\(∀x∈pre,Lb x.1/\okP true x.2)/\(∀x∈pre,Bs x.2<=d+1)/\(∀x∈pre,A6 x.2+2<=3*4^d)/\(∀x∈pre,DC e x.2 lo.name (A3 e lo.name x.1 s))) ?_ ?_
   ·rintro σ H4 ⟨v8,v9,us,pre,rfl,s4,e4,k4,tr4,ul,pn,po,ph,pw,pg⟩;have pl:pre.length=zs.length:=by have:=BY List.length pn;rwa [Al]at this
    have p4:1<=4^d:=Nat.pow_pos (by decide);have p5:4^(d+1)=4^d*4:=Nat.pow_succ ..;have kd:∀i,s.testBit i=true->∃z∈zs,lo.tab[i]? = some (some z):=λi hi=>by have hm:(i:Int)∈wl s:=wl_mem.mpr ⟨by lia,by rw[A1];exact hi⟩;have hx:=(Mj gr hlo hs bad hm).1;rw[A1]at hx;exact⟨_,(an.2 _).mpr ⟨i,hi,hx⟩,hx⟩
    refine FX (λσ H5=>∃(us:List V) (pre:List (Str×Pn)),σ = [some (.ref a),some (.int (k:Int)),some (.ref dt),some (.ref st),some (.int (s:Int)),some (.int ((d+1:Nat):Int)),some (.ref l),some (.ref r),v8,v9] /\ Same H2 H5/\H5 r=some (.lst us)/\TrAt (fw H3 H5) (BQ pre .nil) us/\pre≠[]/\pre.length<=4/\(pre.map (·.1)).Nodup/\(∀z∈zs,z∈pre.map (·.1))/\(∀x∈pre,Lb x.1/\okP true x.2)/\(∀x∈pre,Bs x.2<=d+1)/\(∀x∈pre,A6 x.2+2<=3*4^d)/\(∀x∈pre,DC e x.2 lo.name (A3 e lo.name x.1 s))) ?_ ?_
    ·clear s4 e4 k4 tr4 ul pn po ph pw pg pl;rintro σ H5 ⟨us,pre,rfl,s5,e5,tr5,pne,p3,pnd,pz,po,ph,pw,pg⟩;have wt:=TN (pre:=pre) (m:=3*4^d-2) λx hx=>by have:=pw x hx;lia
     have wt2:pre.length*(3*4^d-2+1)<=4*(3*4^d-2+1):=Nat.mul_le_mul_right _ p3;refine⟨_,rfl,q r us (BQ pre .nil) H5 (s2.trans s5) hr0 e5 (tr5.same (GY (λc z=>s03.free z) λ_ _ _ e=>e)) (QC po) ?_ (by rw[IF];exact pnd) (by rw[IF,Al];exact p3) (λi hi=>?_) (UD pg) (QD ph) (by lia)⟩
     ·cases pre with
      | nil=>exact absurd rfl pne
      | cons y r'=>intro z;cases z
     obtain⟨z,hz,hx⟩:=kd i hi;exact⟨z,by rw[IF];exact pz z hz,hx⟩
    intro N hN;refine⟨_,rfl,AW,λl0 hl0=>?_⟩;obtain⟨H5,g0,s45,el0⟩:=Bu (H:=H4) (o:=.lst []) hl0;rw[g0];have er5:=s45 _ _ e4
    have n2:∀c,H4 c=none->H3 c=none:=λc z=>by
     cases h:H3 c with
     | none=>rfl
     | some u=>
      exfalso;by_cases hc:c=r
      ·rw[hc,e4]at z;cases z
      rw[k4 c u h hc]at z;cases z
    have fin:∀t1 t2:Addr,H5 t1=none->(upd H5 t1 (.tup [.str B0])) t2=none->N [some (.ref a),some (.int (k:Int)),some (.ref dt),some (.ref st),some (.int (s:Int)),some (.int ((d+1:Nat):Int)),some (.ref l),some (.ref r),v8,v9] (upd (upd (upd H5 t1 (.tup [.str B0])) t2 (.tup [.str DQ,.ref t1])) r (.lst (us++[.ref t2]))):=λt1 t2 ht1 ht2=>by
     have s56:Same H5 (upd H5 t1 (.tup [.str B0])):=Same.new ht1;have e6:(upd H5 t1 (.tup [.str B0])) t1=some (.tup [.str B0]):=Ae;generalize (upd H5 t1 (.tup [.str B0]))=H6 at s56 e6 ht2 ⊢;obtain⟨H7,g0,s67,e7⟩:=Bu (H:=H6) (o:=.tup [.str DQ,.ref t1]) ht2;rw[g0];have e67:=s67 _ _ e6;have er7:=s67 _ _ (s56 _ _ er5);have kA:∀c u,H7 c=some u->c≠r->(upd H7 r (.lst (us++[.ref t2]))) c=some u:=λc u e hc=>by rw[Aj hc];exact e
     have eA:(upd H7 r (.lst (us++[.ref t2]))) r=some (.lst (us++[.ref t2])):=Ae;generalize (upd H7 r (.lst (us++[.ref t2])))=HA at kA eA ⊢;have s47:=(s45.trans s56).trans s67;have k4A:∀c u,H4 c=some u->c≠r->HA c=some u:=λc u e hc=>kA c u (s47 _ _ e) hc;have x1:H3 t1=none:=n2 t1 (s45.free ht1);have x2:H3 t2=none:=n2 t2 (s45.free (s56.free ht2));have lt3:A3 e lo.name DQ s<2^m:=by rw[F3 gr.ok hlo];exact FQ Ji hs
     refine hN _ _ ⟨us++[.ref t2],pre++[(DQ,.stop)],rfl,λc u e=>k4A c u (s4 _ _ e) (AM e hr),eA,TrAt.put (p:=.stop) (v:=.ref t1) ?_ (show TrAt (fw H3 HA) .stop [V.ref t1] from ⟨t1,rfl,by rw[Gc x1];exact kA _ _ e67 (Bg e67 er7 (by intro z;cases z))⟩) (tr4.same (GY (λ_ z=>z) λc u z e=>k4A c u e (n1 c z).2)),?_,?_,?_,λz hz=>?_,λy hy=>?_,λy hy=>?_,λy hy=>?_,λy hy=>?_⟩
     ·rw[Gc x2];exact kA _ _ e7 (Bg e7 er7 (by intro z;cases z))
     ·intro z;cases pre <;> cases z
     ·rw[AR,pl];show zs.length+1<=4;lia
     ·rw[AX,pn];exact Nw an.1 λz=>gr.no (zas _ z)
     ·rw[AX,pn];exact Ec _ hz
     ·rcases(A5.mp hy)with z | z
      ·exact po y z
      rw[AQ.mp z];exact⟨T9,trivial⟩
     ·rcases(A5.mp hy)with z | z
      ·exact ph y z
      rw[AQ.mp z];exact Jj ..
     ·rcases(A5.mp hy)with z | z
      ·exact pw y z
      rw[AQ.mp z];show 1+2<=_;lia
     rcases(A5.mp hy)with z | z
     ·exact pg y z
     rw[AQ.mp z];exact⟨Hv gr.k lt3,Hv gr.g lt3⟩
    refine⟨r,l0,us,rfl,rfl,er5,el0,_,rfl,?_⟩;refine AZ (λ_=>?_) (λhu=>?_)
    ·refine BH ?_;exact⟨_,rfl,.inl ⟨rfl,_,SqL.of er5⟩,AW,λt1 ht1=>⟨AW,λt2 ht2=>⟨r,_,_,rfl,rfl,(Same.new ht2) _ _ ((Same.new ht1) _ _ er5),by lia,fin t1 t2 ht1 ht2⟩⟩⟩
    refine⟨_,rfl,_,rfl,a,ns,_,_,_,rfl,((s2.trans s4).trans s45).seq hS,hn,by lia,by lia,by decide,by decide,λrr r0 r3=>?_⟩;refine⟨rfl,_,rfl,?_⟩;refine AZ (λ_=>?_) (λ_=>?_)
    ·exact⟨_,rfl,.inl ⟨rfl,_,SqL.of er5⟩,AW,λt1 ht1=>⟨AW,λt2 ht2=>⟨r,_,_,rfl,rfl,(Same.new ht2) _ _ ((Same.new ht1) _ _ er5),by lia,fin t1 t2 ht1 ht2⟩⟩⟩
    refine hN _ _ ⟨us,pre,rfl,s4.trans s45,er5,tr4.same (GY (λ_ z=>z) λc u z e=>s45 _ _ e),?_,by lia,by rw[pn];exact an.1,λz hz=>by rw[pn];exact hz,po,ph,pw,pg⟩;intro z;rw[z]at pl;have:us=[]:=Oi.mp (ul.trans pl.symm);rw[this]at hu;exact hu rfl
   intro N hN;refine⟨_,rfl,l,rfl,⟨_,SqL.of (s23 _ _ e2)⟩,?_⟩
   refine C1 (K:=K) (a:=l) (xs:=zs.map V.str) (λi σ H4=>∃(v8 v9:Option V) (us:List V) (pre:List (Str×Pn)),σ = [some (.ref a),some (.int (k:Int)),some (.ref dt),some (.ref st),some (.int (s:Int)),some (.int ((d+1:Nat):Int)),some (.ref l),some (.ref r),v8,v9] /\
    Same H2 H4/\H4 r=some (.lst us)/\(∀c u,H3 c=some u->c≠r->H4 c=some u)/\TrAt (fw H3 H4) (BQ pre .nil) us/\us.length=i/\pre.map (·.1)=zs.take i/\(∀x∈pre,Lb x.1/\okP true x.2)/\(∀x∈pre,Bs x.2<=d+1)/\(∀x∈pre,A6 x.2+2<=3*4^d)/\(∀x∈pre,DC e x.2 lo.name (A3 e lo.name x.1 s)))
    ⟨none,none,[],[],rfl,s23,e3,(λ_ _ e _=>e),rfl,rfl,rfl,(λ_ h=>nomatch h),(λ_ h=>nomatch h),(λ_ h=>nomatch h),(λ_ h=>nomatch h)⟩ (λi σ H4 _ hh0=>by obtain⟨_,_,_,_,_,z,_⟩:=hh0;exact SqL.of (z _ _ e2)) ?_ ?_
   ·rintro i y σ H4 hy ⟨v8,v9,us,pre,rfl,s4,e4,k4,tr4,ul,pn,po,ph,pw,pg⟩;rw[AV]at hy;obtain⟨x,hx,rfl⟩:=CH.mp hy;obtain⟨hi,ex⟩:=AN.mp hx;have xas:=zas x (Bt hx);have s04:=s2.trans s4;refine⟨_,rfl,_,rfl,st,_,_,_,rfl,rfl,SqT.of (s04 _ _ hst),a0 _ _ _,AW,λq0 hq0=>?_⟩;have s45:Same H4 (upd H4 q0 (.lst [])):=Same.new hq0;generalize (upd H4 q0 (.lst []))=H5 at s45 ⊢;refine⟨AW,λt0 ht0=>?_⟩;obtain⟨H6,g0,s56,e6⟩:=Bu (H:=H5) (o:=.tup [.str (Str.ofString "look"),.str lo.name,.ref q0]) ht0;rw[g0];have s46:=s45.trans s56;refine⟨_,rfl,_,rfl,dt,t0,m,e,as,_,_,lo,x,s,rfl,D0.same (s04.trans s46),gr.ok,hs,e6,hlo,λH7 s67=>?_⟩;rw[<- F3 gr.ok hlo];have lt3:A3 e lo.name x s<2^m:=by rw[F3 gr.ok hlo];exact FQ Ji hs
    have s47:=s46.trans s67;have s07:=s04.trans s47;have e7:=s47 _ _ e4;have ui:us.length=i:=ul;refine⟨_,rfl,.inl ⟨rfl,_,SqL.of e7⟩,_,rfl,_,rfl,_,rfl,_,_,rfl,rfl,.inl ⟨by decide,by decide⟩,_,_,rfl,rfl,_,rfl,_,_,rfl,.inl ⟨_,SqL.of e7,rfl⟩,_,_,rfl,rfl,_,rfl,_,rfl,_,rfl,_,_,rfl,rfl,?_⟩;refine⟨a,ns,3*k+1+i,d,dt,m,e,as,A3 e lo.name x s,?_,s07.seq hS,hn,SA (by lia) hk,hd,D0.same s07,gr,lt3,λv p H8 s78 tr ok gp hh hw=>?_⟩
    ·rw[ui,show(((d+1:Nat):Int)-1)=(d:Int) by lia,show(3:Int)*(k:Int)+1+(i:Int)=((3*k+1+i:Nat):Int) by lia];rfl
    have e8:=s78 _ _ e7;refine⟨AW,λt1 ht1=>?_⟩;obtain⟨H9,g0,s89,e9⟩:=Bu (H:=H8) (o:=.tup [.str x,v]) ht1;rw[g0];have er9:=s89 _ _ e8;have xr:t1≠r:=Bg e9 er9 (by intro z;cases z);refine⟨r,_,_,rfl,rfl,er9,by lia,?_⟩;have kA:∀c u,H9 c=some u->c≠r->(upd H9 r (.lst (us++[.ref t1]))) c=some u:=λc u e hc=>by rw[Aj hc];exact e
    have eA:(upd H9 r (.lst (us++[.ref t1]))) r=some (.lst (us++[.ref t1])):=Ae;generalize (upd H9 r (.lst (us++[.ref t1])))=HA at kA eA ⊢;have s49:=(s47.trans s78).trans s89;have k4A:∀c u,H4 c=some u->c≠r->HA c=some u:=λc u e hc=>kA c u (s49 _ _ e) hc
    have n2:∀c,H4 c=none->H3 c=none:=λc z=>by
     cases h:H3 c with
     | none=>rfl
     | some u=>
      exfalso;by_cases hc:c=r
      ·rw[hc,e4]at z;cases z
      rw[k4 c u h hc]at z;cases z
    have x1:H3 t1=none:=n2 t1 (s47.free (s78.free ht1));refine⟨_,_,us++[.ref t1],pre++[(x,p)],rfl,λc u e=>k4A c u (s4 _ _ e) (AM e hr),eA,λc u e hc=>k4A c u (k4 c u e hc) hc,?_,by rw[AR,ul];rfl,?_,λy hy=>?_,λy hy=>?_,λy hy=>?_,λy hy=>?_⟩
    ·refine TrAt.put ?_ (tr.same (GY (λc z=>n2 c (s47.free z)) λc u z e=>kA c u (s89 _ _ e) λw=>?_)) (tr4.same (GY (λ_ z=>z) λc u z e=>k4A c u e (n1 c z).2))
     ·rw[Gc x1];exact kA _ _ e9 xr
     rw[w,e7]at z;cases z
    ·rw[AX,pn,BK hi,ex];rfl
    ·rcases(A5.mp hy)with z | z
     ·exact po y z
     rw[AQ.mp z];exact⟨gr.al _ xas,ok⟩
    ·rcases(A5.mp hy)with z | z
     ·exact ph y z
     rw[AQ.mp z];exact hh
    ·rcases(A5.mp hy)with z | z
     ·exact pw y z
     rw[AQ.mp z];exact hw
    rcases(A5.mp hy)with z | z
    ·exact pg y z
    rw[AQ.mp z];exact gp _
   rintro σ H4 ⟨v8,v9,us,pre,rfl,s4,e4,k4,tr4,ul,pn,po,ph,pw,pg⟩;rw[Al]at ul;rw[Al,Bq]at pn;exact hN _ _ ⟨v8,v9,us,pre,rfl,s4,e4,k4,tr4,ul,pn,po,ph,pw,pg⟩
  intro N hN;refine⟨_,rfl,_,rfl,a,ns,_,_,_,rfl,s1.seq hS,hn,by lia,by lia,by decide,by decide,λrr r0 r3=>?_⟩;refine⟨rfl,_,rfl,?_⟩;refine AZ (λ_=>?_) (λ_=>?_)
  ·refine⟨_,rfl,l,_,rfl,SqL.of e1,λp hp=>?_⟩;refine hN _ _ ⟨p,zs.reverse,rfl,s1.trans (Same.new hp),by rw[Ae,List.map_reverse],List.pairwise_reverse.mpr (an.1.imp λh=>h.symm),λz=>by rw[List.mem_reverse];exact an.2 z⟩
  exact hN _ _ ⟨l,zs,rfl,s1,e1,an⟩
 intro N hN
 refine⟨_,rfl,s,rfl,DX hs m2,λwl1 H1 s1 hwl e1=>⟨wl1,rfl,⟨_,SqL.of e1⟩,λD hD=>?_⟩⟩
 have hl1:((wl s).map V.int).length=(wl s).length:=Al ..
 refine Cd (n:=(wl s).length) (λi ys H2=>ys=(((wl s).take i).map (EC lo)).map V.str/\Same H1 H2/\H2 D=some (.lst ys))
  ⟨by rw[Dv];rfl,Same.new hD,Ae⟩ (λi ys H2 hi ⟨_,z,_⟩=>⟨_,((wl s).map V.int)[i]'(by lia),SqL.of (z _ _ e1),AC (by lia)⟩) (λys H2 hh0=>by obtain⟨_,z,_⟩:=hh0;exact⟨_,SqL.of (z _ _ e1),by lia⟩) ?_ ?_
 ·rintro i ys H2 v H3 hi ⟨rfl,s2,e2⟩ ⟨rfl,hy⟩;have hv:=hy _ (SqL.of (s2 _ _ e1));rw[AV]at hv;obtain⟨wv,hw,rfl⟩:=CH.mp hv;obtain⟨hi',ew⟩:=AN.mp hw;have htk:(wl s).take (i+1)=(wl s).take i++[wv]:=by rw[BK hi',ew]
  have hm:=Bt hw;obtain⟨w0,w1⟩:=Eh hs hm;have hx:=(Mj gr hlo hs bad hm).1;obtain⟨j,rfl⟩:∃j:Nat,(j:Int)=wv:=⟨wv.toNat,Ew w0⟩;rw[A1]at hx;have hat:Ax (lo.tab.map oS) (j:Int)=some (.str (EC lo (j:Int))):=Av (by rw[AV,hx];rfl);refine CW ?_;refine⟨_,rfl,st,_,_,_,rfl,rfl,SqT.of (s2 _ _ (s1 _ _ hst)),a2 _ _ _,_,rfl,tb,_,_,_,rfl,rfl,SqL.of (s2 _ _ (s1 _ _ htb)),hat,?_⟩;refine⟨_,e2,by rw[Al,Al,BO];lia,?_,s2.put hD,Ae⟩;rw[htk,AX,AX];rfl
 rintro ys H2 ⟨rfl,s2,e2⟩
 rw[Bq]at e2
 obtain⟨ds,ed,nd,me,ld⟩:=nF ((wl s).map (EC lo))
 have ek:((wl s).map (EC lo)).map V.str=(((wl s).map (EC lo)).map (Sum.inr:Str->Ag)).map kV:=by rw[BC,BC,BC];rfl
 refine⟨D,((wl s).map (EC lo)).map Sum.inr,rfl,SqL.of (by rw[<- ek];exact e2),by rw[Al,Al];lia,λsa hsa=>?_⟩
 rw[ed]
 have an:=oV gr hlo hs bad nd me
 have d3:=(an.le gr hlo).1
 have s3:Same H2 (upd H2 sa (Do P w sa (ds.map Sum.inr))):=Same.new hsa
 refine⟨sa,ds,rfl,Ae,nd,by lia,λl2 zs hl2 pm so=>?_⟩
 have s4:Same H2 (upd (upd H2 sa (Do P w sa (ds.map Sum.inr))) l2 (.lst (zs.map V.str))):=Same.put (H':=upd H2 sa (Do P w sa (ds.map Sum.inr))) (o:=.lst (zs.map V.str)) s3 (s3.free hl2)
 exact hN _ _ ⟨l2,zs,rfl,(s1.trans s2).trans s4,Ae,pm.nodup_iff.mpr nd,λz=>by rw[pm.mem_iff];exact an.2 z⟩
theorem TK {f1 f3 f5 f6:Addr} (F:Fun K "_law_grown" "_law_grown" GG f fd)(T:Bl mg)(D_l_grown:Df K mg "_law_grown" GG Fz f fd)(GW:∀n:Nat,FnOk P w K mg base CX0 (4+2*n) f fd Fz (JK K n)->FnOk P w K mg base CX0 (4+2*n+1) f1 d1 Io (Pk K n))(D_l_gways:Df K mg "_law_grown_ways" JW Io f1 d1)
  (D_l_deep:Df K mg "_law_deep" JY GN f3 d3)(G_l_deep:FnOk P w K mg base CX0 2 f3 d3 GN (DR K))     (D_l_can:Df K mg "_law_can" MY Iq f5 d5)(G_l_can:FnOk P w K mg base CX0 2 f5 d5 Iq Pg)(D_l_behind:Df K mg "_law_behind" HP E6 f6 d6)(G_l_behind:FnOk P w K mg base CX0 2 f6 d6 E6 JM) (D_l_table:Df K mg "_law_table" GB Fy f7 d7)(G_l_table:FnOk P w K mg base CX0 1 f7 d7 Fy Hs):∀n:Nat,FnOk P w K mg base CX0 (4+2*n) f fd Fz (JK K n)
 | 0=>Lj λvs H Q E h=>by obtain⟨a,ns,k,d,dt,m,e,as,s,_,_,_,_,h0,_⟩:=h;exact absurd h0 (LJ _)
 | n+1=>by
  have G_l_grown:=TK F T D_l_grown GW D_l_gways D_l_deep G_l_deep D_l_can G_l_can D_l_behind G_l_behind D_l_table G_l_table n;have D_l_grown_ways:=D_l_gways;have G_l_grown_ways:=GW n G_l_grown;refine F.ok (k:=4+2*n+1) scLGrown (λvs H Q E h=>?_) (λaj A ag s0 H vs Q E hrW h=>?_)
  ·obtain⟨a,ns,k,d,dt,m,e,as,s,rfl,_⟩:=h;rfl
  obtain⟨a,ns,k,d,dt,m,e,as,s,rfl,hS,hn,hk,hd,D0,gr,hs,q⟩:=h;have hr1:Room 1 _:=hrW.mono (by lia);have hr2:Room 2 _:=hrW.mono (by lia);have hrG:Room (4+2*n) _:=hrW.mono (by lia);have ao:=hr1.units;have ak:sizeLine=16777216:=AL;refine⟨_,(Af (HW (i:=5) (N:=["_law_step", "_law_some"]) (sc:=Ak GG) (own:=["_law_step"]) (fr:=["_law_some"]) (js:=[3]) scLGrown.nd rfl rfl B2 rfl (BG (Aw Nu (As AJ (pv 2) Ac (λ_ _=>rfl)) (As AJ (pv 2) Ac (λ_ _=>rfl)))) (λ_ _ _ _=>AU (i:=0) (show List.Nodup (["_law_step", "_law_some"]:List Str) by decide +kernel)) (λ_ _ _ _=>Fw (Cn (Br G_l_can hr2 (by rfl) D_l_can.m D_l_can.F.kp D_l_can.b .nil Ai (Aa (As (El K rfl) (pv 0) Ac (λ_ _=>rfl)) (Aa (pv 1) Ab))))) (λ_ _ _ _=>(pv 0)))
  (Af (AH (PW.pt (F1 (AS BA (pv 4) Ac (AO _)) (F1 (AS (TB ao) (pv 5) (Cy Ab) (AO _)) (HU (AS BA (Br G_l_deep hr2 (by rfl) D_l_deep.m D_l_deep.F.kp D_l_deep.b .nil Ai (Aa (pv 0) (Aa (pv 1) (Aa Ac (Aa Ac Ab))))) Ac (AO _)))))) (Ah (Ar (Bd (Aa A0 Ab)))) AD)
  (Af (Ay (i:=6) scLGrown.nd (As Dj (pv 5) (Br G_l_deep hr2 (by rfl) D_l_deep.m D_l_deep.F.kp D_l_deep.b .nil Ai (Aa (pv 0) (Aa (pv 1) (Aa Ac (Aa (Bf C2 (by rfl) T.len CG (Aa (pv 5) Ab)) Ab))))) (λ_ _=>rfl)))
  (Af (AH (AS Nt (Br G_l_table hr1 (by rfl) D_l_table.m D_l_table.F.kp D_l_table.b .nil Ai (Aa (As AJ (pv 2) Ac (λ_ _=>rfl)) (Aa (As AJ (pv 6) Ac (λ_ _=>rfl)) Ab))) Cw (AO _)) (Af (Ay (i:=7) scLGrown.nd (Bd (Aa A0 (Aa (As AJ (pv 6) Ac (λ_ _=>rfl)) (Aa (Bd (Aa A0 Ab)) Ab)))))
  (Af (Ay (i:=8) scLGrown.nd (Br G_l_behind hr2 (by rfl) D_l_behind.m D_l_behind.F.kp D_l_behind.b .nil Ai (Aa (pv 2) (Aa (pv 7) (Aa (pv 3) Ab)))))
  (Ah (Ar (Bd (Aa A0 (Aa (As AJ (pv 6) Ac (λ_ _=>rfl)) (Aa (Br G_l_grown hrG (by rfl) D_l_grown.m D_l_grown.F.kp D_l_grown.b .nil Ai (Aa (pv 0) (Aa (Aw B6 (Aw DI Ac (pv 1)) Ac) (Aa (pv 2) (Aa (pv 8) (Aa (Aw K1 (pv 4) Ac) Ab)))))) Ab)))))))) AD)
  (Ah (Ar (Bd (Aa A0 (Aa (As AJ (pv 6) Ac (λ_ _=>rfl)) (Aa (Br G_l_grown_ways hrW (by rfl) D_l_grown_ways.m D_l_grown_ways.F.kp D_l_grown_ways.b .nil Ai (Aa (pv 0) (Aa (pv 1) (Aa (pv 2) (Aa (pv 6) (Aa (pv 3) (Aa (pv 4) Ab))))))) Ab)))))))))),?_⟩
  obtain⟨l1,l2,us,ws,hdt,h1,h2,hds,hls⟩:=D0.ex;have hk0:=Sz hk;have ok:=gr.ok;have m2:=ok.ch.m2;have b0:∀u v x y:V,Ax [u,v,x,y] ((0:Nat):Int)=some u:=λ_ _ _ _=>Av rfl;have b1:∀u v x y:V,Ax [u,v,x,y] ((1:Nat):Int)=some v:=λ_ _ _ _=>Av rfl;have a0:∀u v z:V,Ax [u,v,z] ((0:Nat):Int)=some u:=λ_ _ _=>Av rfl;have a2:∀u v z:V,Ax [u,v,z] ((2:Nat):Int)=some z:=λ_ _ _=>Av rfl;have p4:1<=4^d:=Nat.pow_pos (by decide);have ul:=hds.len;have wl':=hls.len;have d3:=gr.d3;have l2':=gr.l2;have stopQ:∀H':Hp,Same H H'->∀x:Addr,H' x=none->Q (.ref x) (upd H' x (.tup [.str B0])):=λH' s' x hx=>q (.ref x) .stop _ (s'.trans (Same.new hx)) ⟨x,rfl,by rw[Gc (s'.free hx)];exact Ae⟩ trivial (λ_=>⟨Hv gr.k hs,Hv gr.g hs⟩) (Jj ..) (by show 1+2<=_;lia);refine FX (λσ H1=>∃(l:Addr) (ss:List V),σ = [some (.ref a),some (.int (k:Int)),some (.ref dt),some (.int (s:Int)),some (.int (d:Int)),some (.ref l),none,none,none]/\Same H H1/\H1 l=some (.lst ss)/\(∀v∈ss,OB H e s v)/\ss.length<=5) ?_ ?_
  ·rintro σ H1 ⟨l,ss,rfl,s1,e1,hss,sl⟩;refine⟨_,rfl,rfl,_,rfl,?_⟩;refine AZ (λ_=>?_) (λhd0=>?_)
   ·refine BH ?_;exact⟨AW,stopQ H1 s1⟩
   refine⟨_,rfl,AW,λl0 hl0=>?_⟩;obtain⟨H2,g0,s12,el0⟩:=Bu (H:=H1) (o:=.lst []) hl0;rw[g0];have e2:=s12 _ _ e1;have s02:=s1.trans s12;refine⟨l,l0,ss,rfl,rfl,e2,el0,_,rfl,?_⟩;refine AZ (λ_=>?_) (λhse=>?_)
   ·refine BH ?_;exact⟨AW,stopQ H2 s02⟩
   refine⟨_,rfl,_,rfl,a,ns,_,_,_,rfl,s02.seq hS,hn,by lia,by lia,by decide,by decide,λrr r0 r6=>?_⟩;refine⟨rfl,_,rfl,?_⟩;refine AZ (λ_=>?_) (λ_=>?_)
   ·exact⟨AW,stopQ H2 s02⟩
   dsimp only[A9]
   obtain⟨d',rfl⟩:∃d',d=d'+1:=by
    cases d with
    | zero=>exact absurd (Bb rfl) hd0
    | succ d'=>exact⟨d',rfl⟩
   have sp:0<ss.length:=by
    cases ss with
    | nil=>exact absurd rfl hse
    | cons _ _=>exact Nat.succ_pos _
   refine⟨_,rfl,_,rfl,_,rfl,_,rfl,_,_,rfl,.inl ⟨_,SqL.of e2,rfl⟩,a,ns,_,_,_,rfl,s02.seq hS,hn,by lia,by lia,by decide,by lia,λjj j0 jl=>?_⟩;obtain⟨j,rfl⟩:∃j:Nat,(j:Int)=jj:=⟨jj.toNat,Ew j0⟩;have hj:j<ss.length:=by lia
   have hv:ss[j]? = some ss[j]:=AC hj;have hsi:=hss _ (CQ hj);generalize ss[j]=v at hv hsi;refine⟨l,_,_,_,rfl,rfl,SqL.of e2,Av hv,?_⟩;obtain⟨tbd,stld,tbsd⟩:=Q3 hds;have ndd:=(BZ.mp ok.ch.nd);have stl2:OC H2 us (e.ds.map Dee.name) tbd:=⟨stld.len,λi v n h h'=>(stld.got i v n h h').imp λp z=>z.same s02⟩;have p5:4^(d'+1)=4^d'*4:=Nat.pow_succ ..;rcases hsi with⟨de,hde,r,can⟩ | ⟨lo,hlo,r,can⟩
   ·obtain⟨tb,es,⟨o,rfl,ho⟩,htb,hes⟩:=r;obtain⟨jd,hjd⟩:=DL hde;refine⟨_,rfl,dt,_,_,_,rfl,rfl,SqT.of (s02 _ _ hdt),b0 _ _ _ _,_,rfl,o,_,_,_,rfl,rfl,SqT.of (s02 _ _ ho),a0 _ _ _,l1,us,de.name,e.ds.map Dee.name,tbd,rfl,s02 _ _ h1,stl2,.inr ⟨jd,by rw[AV,hjd];rfl,ndd.1,?_⟩⟩;refine⟨rfl,_,rfl,?_⟩;refine BH ?_;refine⟨_,rfl,o,_,_,_,rfl,rfl,SqT.of (s02 _ _ ho),a0 _ _ _,AW,λt1 ht1=>?_⟩;have s23:Same H2 (upd H2 t1 (.tup [.str (Str.ofString "stop")])):=Same.new ht1;generalize (upd H2 t1 (.tup [.str (Str.ofString "stop")]))=H3 at s23 ⊢;refine⟨AW,λt2 ht2=>?_⟩;obtain⟨H4,g0,s34,e4⟩:=Bu (H:=H3) (o:=.tup [.str (Str.ofString "do"),.str de.name,.ref t1]) ht2;rw[g0];have s04:=(s02.trans s23).trans s34;refine⟨_,rfl,_,rfl,_,rfl,dt,t2,m,e,as,_,_,de,s,rfl,D0.same s04,ok,hs,e4,hde,λH5 s45=>?_⟩;have s05:=s04.trans s45;have lt3:Fc (.did de) s<2^m:=Lh (ls:=e.ls) ok.ch.m2 ok.ch.de (.did de hde) hs;refine⟨_,rfl,o,_,_,_,rfl,rfl,SqT.of (s05 _ _ ho),a0 _ _ _,_,rfl,_,rfl,_,_,rfl,rfl,.inl ⟨by decide,by decide⟩,_,_,rfl,rfl,_,rfl,_,rfl,_,rfl,_,_,rfl,rfl,?_⟩;refine⟨a,ns,3*k+1+0,d',dt,m,e,as,Fc (.did de) s,?_,s05.seq hS,hn,SA (by decide) hk,by lia,D0.same s05,gr,lt3,λv p H6 s56 tr okp gp hh hw=>?_⟩
    ·rw[show(((d'+1:Nat):Int)-1)=(d':Int) by lia,show(3:Int)*(k:Int)+1=((3*k+1+0:Nat):Int) by lia];rfl
    refine⟨AW,λx hx=>?_⟩;have s06:=s05.trans s56;refine q (.ref x) (.dd de.name p) _ (s06.trans (Same.new hx)) ⟨x,v,rfl,?_,tr.same (GY (λc z=>s05.free z) λc u _ e=>Same.new hx _ _ e)⟩ ⟨gr.dl de hde,okp⟩ (λl=>⟨⟨Hv gr.k hs,de,hde,rfl,can⟩,by rw[Hr ok hde];exact gp _⟩) (Ex hh) (by show A6 p+1+2<=_;lia);rw[Gc (s06.free hx)];exact Ae
   obtain⟨tb,⟨o,rfl,ho⟩,htb⟩:=r;refine⟨_,rfl,dt,_,_,_,rfl,rfl,SqT.of (s02 _ _ hdt),b0 _ _ _ _,_,rfl,o,_,_,_,rfl,rfl,SqT.of (s02 _ _ ho),a0 _ _ _,l1,us,lo.name,e.ds.map Dee.name,tbd,rfl,s02 _ _ h1,stl2,.inl ⟨λz=>ndd.2.2 _ z _ (AE.mpr ⟨lo,hlo,rfl⟩) rfl,?_⟩⟩;refine⟨rfl,_,rfl,?_⟩;refine A4 ?_;dsimp only[A9];refine⟨_,rfl,o,_,_,_,rfl,rfl,SqT.of (s02 _ _ ho),a0 _ _ _,_,rfl,_,rfl,_,rfl,_,rfl,_,rfl,_,rfl,a,ns,k,d',dt,m,e,as,s,o,tb,lo,rfl,s02.seq hS,hn,hk,by lia,D0.same s02,gr,hs,hlo,s02 _ _ ho,s02 _ _ htb,can,λr us' ws' H3 s23 hr er tr okw wn wnd w4 kd gw hh hw=>?_⟩;refine⟨AW,λx hx=>?_⟩;have s03:=s02.trans s23;exact q (.ref x) (.lk lo.name ws') _ (s03.trans (Same.new hx)) ⟨x,r,us',rfl,by rw[Gc (s03.free hx)];exact Ae,by rw[Gc (s02.free hr)];exact Same.new hx _ _ er,tr.same (GY (λc z=>s02.free z) λc u _ e=>Same.new hx _ _ e)⟩ ⟨gr.ll lo hlo,wn,⟨wnd,by lia⟩,okw⟩ (λl=>⟨⟨Hv gr.k hs,lo,hlo,rfl,can,kd⟩,gw⟩) (Ex hh) (by show A6 ws'+1+2<=_;lia)
  intro N hN;refine⟨_,rfl,dt,_,_,_,rfl,rfl,SqT.of hdt,b0 _ _ _ _,_,rfl,dt,_,_,_,rfl,rfl,SqT.of hdt,b1 _ _ _ _,l1,l2,us,ws,rfl,rfl,h1,h2,by lia,λl hl=>?_⟩;obtain⟨H1,g0,s1,e1⟩:=Bu (H:=H) (o:=.lst (us++ws)) hl;rw[g0];refine⟨l,rfl,⟨_,SqL.of e1⟩,λD hD=>?_⟩;have ll:=AR (as:=us) (bs:=ws)
  refine Cd (n:=(us++ws).length) (λi ys H2=>Same H1 H2/\H2 D=some (.lst ys)/\(∀v∈ys,OB H e s v)/\ys.length<=i)
   ⟨Same.new hD,Ae,λ_ h=>(nomatch h),Am _⟩ (λi ys H2 hi ⟨z,_⟩=>⟨_,(us++ws)[i],SqL.of (z _ _ e1),AC hi⟩) (λys H2 hh0=>by obtain⟨z,_⟩:=hh0;exact⟨_,SqL.of (z _ _ e1),Am _⟩) ?_ ?_
  ·rintro i ys H2 v H3 hi ⟨s2,e2,hys,yl⟩ ⟨rfl,hy⟩;have hv:=hy _ (SqL.of (s2 _ _ e1));have s02:=s1.trans s2
   have step:∀H4:Hp,Same H3 H4->OB H e s v->∃zs,H4 D=some (.lst zs)/\zs.length<sizeLine/\(Same H1 (upd H4 D (.lst (zs++[v])))/\(upd H4 D (.lst (zs++[v]))) D=some (.lst (zs++[v]))/\(∀u∈zs++[v],OB H e s u)/\(zs++[v]).length<=i+1):=λH4 s4 si=>
    ⟨ys,s4 _ _ e2,by lia,(s2.trans s4).put hD,Ae,λu hu=>by
     rcases(A5.mp hu)with z | z
     ·exact hys u z
     rw[AQ.mp z];exact si,by rw[AR];exact Ex yl⟩
   by_cases hiu:i<us.length
   ·rw[Cr hiu]at hv;obtain⟨de,_,hde,r⟩:=hds.at hv;have r':=r;obtain⟨tb,es,⟨o,rfl,ho⟩,htb,hes⟩:=r;have dok:=ok.ch.de de hde;refine⟨_,rfl,o,_,_,_,rfl,rfl,SqT.of (s02 _ _ ho),a2 _ _ _,_,rfl,tb,s,m,es,(λi=>decide (de.tab[i]? = some [])),rfl,s02 _ _ htb,hes.len.trans dok.len,m2,hs,λi v hv=>?_,λH4 s4=>⟨_,rfl,?_⟩⟩
    ·obtain⟨en,hen,_,b,rfl,hb⟩:=hes.at hv;refine .lst b en rfl (s02 _ _ hb) ?_;rw[hen,CT,CI,CI,Og]
    by_cases can:G1 de s=[]
    ·refine AZ (λ_=>?_) (λz=>absurd (Bb can) z);exact⟨_,rfl,step H4 s4 (.inl ⟨de,hde,r',can⟩)⟩
    refine AZ (λz=>absurd (BF z) can) (λ_=>?_);exact⟨s2.trans s4,s4 _ _ e2,hys,by lia⟩
   rw[Ci (by lia)]at hv;obtain⟨lo,_,hlo,r⟩:=hls.at hv;have r':=r;obtain⟨tb,⟨o,rfl,ho⟩,htb⟩:=r;have ll2:=ok.ch.lo lo hlo;refine⟨_,rfl,o,_,_,_,rfl,rfl,SqT.of (s02 _ _ ho),a2 _ _ _,_,rfl,tb,s,m,lo.tab.map oS,(λi=>decide (lo.tab[i]? = some none)),rfl,s02 _ _ htb,by rw[Al];exact ll2,m2,hs,λi v hv=>?_,λH4 s4=>⟨_,rfl,?_⟩⟩
   ·rw[AV]at hv;obtain⟨x,hx,rfl⟩:=CH.mp hv;refine .opt x rfl (λz hz=>gr.so z (ok.ch.an lo hlo z (by rw[<- hz];exact Bt hx))) ?_;rw[hx,CT,CI,CI,Og]
   by_cases can:ER lo s=[]
   ·refine AZ (λ_=>?_) (λz=>absurd (Bb can) z);exact⟨_,rfl,step H4 s4 (.inr ⟨lo,hlo,r',can⟩)⟩
   refine AZ (λz=>absurd (BF z) can) (λ_=>?_);exact⟨s2.trans s4,s4 _ _ e2,hys,by lia⟩
  rintro ys H2 ⟨s2,e2,hys,yl⟩;exact hN _ _ ⟨D,ys,rfl,s1.trans s2,e2,hys,by lia⟩
def cL (ns:List Int)(c:Nat):A8 ns 3 c≠DQ:=λz=>by
 have h:(A8 ns 3 c).length=13:=by rw[z];decide +kernel
 have h':(A8 ns 3 c).length=(wz ns 3).toNat:=by unfold A8;rw[IH,OK]
 have h1:=NJ ns 3 10007 (m:=6) (by decide);have h2:=NK ns 3 10007 (m:=6) (by decide);unfold wz at h';split at h' <;> lia
def lC (lx:Lx H l1 l2 us ws ds ls m)(ok:Hl m ds ls (pqrL.map (A8 ns 3)))(m7:m<=7):Jz m ⟨ds,ls,2^m-1,2^m-1⟩ (pqrL.map (A8 ns 3)):=by
 have p:=Es m;have lb:∀x∈pqrL.map (A8 ns 3),Lb x:=λx hx=>by obtain⟨c,hc,rfl⟩:=AE.mp hx;exact Gs ns 3 (Tp c hc)
 refine⟨⟨ok,by show 2^m-1<2^m;lia,by show 2^m-1<2^m;lia,m7,λd hd=>Lb.rp (lx.db d hd),λl hl=>Lb.rp (lx.lb l hl)⟩,rfl,rfl,lb,λx hx=>(lb x hx).sm.ok,λz=>?_,lx.db,lx.lb,lx.c1,lx.c2⟩;obtain⟨c,_,e⟩:=AE.mp z;exact cL ns c e
def mf {α:Type}:List (Int×α)->Option (Int×α)
 | []=>none
 | x::r=>match mf r with
  | none=>some x
  | some y=>if y.1<x.1 then some y else some x
def Fb {α:Type}(fs:List (α×(Int->Bool)))(ws:List Int):Option (Int×α):=match ws.find? λw=>fs.any λp=>p.2 w with
 | none=>none
 | some w=>(fs.find? λp=>p.2 w).map λp=>(w,p.1)
def hds {α:Type}(fs:List (α×(Int->Bool)))(ws:List Int):List (Int×α):=fs.filterMap λp=>((ws.filter p.2).head?).map λw=>(w,p.1)
theorem Uv (p:Int->Bool):∀ws:List Int,(ws.filter p).head? = ws.find? p
 | []=>rfl
 | w::r=>by
  rw[Oc,CB];cases h:p w with
  | true=>rfl
  | false=>exact Uv p r
theorem UK (p q:Int->Bool):∀ws:List Int,ws.Pairwise (· < ·)->(ws.find? λw=>p w || q w)=(match ws.find? p,ws.find? q with
  | none,b=>b
  | some a,none=>some a
  | some a,some b=>if b<a then some b else some a)
 | [],_=>rfl
 | w::r,h=>by
  (obtain⟨h1,h2⟩:=LF.mp h);rw[CB,CB,CB];cases hp:p w with
  | true=>
   cases hq:q w with
   | true=>simp
   | false=>
    simp only[Bool.true_or];cases e:r.find? q with
    | none=>rfl
    | some b=>have:=h1 b (EU e);simp only[];rw[Ao (by lia)]
  | false=>
   cases hq:q w with
   | true=>
    simp only[N4];cases e:r.find? p with
    | none=>rfl
    | some b=>have:=h1 b (EU e);simp only[];rw[AB (by lia)]
   | false=>simp only[Bool.or_self];exact UK p q r h2
theorem TY {α:Type}(ws:List Int)(h:ws.Pairwise (· < ·)):∀fs:List (α×(Int->Bool)),mf (hds fs ws)=Fb fs ws
 | []=>by
  show none=Fb [] ws;unfold Fb;have:ws.find? (λw=>(([]:List (α×(Int->Bool))).any λp=>p.2 w))=none:=by simp
  rw[this]
 | p::r=>by
  have ih:=TY ws h r;have e1:(λw=>(p::r).any λq=>q.2 w)=λw=>p.2 w || r.any λq=>q.2 w:=by funext w;rw[G7]
  unfold Fb at ih ⊢;rw[e1,UK _ _ ws h];unfold hds at ih ⊢;rw[FR,Uv];cases hp:ws.find? p.2 with
  | none=>
   simp only[Option.map_none];rw[ih];cases hr:ws.find? (λw=>r.any λq=>q.2 w)with
   | none=>rfl
   | some w=>
    simp only[];rw[CB];have:=Jo.mp hp w (EU hr);cases hpw:p.2 w with
    | true=>exact absurd hpw this
    | false=>rfl
  | some a=>
   simp only[map_some];have pa:p.2 a=true:=N9 hp;show(match mf (List.filterMap (λp=>Option.map (λw=>(w,p.fst)) (List.filter p.snd ws).head?) r)with | none=>some (a,p.1) | some y=>if y.1<a then some y else some (a,p.1))=_;rw[ih];cases hr:ws.find? (λw=>r.any λq=>q.2 w)with
   | none=>simp only[];rw[CB,pa];rfl
   | some b=>
    have hb:(r.any λq=>q.2 b)=true:=N9 (p:=λw=>r.any λq=>q.2 w) hr;obtain⟨q,hq,hqb⟩:=DK.mp hb;cases hf:r.find? (λq=>q.2 b)with
    | none=>exact absurd hqb (Jo.mp hf q hq)
    | some q'=>
     simp only[hf,map_some];by_cases ba:b<a
     ·simp only[AB ba];rw[CB]
      have nb:p.2 b=false:=by
       cases hpb:p.2 b with
       | false=>rfl
       | true=>
        exfalso;have hm:=EU hr;rw[List.find?_eq_some_iff_append]at hp;obtain⟨_,as,bs,e,hn⟩:=hp;rw[e]at hm h;rcases(A5.mp hm)with z | z
        ·have:=hn b z;rw[hpb]at this;cases this
        rcases(AK.mp z)with z | z
        ·lia
        have:=(LF.mp (List.pairwise_append.mp h).2.1).1 b z;lia
      rw[nb,hf];rfl
     simp only[Ao ba];rw[CB,pa];rfl
theorem TX {α:Type}:∀(L:List (Int×α)) (z:Int×α),mf L=some z->z∈L
 | [],z,h=>by cases h
 | y::r,z,h=>by
  unfold mf at h;cases e:mf r with
  | none=>rw[e]at h;cases h;exact Bo
  | some u=>
   rw[e]at h;simp only[]at h;split at h
   ·cases h;exact Bn _ (TX r _ e)
   cases h;exact Bo
theorem TV {α:Type}:∀(L:List (Int×α)) (i:Nat) (x:Int×α),L[i]? = some x->(∀(j:Nat) (y:Int×α),L[j]? = some y->x.1<=y.1/\(j<i->x.1<y.1))->mf L=some x
 | [],i,x,h,_=>by cases h
 | y::r,0,x,h,b=>by
  cases h;unfold mf;cases e:mf r with
  | none=>rfl
  | some z=>have hz:z∈r:=TX r z e;obtain⟨j,hj⟩:=DL hz;have:=(b (j+1) z hj).1;simp only[];rw[Ao (by lia)]
 | y::r,i+1,x,h,b=>by have:=TV r i x h λj z hj=>⟨(b (j+1) z hj).1,λhji=>(b (j+1) z hj).2 (by lia)⟩;unfold mf;rw[this];simp only[];rw[AB ((b 0 y rfl).2 (by lia))]
def Bp (e:Ed):Pn->List (Str×(Int->Bool))
 | .stop=>[("keep",λw=>!e.k.testBit w.toNat),("goal",λw=>!e.g.testBit w.toNat)]
 | .dd d _=>[("keep",λw=>!e.k.testBit w.toNat),("cannot",λw=>match e.ds.find? λx=>decide (x.name=d)with
  | some de=>decide (de.tab[w.toNat]? = some [])
  | none=>false)]
 | .lk l ws=>[("keep",λw=>!e.k.testBit w.toNat),("cannot",λw=>match e.ls.find? λx=>decide (x.name=l)with
  | some lo=>decide (lo.tab[w.toNat]? = some none)
  | none=>false),("answer",λw=>match e.ls.find? λx=>decide (x.name=l)with
  | some lo=>!(BL ws).any λz=>decide (lo.tab[w.toNat]? = some (some z))
  | none=>false)]
 | _=>[]
def QR (h:(e.ds.find? λx=>decide (x.name=d))=some de):Bp e (.dd d r)=([("keep",λw=>!e.k.testBit w.toNat),("cannot",λw=>decide (de.tab[w.toNat]? = some []))]:List (Str×(Int->Bool))):=by simp only[Bp,h]
def QQ {e:Ed}{l:Str}{ws:Pn}{lo:Loo}(h:(e.ls.find? λx=>decide (x.name=l))=some lo):Bp e (.lk l ws)=([("keep",λw=>!e.k.testBit w.toNat),("cannot",λw=>decide (lo.tab[w.toNat]? = some none)),("answer",λw=>!(BL ws).any λz=>decide (lo.tab[w.toNat]? = some (some z)))]:List (Str×(Int->Bool))):=by simp only[Bp,h]
def Bj (e:Ed)(t:Pn)(s:Nat):Option (Int×Str):=Fb (Bp e t) (wl s)
inductive Pl (C:C3)(CE CC:Addr)(vs:List V)(H:Hp)(Q:VK)(E0_:XK):Prop
 | mk (x:Addr) (m:Nat) (e:Ed) (as:List Str) (v:V) (t:Pn) (s:Nat) (c0:vs=[.ref x,v,.int (s:Int)]) (c1:ErAt CE CC H x m e) (c2:Ct m e as) (c3:s<2^m) (c4:PlAt C H t [v]) (c5:okP true t) (c6:Dn e.ds e.ls t) (c7:∀(l:Addr) (ts:List Addr) (rs:List (Str×Nat)) (H':Hp),Same H H'->H l=none->H' l=some (.lst (ts.map V.ref))->ts.length=rs.length->(∀(i:Nat) (t':Addr) (p:Str×Nat),ts[i]? = some t'->rs[i]? = some p->H' t'=some (.tup [.str p.1,.int (p.2:Int)]))->rs.map (λp=>(p.1,wl p.2))=(Bp e t).map (λp=>(p.1,(wl s).filter p.2))->(∀p∈rs,p.2<2^200)->Q (.ref l) H'):Pl C CE CC vs H Q E0_
def KZ {s t r:Nat}(hs:s<2^200)(h:∀i,r.testBit i=(s.testBit i && !t.testBit i)):r<2^200:=Jr _ λi hi=>by rw[h,Oh (BJ hs (Gp (by decide) hi))];rfl
abbrev af (n w:Int)(y:Str):List (Str×V):=[("row",.int n),("world",.int w),("why",.str y)]
inductive PU (CA:Addr)(vs:List V)(H:Hp)(Q:VK)(E0_:XK):Prop
 | mk (x:Addr) (n w:Int) (y:Str) (c0:vs=[.ref x,.int n,.int w,.str y]) (c1:H x=some (Ce x CA none)) (c2:n.natAbs.log2<1920) (c3:w.natAbs.log2<1920) (c4:y.length<=100) (c5:∀(d:Addr) (H':Hp),(∀c u,H c=some u->c≠x->H' c=some u)->H' x=some (Ce x CA (some d))->H' d=some (DF d (af n w y))->d≠x->H d=none->Q .non H'):PU CA vs H Q E0_
abbrev FC:Str := "check_row" ++ ".<locals>." ++ "<lambda>"
abbrev lpos:Pos:=⟨282,31,282,53⟩
def Ouk3 (H:Hp)(E:XK)(T:Addr)(n w:Int)(y:Str):Prop:=∀(d:Addr) (H':Hp),(∀c u,H c=some u->c≠T->H' c=some u)->C9 FC lpos H' T->H d=none->H' d=some (DF d (af n w y))->E (.ref d) none H'
inductive PD (C:C3)(CE CC T:Addr)(vs:List V)(H:Hp)(Q:VK)(E:XK):Prop
 | mk (x:Addr) (m n:Nat) (e:Ed) (as:List Str) (v:V) (t:Pn) (s:Nat) (c0:vs=[.ref x,.int (n:Int),v,.int (s:Int)]) (c1:ErAt CE CC H x m e) (c2:Ct m e as) (c3:s<2^m) (c4:PlAt C H t [v]) (c5:okP true t) (c6:Dn e.ds e.ls t) (c7:n<=100000) (c8:C9 FC lpos H T) (c9:((Bj e t s=none/\∀H':Hp,Same H H'->Q .non H')\/∃w y,Bj e t s=some (w,y)/\Ouk3 H E T n w y)):PD C CE CC T vs H Q E
structure W2 (H:Hp)(us:List Addr)(qs:List (Int×Str)):Prop where
 len:us.length=qs.length
 got:∀(i:Nat) t q,us[i]? = some t->qs[i]? = some q->H t=some (.tup [.int q.1,.str q.2])
def W2.same (h:W2 H us qs)(s:Same H H'):W2 H' us qs:=⟨h.len,λi t q h1 h2=>s _ _ (h.got i t q h1 h2)⟩
def W2.snoc (h:W2 H us qs)(e:H t=some (.tup [.int q.1,.str q.2])):W2 H (us++[t]) (qs++[q]):=by
 have hl:=h.len;refine⟨by rw[AR,AR,hl];rfl,λi t' q' h1 h2=>?_⟩;by_cases hi:i<us.length
 ·rw[Cr hi]at h1;rw[Cr (by lia)]at h2;exact h.got i t' q' h1 h2
 rw[Ci (by lia)]at h1;rw[Ci (by lia),<- hl]at h2;cases hk:i-us.length with
 | zero=>rw[hk]at h1 h2;cases h1;cases h2;exact e
 | succ k=>rw[hk]at h1;cases h1
def B7 (rs:List (Str×Nat)):List (Int×Str):=rs.filterMap λp=>((wl p.2).head?).map λw=>(w,p.1)
def lB (h:rs.map (λp=>(p.1,wl p.2))=(Bp e t).map (λp=>(p.1,(wl s).filter p.2))):mf (B7 rs)=Bj e t s:=by
 have e1:B7 rs=(rs.map (λp=>(p.1,wl p.2))).filterMap λq:Str×List Int=>(q.2.head?).map λw=>(w,q.1):=by rw[List.filterMap_map];rfl
 have e2:hds (Bp e t) (wl s)=((Bp e t).map (λp=>(p.1,(wl s).filter p.2))).filterMap λq:Str×List Int=>(q.2.head?).map λw=>(w,q.1):=by rw[List.filterMap_map];rfl
 rw[e1,h,<- e2];exact TY _ (Ho s) _
def Uu (rs:List (Str×Nat)):(B7 rs).length<=rs.length:=List.length_filterMap_le ..
def Fun.okDc {CN:Addr}{x qual:Str}{st:Stmt}{f:Addr}{fd:FuncData}{N ps:List Str}{k:Nat}{sp:Sp}(F:Fun K x qual st f fd)(S:Au N ps (Ak st))(len:∀vs H Q E,sp vs H Q E->vs.length=ps.length)
  (hbody:∀(aj:Value) (A:Around) (ag:List Env) (s:Shared) (H:Hp) (vs:List V) (Q:VK) (E:XK),fd.code=aj->Room k (A.deeper (envOfC qual (Ak st) s.heap.objs.size f aj))->sp vs H Q E -> ∃t,PSs (B3 (Ck P w CN) P w K mg base N qual (Ak st) f aj A ag s H E) (Cf st) t/\t { nx:=λ_ H'=>Q .non H',rt:=Q } (DH N vs) H):FnOk P w K mg base (Ck P w CN) (k+1) f fd ps sp:=by
 obtain⟨oc,od,kV,doc,pm,an,aj,ct,osl,rfl,lk,hcd⟩:=F.ex
 exact Li lk hcd S len λA ag s H vs Q E hr hsp=>hbody aj A ag s H vs Q E rfl hr hsp
def Wi (h:wl m=[]):m=0:=Ee λi=>by
 rw[FO];cases hb:m.testBit i with
 | false=>rfl
 | true=>have:((i:Nat):Int)∈wl m:=wl_mem.mpr ⟨by lia,hb⟩;rw[h]at this;cases this
def FV (h:C9 qual lp H T)(s:Same H H'):C9 qual lp H' T:=by
 rcases h with h | ⟨c,h,h2⟩
 ·exact .inl (s _ _ h)
 exact .inr ⟨c,s _ _ h,s _ _ h2⟩
def Ww (h:C9 qual lp H T)(e:H T=some (.tup vs)):False:=by rcases h with h | ⟨c,h,h2⟩ <;> rw[h]at e <;> cases e
def Wx (h:C9 qual lp H T):H T≠none:=by rcases h with h | ⟨c,h,h2⟩ <;> rw[h] <;> exact λz=>by cases z
def T5 (h:n<=100000):n.log2<1920:=by
 rcases Nat.eq_zero_or_pos n with rfl | p
 ·decide
 exact(Nat.log2_lt (by lia)).mpr (FQ h (BJ (show 100000<2^17 by decide) (Gp (by decide) (by decide))))
def lN (h:p∈Bp e t):p.1.length<=100:=by
 cases t with
 | stop=>simp only[Bp,AK,Bw,Bv]at h;rcases h with rfl | rfl <;> (dsimp only;decide +kernel)
 | dd _ _=>simp only[Bp,AK,Bw,Bv]at h;rcases h with rfl | rfl <;> (dsimp only;decide +kernel)
 | lk _ _=>simp only[Bp,AK,Bw,Bv]at h;rcases h with rfl | rfl | rfl <;> (dsimp only;decide +kernel)
 | nil=>cases h
 | way _ _ _=>cases h
def Wf {e:Ed}{t:Pn}{s:Nat}{w:Int}{y:Str}(h:Bj e t s=some (w,y)):w∈wl s/\y.length<=100:=by
 unfold Bj Fb at h;split at h
 ·cases h
 rename_i w' hw;obtain⟨p,hp,e1⟩:=CH.mp h;cases e1;exact⟨EU hw,lN (EU hp)⟩
abbrev KU:List Str:=["self", "row", "world", "why"]
abbrev gV:List Str:=KU
def Yt:Au gV KU (Ak Qb):=AA
def aQ {CE f1 f2 f3 f5:Addr} (F:Fun K "faults" "faults" M0 f fd)(T:Bl mg)(L:Cl K CC)(LE:Hk K CE)(I:OH K C)(LD:JB K C.d)(LL:Gr K C.l)(mS:mg "Stop" = some (.ref C.s))(mD:mg "Do" = some (.ref C.d))(mL:mg "Look" = some (.ref C.l))
  (b_chart:Binds K d1 ["self"] [])(m_chart:B9 K CE "chart" f1)(G_chart:FnOk P w K mg base CX0 1 f1 d1 Ir (Mr CE CC))(b_keep:Binds K d2 ["self"] [])(m_keep:B9 K CE "keep" f2)(G_keep:FnOk P w K mg base CX0 1 f2 d2 KI (Pm CE CC))(b_goal:Binds K d3 ["self"] [])(m_goal:B9 K CE "goal" f3)(G_goal:FnOk P w K mg base CX0 1 f3 d3 KJ (Pp CE CC))
  (C_without:Ca P w K mg base CX0 1 "without" MA Kf O7)(b_doable:Binds K d5 ["self", "name"] [])(m_doable:B9 K CC "doable" f5)(G_doable:FnOk P w K mg base (CXe P w) 2 f5 d5 Iv (Mu CC NN))(C_answered:Ca P w K mg base CX0 3 "answered" M7 KW (PQ C CC)):FnOk P w K mg base CX0 4 f fd KH (Pl C CE CC):=by
 refine F.oq scFaults λaj A ag s0 H vs Q E hr3 h=>?_
 obtain⟨x,m,e,as,v,t,s,rfl,R0,ok,hs,pl,okt,nm,q⟩:=h
 have hr2:Room 2 _:=hr3.mono (by decide)
 have hr1:Room 1 _:=hr3.mono (by decide)
 have ak:sizeLine=16777216:=AL
 have m2:=ok.ch.m2
 have R:=R0
 obtain⟨dx,c0,hx,hc0⟩:=R
 have s200:=DX hs m2
 have k200:=DX ok.hk m2
 have g200:=DX ok.hg m2
 obtain⟨r1,er1,hb1⟩:=K0 s200 k200
 have w1:=JD hb1
 have l1':=KZ s200 hb1
 refine⟨_,(Af (Ay (i:=3) scFaults.nd (HY (pv 0) LE.cl m_chart G_chart hr1 b_chart .nil Ai)) (Af (Ay (i:=4) scFaults.nd (Cy (Aa (Bd (Aa A0 (Aa (Aq C_without hr1 Ai (Aa (pv 2) (Aa (HY (pv 0) LE.cl m_keep G_keep hr1 b_keep .nil Ai) Ab))) Ab))) Ab))) (Af (AH (Cn (Bf IW (by rfl) T.isi Eo (Aa (pv 1) (Aa (EH (v:=.ref C.s) (by rfl) mS rfl) Ab)))) (Ah (BD (Dq Dx Dy DN Dr (pv 4) (Aa (Bd (Aa A0 (Aa (Aq C_without hr1 Ai (Aa (pv 2) (Aa (HY (pv 0) LE.cl m_goal G_goal hr1 b_goal .nil Ai) Ab))) Ab))) Ab)))) AD) (Af (AH (Cn (Bf IW (by rfl) T.isi Eo (Aa (pv 1) (Aa (EH (v:=.ref C.d) (by rfl) mD rfl) Ab)))) (Ah (BD (Dq Dx Dy DN Dr (pv 4) (Aa (Bd (Aa A0 (Aa (Aq C_without hr1 Ai (Aa (pv 2) (Aa (EG (pv 3) L.cl m_doable G_doable hr2 b_doable .nil GH (Aa (Co (pv 1) rfl) Ab)) Ab))) Ab))) Ab)))) AD) (Af (AH (Cn (Bf IW (by rfl) T.isi Eo (Aa (pv 1) (Aa (EH (v:=.ref C.l) (by rfl) mL rfl) Ab)))) (Af (BD (Dq Dx Dy DN Dr (pv 4) (Aa (Bd (Aa A0 (Aa (Aq C_without hr1 Ai (Aa (pv 2) (Aa (EG (pv 3) L.cl m_doable G_doable hr2 b_doable .nil GH (Aa (Co (pv 1) rfl) Ab)) Ab))) Ab))) Ab))) (Ah (BD (Dq Dx Dy DN Dr (pv 4) (Aa (Bd (Aa A0 (Aa (Aq C_without hr1 Ai (Aa (pv 2) (Aa (Aq C_answered hr3 Ai (Aa (pv 3) (Aa (pv 1) Ab))) Ab))) Ab))) Ab))))) AD) (Ah (Ar (pv 4)))))))),?_⟩
 refine⟨_,rfl,x,dx,_,rfl,hx,NI (by decide +kernel),x,m,e,rfl,R0,λc hc=>?_⟩
 obtain⟨cdx,p',o',a',q',d',kp',ko,ka,kq,kd,o1,o2,hc1,_⟩:=hc.ex
 refine⟨_,rfl,_,rfl,x,dx,_,rfl,hx,NI (by decide +kernel),x,m,e,rfl,R0,_,_,rfl,?_⟩
 rw[er1]
 refine⟨AW,λt1 ht1=>⟨AW,λl hl=>?_⟩⟩
 have s1:Same H (upd H t1 (.tup [.str "keep",.int (r1:Int)])):=Same.new ht1
 have e1:(upd H t1 (.tup [.str "keep",.int (r1:Int)])) t1=some (.tup [.str "keep",.int (r1:Int)]):=Ae
 generalize (upd H t1 (.tup [.str "keep",.int (r1:Int)]))=H1 at s1 e1 hl ⊢
 obtain⟨H2,g0,s2,e2⟩:=Bu (H:=H1) (o:=.lst [.ref t1]) hl
 rw[g0]
 have s02:=s1.trans s2
 have hl0:H l=none:=s1.free hl
 have t12:=s2 _ _ e1
 have nl1:t1≠l:=AM e1 hl
 cases t with
 | stop=>
  obtain⟨o,ox,e',h⟩:=pl;cases e';have h2:=s02 _ _ h;refine⟨_,rfl,o,C.s,C.s,ox,_,rfl,h2,.inl ⟨IK,_,rfl,?_⟩⟩;refine BH ?_;refine⟨_,rfl,.inl ⟨rfl,_,SqL.of e2⟩,_,rfl,_,rfl,x,dx,_,rfl,s02 _ _ hx,NI (by decide +kernel),x,m,e,rfl,R0.same s02,_,_,rfl,?_⟩;obtain⟨r2,er2,hb2⟩:=K0 s200 g200;rw[er2];refine⟨AW,λt2 ht2=>?_⟩;obtain⟨H3,g0,s3,e3⟩:=Bu (H:=H2) (o:=.tup [.str "goal",.int (r2:Int)]) ht2;rw[g0];have nl2:t2≠l:=(AM e2 ht2).symm;refine⟨l,_,_,rfl,rfl,s3 _ _ e2,by show 1<sizeLine;lia,?_⟩;have s04:Same H (upd H3 l (.lst ([.ref t1]++[.ref t2]))):=(s02.trans s3).put hl0;have h4:=s04 _ _ h;refine⟨_,rfl,o,C.s,C.d,ox,_,rfl,h4,.inr ⟨I.nS,I.sD,_,rfl,?_⟩⟩;refine A4 ?_;dsimp only[A9];refine⟨_,rfl,o,C.s,C.l,ox,_,rfl,h4,.inr ⟨I.nS,I.sL,_,rfl,?_⟩⟩;refine A4 ?_;dsimp only[A9];refine⟨_,rfl,q l [t1,t2] [("keep",r1),("goal",r2)] _ s04 hl0 Ae rfl (λi t' p h1 h2=>?_) ?_ (λp hp=>?_)⟩
  ·rcases i with _ | _ | i
   ·cases h1;cases h2;rw[Aj nl1];exact s3 _ _ t12
   ·cases h1;cases h2;rw[Aj nl2];exact e3
   cases h1
  ·show [(Str.ofString "keep",wl r1),(Str.ofString "goal",wl r2)]=[(Str.ofString "keep",bd e.k s),(Str.ofString "goal",bd e.g s)];rw[w1,JD hb2]
  simp only[AK,Bw,Bv]at hp;rcases hp with rfl | rfl
  ·exact l1'
  exact KZ s200 hb2
 | dd d r=>
  obtain⟨o,ox,w',e',h,_⟩:=pl;cases e';obtain⟨de,hde,rfl⟩:=AE.mp nm;have h2:=s02 _ _ h;have hst:(de.name,bt (BN (λn=>decide (bt n≠0)) de.tab))∈EM e.ds e.ls:=Ec _ (AE.mpr ⟨de,hde,rfl⟩);refine⟨_,rfl,o,C.d,C.s,ox,_,rfl,h2,.inr ⟨I.nD,I.dS,_,rfl,?_⟩⟩;refine A4 ?_;dsimp only[A9];refine⟨_,rfl,o,C.d,C.d,ox,_,rfl,h2,.inl ⟨IK,_,rfl,?_⟩⟩;refine BH ?_;refine⟨_,rfl,.inl ⟨rfl,_,SqL.of e2⟩,_,rfl,_,rfl,c,cdx,_,rfl,s02 _ _ hc1,EK (by decide +kernel),_,rfl,o,C.d,ox,_,_,rfl,h2,LD.cl,LD.n1,QV _ w',c,m,_,_,de.name,rfl,hc.same s02,ok.ch.nd,.inr ⟨_,hst,rfl,_,_,rfl,?_⟩⟩;obtain⟨r2,er2,hb2⟩:=K0 s200 (NL ok.ch hst);rw[er2];refine⟨AW,λt2 ht2=>?_⟩;obtain⟨H3,g0,s3,e3⟩:=Bu (H:=H2) (o:=.tup [.str "cannot",.int (r2:Int)]) ht2;rw[g0];have nl2:t2≠l:=(AM e2 ht2).symm;refine⟨l,_,_,rfl,rfl,s3 _ _ e2,by show 1<sizeLine;lia,?_⟩;have s04:Same H (upd H3 l (.lst ([.ref t1]++[.ref t2]))):=(s02.trans s3).put hl0;have h4:=s04 _ _ h;refine⟨_,rfl,o,C.d,C.l,ox,_,rfl,h4,.inr ⟨I.nD,I.dL,_,rfl,?_⟩⟩;refine A4 ?_;dsimp only[A9];refine⟨_,rfl,q l [t1,t2] [("keep",r1),("cannot",r2)] _ s04 hl0 Ae rfl (λi t' p h1 h2=>?_) ?_ (λp hp=>?_)⟩
  ·rcases i with _ | _ | i
   ·cases h1;cases h2;rw[Aj nl1];exact s3 _ _ t12
   ·cases h1;cases h2;rw[Aj nl2];exact e3
   cases h1
  ·have e9:(Bp e (.dd de.name r)).map (λp=>(p.1,(wl s).filter p.2))=[(Str.ofString "keep",bd e.k s),(Str.ofString "cannot",G1 de s)]:=by rw[QR (NG (BZ.mp ok.ch.nd).1 hde)];rfl
   rw[e9];show [(Str.ofString "keep",wl r1),(Str.ofString "cannot",wl r2)]=_;rw[w1,JD hb2,VC (ok.ch.de de hde).len hs]
  simp only[AK,Bw,Bv]at hp;rcases hp with rfl | rfl
  ·exact l1'
  exact KZ s200 hb2
 | lk l' ws=>
  have pl0:=pl;obtain⟨o,ox,u,us',e',h,_⟩:=pl;cases e';obtain⟨lo,hlo,rfl⟩:=AE.mp nm;have h2:=s02 _ _ h;have lol:=ok.ch.lo lo hlo;have hst:(lo.name,bt (BN isSome lo.tab))∈EM e.ds e.ls:=C8 _ (AE.mpr ⟨lo,hlo,rfl⟩);refine⟨_,rfl,o,C.l,C.s,ox,_,rfl,h2,.inr ⟨I.nL,I.lS,_,rfl,?_⟩⟩;refine A4 ?_;dsimp only[A9];refine⟨_,rfl,o,C.l,C.d,ox,_,rfl,h2,.inr ⟨I.nL,I.lD,_,rfl,?_⟩⟩;refine A4 ?_;dsimp only[A9];refine⟨_,rfl,o,C.l,C.l,ox,_,rfl,h2,.inl ⟨IK,_,rfl,?_⟩⟩;refine BH ?_;refine⟨_,rfl,.inl ⟨rfl,_,SqL.of e2⟩,_,rfl,_,rfl,c,cdx,_,rfl,s02 _ _ hc1,EK (by decide +kernel),_,rfl,o,C.l,ox,_,_,rfl,h2,LL.cl,LL.n1,NH _ (.ref u),c,m,_,_,lo.name,rfl,hc.same s02,ok.ch.nd,.inr ⟨_,hst,rfl,_,_,rfl,?_⟩⟩;obtain⟨r2,er2,hb2⟩:=K0 s200 (NL ok.ch hst);rw[er2];refine⟨AW,λt2 ht2=>?_⟩;obtain⟨H3,g0,s3,e3⟩:=Bu (H:=H2) (o:=.tup [.str "cannot",.int (r2:Int)]) ht2;rw[g0];have nl2:t2≠l:=(AM e2 ht2).symm;refine⟨l,_,_,rfl,rfl,s3 _ _ e2,by show 1<sizeLine;lia,?_⟩;have s04:Same H (upd H3 l (.lst ([.ref t1]++[.ref t2]))):=(s02.trans s3).put hl0;have e4:(upd H3 l (.lst ([.ref t1]++[.ref t2]))) l=some (.lst [.ref t1,.ref t2]):=Ae;have t14:(upd H3 l (.lst ([.ref t1]++[.ref t2]))) t1=some (.tup [.str "keep",.int (r1:Int)]):=by rw[Aj nl1];exact s3 _ _ t12
  have t24:(upd H3 l (.lst ([.ref t1]++[.ref t2]))) t2=some (.tup [.str "cannot",.int (r2:Int)]):=by rw[Aj nl2];exact e3
  generalize (upd H3 l (.lst ([.ref t1]++[.ref t2])))=H4 at s04 e4 t14 t24 ⊢;refine⟨_,rfl,.inl ⟨rfl,_,SqL.of e4⟩,_,rfl,_,rfl,_,rfl,c,m,e,as,_,lo,ws,rfl,hc.same s04,ok,hlo,pl0.same s04,okt,λF H5 s5 hF=>⟨_,_,rfl,?_⟩⟩
  have f200:F<2^200:=Jr _ λi hi=>by
   cases hb:F.testBit i with
   | false=>rfl
   | true=>obtain⟨z,_,hz⟩:=(hF i).mp hb;have:=(AN.mp hz).1;lia
  obtain⟨r3,er3,hb3⟩:=K0 s200 f200;rw[er3];refine⟨AW,λt3 ht3=>?_⟩;obtain⟨H6,g0,s6,e6⟩:=Bu (H:=H5) (o:=.tup [.str "answer",.int (r3:Int)]) ht3;rw[g0];have e45:=s5 _ _ e4;have nl3:t3≠l:=(AM e45 ht3).symm;refine⟨l,_,_,rfl,rfl,s6 _ _ e45,by show 2<sizeLine;lia,?_⟩;have s56:=s5.trans s6;refine⟨_,rfl,q l [t1,t2,t3] [("keep",r1),("cannot",r2),("answer",r3)] _ ((s04.trans s56).put hl0) hl0 Ae rfl (λi t' p h1 h2=>?_) ?_ (λp hp=>?_)⟩
  ·rcases i with _ | _ | _ | i
   ·cases h1;cases h2;rw[Aj nl1];exact s56 _ _ t14
   ·cases h1;cases h2;rw[Aj nl2];exact s56 _ _ t24
   ·cases h1;cases h2;rw[Aj nl3];exact e6
   cases h1
  ·have e9:(Bp e (.lk lo.name ws)).map (λp=>(p.1,(wl s).filter p.2))=[(Str.ofString "keep",bd e.k s),(Str.ofString "cannot",ER lo s),(Str.ofString "answer",bd F s)]:=by
    have ef:(wl s).filter (λw=>!(BL ws).any λz=>decide (lo.tab[w.toNat]? = some (some z)))=bd F s:=Lz λw _=>by
     rw[CT,Jg,Jg];constructor
     ·intro z;cases hb:F.testBit w.toNat with
      | false=>rfl
      | true=>obtain⟨y,hy,hyt⟩:=(hF w.toNat).mp hb;rw[Hg]at z;exact absurd (Bb hyt) (z y hy)
     intro z;rw[Hg];intro y hy hyt;have:=(hF w.toNat).mpr ⟨y,hy,BF hyt⟩;rw[z]at this;cases this
    rw[QQ (NF (BZ.mp ok.ch.nd).2.1 hlo)];show [(Str.ofString "keep",bd e.k s),(Str.ofString "cannot",ER lo s),(Str.ofString "answer",(wl s).filter (λw=>!(BL ws).any λz=>decide (lo.tab[w.toNat]? = some (some z))))]=_;rw[ef]
   rw[e9];show [(Str.ofString "keep",wl r1),(Str.ofString "cannot",wl r2),(Str.ofString "answer",wl r3)]=_;rw[w1,JD hb2,JD hb3,VB lol hs]
  simp only[AK,Bw,Bv]at hp;rcases hp with rfl | rfl | rfl
  ·exact l1'
  ·exact KZ s200 hb2
  exact KZ s200 hb3
 | nil=>exact okt.elim
 | way _ _ _=>exact okt.elim
def cG (F:Fun K "__init__" "Astray.__init__" Qb f fd)(XA:XC K CA f G)(WR:PySem.W.findIn K (.ref CA) "row" = some none)(WY:PySem.W.findIn K (.ref CA) "why" = some none)(R':Er K mg G NN):FnOk P w K mg base CX0 1 f fd KU (PU CA):=by
 refine F.oq Yt λaj A ag s H vs Q E hr h=>?_;obtain⟨x,n,w,y,rfl,hx,hn,hw,hy,q⟩:=h;have ak:sizeLine=16777216:=AL;refine⟨_,(Af (BD (Zo XA (by rfl) R'.mG (Aa (pv 0) (Aa (Zn (Qn (Tq (pv 2) (Qn (Tq (pv 1) (Qn (Za (pv 3) Zb))))))) Ab)))) (Af (Y6 XA WR (pv 0) (pv 1) rfl) (Af (Tn XA XA.n2 (pv 0) (pv 2) rfl) (Ah (Tn XA WY (pv 0) (pv 3) rfl))))),?_⟩;have k1:(Str.ofString "world ").length<=100:=by decide +kernel
 have k2:(Str.ofString " is wrong at row ").length<=100:=by decide +kernel
 have k3:(Str.ofString ": ").length<=100:=by decide +kernel
 have l0:Str.empty.length=0:=rfl;have i1:=int_text_len_1921 hw;have i2:=int_text_len_1921 hn;have a1:=Gw Str.empty (Str.ofString "world ");have a2:=Gw (Str.empty++Str.ofString "world ") (Str.ofString (toString w));have a3:=Gw (Str.empty++Str.ofString "world " ++ Str.ofString (toString w)) (Str.ofString " is wrong at row ");have a4:=Gw (Str.empty++Str.ofString "world " ++ Str.ofString (toString w)++Str.ofString " is wrong at row ") (Str.ofString (toString n));have a5:=Gw (Str.empty++Str.ofString "world " ++ Str.ofString (toString w)++Str.ofString " is wrong at row " ++ Str.ofString (toString n)) (Str.ofString ": ");have a6:=Gw (Str.empty++Str.ofString "world " ++ Str.ofString (toString w)++Str.ofString " is wrong at row " ++ Str.ofString (toString n)++Str.ofString ": ") y;refine⟨_,rfl,by lia,_,rfl,w,rfl,hw,by lia,by lia,_,rfl,n,rfl,hn,by lia,by lia,_,rfl,y,rfl,by lia,by lia,x,[_],none,rfl,hx,by show 1<=1000;decide,?_⟩;refine⟨_,rfl,_,rfl,x,rfl,hx,λd hd nd=>?_⟩;have e1:(upd (upd H x (Ce x CA (some d))) d (DF d [("row",.int n)])) x=some (Ce x CA (some d)):=by rw[Aj (DB nd),Ae]
 refine⟨_,rfl,_,rfl,x,d,_,rfl,e1,Ae,nd,by show 1<1000;decide,?_⟩;have ep:AI "world" (V.int w) [("row",V.int n)]=([("row",.int n),("world",.int w)]:List (Str×V)):=by unfold AI;(rw[Ao (by decide +kernel)]);rfl
 rw[ep];have e2:(upd (upd (upd H x (Ce x CA (some d))) d (DF d [("row",.int n)])) d (DF d [("row",.int n),("world",.int w)])) x=some (Ce x CA (some d)):=by rw[Aj (DB nd)];exact e1
 refine⟨_,rfl,_,rfl,x,d,_,rfl,e2,Ae,nd,by show 2<1000;decide,?_⟩;have ep2:AI "why" (V.str y) ([("row",.int n),("world",.int w)]:List (Str×V))=af n w y:=by unfold AI;(rw[Ao (by decide +kernel)]);rfl
 rw[ep2];refine q d _ (λc u hc nc=>?_) ?_ Ae nd hd
 ·have ncd:c≠d:=AM hc hd;rw[Aj ncd,Aj ncd,Aj ncd,Aj nc];exact hc
 rw[Aj (DB nd)];exact e2
def bQ {CE:Addr} (F:Fun K "check_row" "check_row" HR f fd)(T:Bl mg)(XA:XC K CA fA G)(mA:mg "Astray" = some (.ref CA))(bA:Binds K dA ["self", "row", "world", "why"] [])(GA:FnOk P w K mg base CX0 1 fA dA KU (PU CA))
  (C_faults:Ca P w K mg base CX0 4 "faults" M0 KH (Pl C CE CC))(C_least_of:Ca P w K mg base CX0 2 "least_of" MM Kn Pf)
  (hcd':fd.code=.ref c)(hcT:PySem.W.codeHdIn K c T'=true)(hbm:∃bm o,mg "__builtins__" = some (.ref bm)/\bm≠builtinsNs/\bm≠mainGlobals/\base.get? bm=some o/\o.cls=.type "module" /\ o.dict=some builtinsNs/\o.data=.plain):FnOk P w K mg base (Ck P w CA) 5 f fd Nq (PD C CE CC T'):=by
 refine Fun.okDc F scCheckRow (λvs H Q E h=>?_) (λaj A ag s0 H vs Q E hc0 hr4 h=>?_)
 ·obtain⟨x,m,n,e,as,v,t,s,rfl,_⟩:=h;rfl
 obtain⟨x,m,n,e,as,v,t,s,rfl,er,ok,hs,pl,okt,nm,hn,tb,q⟩:=h
 have hr2:Room 2 _:=hr4.mono (by decide)
 have ak:sizeLine=16777216:=AL
 have hcd:aj=.ref c:=hc0.symm.trans hcd'
 refine⟨_,(Af (HW (i:=4) (N:=["why", "worlds"]) (sc:=Ak HR) (own:=["why", "worlds"]) (fr:=[]) (js:=[]) scCheckRow.nd rfl rfl B2 rfl (BG (Aq C_faults hr4 Ai (Aa (pv 0) (Aa (pv 2) (Aa (pv 3) Ab))))) (λ_ _ _ _=>Le K rfl (DV (n:=2) rfl (BP (AU (i:=0) (show List.Nodup (["why", "worlds"]:List Str) by decide +kernel)) (BP (AU (i:=1) (show List.Nodup (["why", "worlds"]:List Str) by decide +kernel)) DU)))) (λ_ _ _ _=>Fw (AS IE (pv 1) Ac (AO _))) (λ_ _ _ _=>(Bd (Aa (Aq C_least_of hr2 Ai (Aa (pv 1) Ab)) (Aa (pv 0) Ab))))) (Ah (AH (AS K3 (Bf C2 (by rfl) T.len CG (Aa (pv 4) Ab)) Ac (AO _)) (Af (Ay (i:=5) scCheckRow.nd (Zj rfl hr4 (by rfl) T.min oK (Aa (pv 4) Ab) rfl hcd hcT rfl hbm)) (Ah (Y5 XA GA hr2 bA (by rfl) mA (Aa (pv 1) (Aa (As AJ (pv 5) Ac (λ_ _=>rfl)) (Aa (As AJ (pv 5) Ac (λ_ _=>rfl)) Ab)))))) AD))),?_⟩
 refine⟨_,rfl,_,rfl,_,rfl,x,m,e,as,v,t,s,rfl,er,ok,hs,pl,okt,nm,λl ts rs H1 s1 hl0 el tl got eqs r200=>?_⟩
 refine⟨l,rfl,⟨_,SqL.of el⟩,λD hD=>?_⟩
 have ll:(ts.map V.ref).length=ts.length:=Al ..
 have r3:rs.length<=1000:=by
  have e9:=BY List.length eqs;rw[Al,Al]at e9;rw[e9];cases t with
  | stop=>exact BV (Am 2) (by decide)
  | dd _ _=>exact BV (Am 2) (by decide)
  | lk _ _=>exact BV (Am 3) (by decide)
  | nil=>exact okt.elim
  | way _ _ _=>exact okt.elim
 refine NA (K:=K) (n:=(ts.map V.ref).length) (λi ys H2=>∃us:List Addr,ys=us.map V.ref/\W2 (rm H2 [D]) us (B7 (rs.take i))/\Same H1 H2/\H2 D=some (.lst ys))
  ⟨[],rfl,⟨by rw[Dv];rfl,λi t q h=>by cases h⟩,Same.new hD,Ae⟩ (λi ys H2 hi ⟨_,_,_,s2,_⟩=>⟨_,(ts.map V.ref)[i],SqL.of (s2 _ _ el),AC hi⟩) (λys H2 hh0=>by obtain⟨_,_,_,s2,_⟩:=hh0;exact⟨_,SqL.of (s2 _ _ el),Am _⟩) ?_ ?_
 ·rintro i ys H2 v H3 hi ⟨us,rfl,qr,s2,e2⟩ ⟨rfl,hy⟩;have hv:=hy _ (SqL.of (s2 _ _ el));rw[AV]at hv;obtain⟨t',ht',rfl⟩:=CH.mp hv;have hir:i<rs.length:=by have:=(AN.mp ht').1;lia
  have hp:rs[i]? = some rs[i]:=AC hir;have htk:rs.take (i+1)=rs.take i++[rs[i]]:=BK hir;have p2:=r200 rs[i] (CQ hir);have hz:=got i t' _ ht' hp;generalize rs[i]=p at hp htk p2 hz;have hdk:B7 (rs.take (i+1))=B7 (rs.take i)++B7 [p]:=by rw[htk];exact List.filterMap_append ..
  have hql:=Uu (rs.take i);rw[BO]at hql;have qrl:=qr.len;refine⟨t',_,_,rfl,SqT.of (s2 _ _ hz),?_⟩;refine⟨_,rfl,rfl,_,rfl,?_⟩;cases hw:wl p.2 with
  | nil=>have p0:p.2=0:=Wi hw;refine AZ (λz=>absurd z (by rw[p0];decide)) (λ_=>?_);refine⟨us,rfl,?_,s2,e2⟩;rw[hdk,show B7 [p]=[] by unfold B7;rw[FR,hw];rfl,BR];exact qr
  | cons w0 wr=>
   have pn:p.2≠0:=λz=>by rw[z]at hw;cases hw
   refine AZ (λ_=>?_) (λz=>absurd (by rw[Cg (λh=>pn (by have:=V.int.inj h;lia))];rfl) z);refine⟨_,rfl,p.2,rfl,p2,λH4 s4=>?_⟩;rw[hw];refine⟨_,rfl,AW,λtp htp=>?_⟩;have s5:=Same.new (o:=.tup [.int w0,.str p.1]) htp;have e4:=s4 _ _ e2;have nD:tp≠D:=(AM e4 htp).symm;refine⟨_,s5 _ _ e4,by rw[Al];lia,us++[tp],by rw[AX];rfl,?_,((s2.trans s4).trans s5).put hD,Ae⟩;rw[hdk,show B7 [p]=[(w0,p.1)] by unfold B7;rw[FR,hw];rfl,F0 (by simp)];exact(qr.same (E3 (s4.trans s5))).snoc (by rw[Ej (by simpa using nD)];exact Ae)
 rintro ys H2 ⟨us,rfl,qr0,s2,e2⟩
 rw[ll,tl,Bq]at qr0
 have qr:=qr0.same HS
 have mfe:=lB eqs
 have s02:=s1.trans s2
 have ulen:=qr.len
 have hql:=Uu rs
 refine⟨_,rfl,_,_,rfl,.inl ⟨_,SqL.of e2,rfl⟩,_,_,rfl,rfl,_,rfl,?_⟩
 by_cases hz:us.length=0
 ·have h0:B7 rs=[]:=Oi.mp (by lia);rw[h0]at mfe;refine AZ (λz=>?_) (λ_=>?_)
  ·have:=BF z;rw[Al]at this;lia
  unfold A9;dsimp only;rcases q with⟨_,q⟩ | ⟨w,y,hw,_⟩
  ·exact q H2 s02
  rw[hw]at mfe;cases mfe
 refine AZ (λ_=>?_) (λz=>absurd (Bb (by rw[Al];lia)) z)
 refine⟨_,rfl,D,us,λi=>(((B7 rs)[i]?).map (·.1)).getD 0,rfl,SqL.of e2,by lia,λi u hu=>?_,FV tb s02,λi u H3 hu best kp tb3=>?_⟩
 ·have hi:i<(B7 rs).length:=by have:=(AN.mp hu).1;lia
  have hx:(B7 rs)[i]? = some (B7 rs)[i]:=AC hi;have:=qr.got i u _ hu hx;refine⟨.str (B7 rs)[i].2,?_⟩;dsimp only;rw[hx];exact this
 have hi:i<(B7 rs).length:=by have:=(AN.mp hu).1;lia
 have hx:(B7 rs)[i]? = some (B7 rs)[i]:=AC hi
 have hm:mf (B7 rs)=some (B7 rs)[i]:=TV _ i _ hx λj y hj=>by have:=best j (by have:=(AN.mp hj).1;lia);dsimp only at this;rw[hx,hj]at this;exact this
 generalize (B7 rs)[i]=p at hx hm
 obtain⟨w1,y1⟩:=p
 have eu:=qr.got i u _ hu hx
 have uT:u≠T':=λz=>by rw[z]at eu;exact Ww (FV tb s02) eu
 have e3:H3 u=some (.tup [.int w1,.str y1]):=kp _ _ eu uT
 rw[mfe]at hm
 rcases q with⟨hn',_⟩ | ⟨w,y,hw,q⟩
 ·rw[hn']at hm;cases hm
 rw[hw]at hm
 cases hm
 obtain⟨wm,yl⟩:=Wf hw
 have wb:=Eh hs wm
 have m2:=ok.ch.m2
 refine⟨_,rfl,_,rfl,u,_,_,_,rfl,rfl,SqT.of e3,Av (j:=0) rfl,_,rfl,u,_,_,_,rfl,rfl,SqT.of e3,Av (j:=1) rfl,by show 3<=1000;decide,λx' hx'=>?_⟩
 refine⟨x',n,w1,y1,rfl,Ae,T5 (by lia),T5 (by lia),yl,λd' H' k ex ed nx hd=>⟨rfl,d',ex,?_⟩⟩
 have sx:Same H3 (FZ H' x'):=λc u hc=>by have ncx:c≠x':=AM hc hx';rw[Fu ncx];exact k c u (by rw[Aj ncx];exact hc) ncx
 rw[Aj nx]at hd
 refine q d' _ (λc u hc nc=>sx _ _ (kp _ _ (s02 _ _ hc) nc)) (FV tb3 sx) ?_ (by rw[Fu nx];exact ed)
 cases hd':H d' with
 | none=>rfl
 | some u'=>
  by_cases z:d'=T'
  ·rw[z]at hd;exact absurd hd (Wx tb3)
  rw[kp _ _ (s02 _ _ hd') z]at hd;cases hd
def C6 (e:Ed):List (Pn×Nat)->Nat->Option (Nat×Int×Str)
 | [],_=>none
 | x::r,n=>match Bj e x.1 x.2 with
  | some z=>some (n,z)
  | none=>C6 e r (n+1)
theorem UN :∀(A B:List (Pn×Nat)) (n:Nat),C6 e (A++B) n=(match C6 e A n with
  | some z=>some z
  | none=>C6 e B (n+A.length))
 | [],B,n=>rfl
 | x::r,B,n=>by
  have ih:=UN (e:=e) r B (n+1);rw[show n+1+r.length=n+(x::r).length by rw[CF];lia]at ih;show(match Bj e x.1 x.2 with | some z=>some (n,z) | none=>C6 e (r++B) (n+1))=(match (match Bj e x.1 x.2 with | some z=>some (n,z) | none=>C6 e r (n+1))with | some z=>some z | none=>C6 e B (n+(x::r).length));cases Bj e x.1 x.2 with
  | some z=>rfl
  | none=>exact ih
theorem UO :∀(A:List (Pn×Nat)) (n:Nat),(∀x∈A,Bj e x.1 x.2=none)->C6 e A n=none
 | [],_,_=>rfl
 | x::r,n,h=>by unfold C6;rw[h x Bo];exact UO r (n+1) λy hy=>h y (Bn _ hy)
theorem UM :∀(A:List (Pn×Nat)) (n i:Nat) (x:Pn×Nat) (z:Int×Str),A[i]? = some x->Bj e x.1 x.2=some z->(∀j y,j<i->A[j]? = some y->Bj e y.1 y.2=none)->C6 e A n=some (n+i,z)
 | [],_,i,x,z,h,_,_=>by cases h
 | y::r,n,0,x,z,h,hz,_=>by cases h;unfold C6;rw[hz];rfl
 | y::r,n,i+1,x,z,h,hz,b=>by unfold C6;rw[b 0 y (by lia) rfl];simp only[];rw[UM r (n+1) i x z h hz λj y' hj e'=>b (j+1) y' (by lia) e',show n+1+i=n+(i+1) by lia]
def Ba (e:Ed):Pn->Str->Nat->Nat->Option (Nat×Int×Str)
 | .stop,_,s,n=>(Bj e .stop s).map λz=>(n,z)
 | .dd d r,_,s,n=>match Bj e (.dd d r) s with
  | some z=>some (n,z)
  | none=>Ba e r d (Dc e d s) (n+1)
 | .lk l ws,_,s,n=>match Bj e (.lk l ws) s with
  | some z=>some (n,z)
  | none=>Ba e ws l s (n+1)
 | .nil,_,_,_=>none
 | .way a p r,l,s,n=>match Ba e p l (A3 e l a s) n with
  | some z=>some z
  | none=>Ba e r l s (n+szP p)
abbrev EY (e:Ed)(t:Pn)(l:Str)(s n:Nat)(b:Option Nat)(a:Option Str):List (Pn×Nat):=((Bc t n b a).map (·.1)).zip (Bz e t l s)
theorem IR :∀(t:Pn) (l:Str) (s k n:Nat) (b:Option Nat) (a:Option Str),Ba e t l s k=C6 e (EY e t l s n b a) k
 | .stop,_,s,k,n,b,a=>by show(Bj e .stop s).map (λz=>(k,z))=(match Bj e .stop s with | some z=>some (k,z) | none=>none);cases Bj e .stop s <;> rfl
 | .dd d r,_,s,k,n,b,a=>by show(match Bj e (.dd d r) s with | some z=>some (k,z) | none=>Ba e r d (Dc e d s) (k+1))=(match Bj e (.dd d r) s with | some z=>some (k,z) | none=>C6 e (EY e r d (Dc e d s) (n+1) (some n) none) (k+1));rw[IR r d _ (k+1) (n+1) (some n) none]
 | .lk l ws,_,s,k,n,b,a=>by show(match Bj e (.lk l ws) s with | some z=>some (k,z) | none=>Ba e ws l s (k+1))=(match Bj e (.lk l ws) s with | some z=>some (k,z) | none=>C6 e (EY e ws l s (n+1) (some n) none) (k+1));rw[IR ws l _ (k+1) (n+1) (some n) none]
 | .nil,_,_,_,_,_,_=>rfl
 | .way x p r,l,s,k,n,b,a=>by
  have h:EY e (.way x p r) l s n b a=EY e p l (A3 e l x s) n b (some x)++EY e r l s (n+szP p) b none:=by show((Bc p n b (some x)++Bc r (n+szP p) b none).map (·.1)).zip (Bz e p l (A3 e l x s)++Bz e r l s)=_;rw[AX,List.zip_append (by rw[Al,EZ,DS])]
  have hl:(EY e p l (A3 e l x s) n b (some x)).length=szP p:=by rw[List.length_zip,Al,EZ,DS,Nat.min_self]
  rw[h,UN,hl,<- IR p l _ k n b (some x),<- IR r l s (k+szP p) (n+szP p) b none];rfl
def Wg (h:Bj e t s=none):∀w∈wl s,∀p∈Bp e t,p.2 w=false:=λw hw p hp=>by
 unfold Bj Fb at h;split at h
 ·rename_i hf;have:=Jo.mp hf w hw;rw[Bool.not_eq_true,Hg]at this;have:=this p hp;cases hb:p.2 w with
  | false=>rfl
  | true=>exact absurd hb this
 rename_i w' hf;have hb:((Bp e t).any λp=>p.2 w')=true:=N9 (p:=λw=>(Bp e t).any λp=>p.2 w) hf;obtain⟨q,hq,hqb⟩:=DK.mp hb;cases hx:(Bp e t).find? λp=>p.2 w' with
 | none=>exact absurd hqb (Jo.mp hx q hq)
 | some q'=>rw[hx]at h;cases h
def YG (ok:Ct m e as) (nm:Dn e.ds e.ls t)(h:Bj e t s=none):L5 e t s:=by
 have a:=Wg h
 have bit:∀{k i:Nat},(∀w∈wl s,(!k.testBit w.toNat)=false)->s.testBit i=true->k.testBit i=true:=λ{k i} z hi=>by
  have:=z (i:Int) (wl_mem.mpr ⟨by lia,by rw[A1];exact hi⟩);rw[A1]at this;cases hk:k.testBit i with
  | true=>rfl
  | false=>rw[hk]at this;cases this
 cases t with
 | stop=>exact⟨sb_iff.mpr λi hi=>bit (λw hw=>a w hw _ Bo) hi,sb_iff.mpr λi hi=>bit (λw hw=>a w hw _ (Bn _ Bo)) hi⟩
 | dd d r=>obtain⟨de,hde,rfl⟩:=AE.mp nm;rw[QR (NG (BZ.mp ok.ch.nd).1 hde)]at a;refine⟨sb_iff.mpr λi hi=>bit (λw hw=>a w hw _ Bo) hi,de,hde,rfl,LR.mpr λw hw z=>?_⟩;have:=a w hw _ (Bn _ Bo);dsimp only at this;rw[z]at this;cases this
 | lk l ws=>
  obtain⟨lo,hlo,rfl⟩:=AE.mp nm;rw[QQ (NF (BZ.mp ok.ch.nd).2.1 hlo)]at a;refine⟨sb_iff.mpr λi hi=>bit (λw hw=>a w hw _ Bo) hi,lo,hlo,rfl,LR.mpr λw hw z=>?_,λi hi=>?_⟩
  ·have:=a w hw _ (Bn _ Bo);dsimp only at this;rw[z]at this;cases this
  have:=a (i:Int) (wl_mem.mpr ⟨by lia,by rw[A1];exact hi⟩) _ (Bn _ (Bn _ Bo));rw[Bool.not_eq_false',A1,DK]at this;obtain⟨z,hz,ez⟩:=this;exact⟨z,hz,BF ez⟩
 | nil=>trivial
 | way _ _ _=>trivial
def Da (p:Bool->Str->Prop):Pn->Prop
 | .dd d r=>p true d/\Da p r
 | .lk l ws=>p false l/\Da p ws
 | .way _ q r=>Da p q/\Da p r
 | _=>True
def L4 (p:Bool->Str->Prop):Pn->Prop
 | .dd d _=>p true d
 | .lk l _=>p false l
 | _=>True
theorem IZ :∀{t:Pn}{n:Nat}{b:Option Nat}{a:Option Str},Da p t->∀x∈Bc t n b a,L4 p x.1
 | .stop,_,_,_,_,x,h=>by rw[AQ.mp h];trivial
 | .dd d r,_,_,_,g,x,h=>by
  rcases(AK.mp h)with h | h
  ·rw[h];exact g.1
  exact IZ g.2 x h
 | .lk l ws,_,_,_,g,x,h=>by
  rcases(AK.mp h)with h | h
  ·rw[h];exact g.1
  exact IZ g.2 x h
 | .nil,_,_,_,_,x,h=>nomatch h
 | .way y q r,n,b,a,g,x,h=>by
  rcases(A5.mp h)with h | h
  ·exact IZ g.1 x h
  exact IZ g.2 x h
def G0 (e:Ed)(b:Bool)(n:Str):Prop:=(b=true->n∈e.ds.map Dee.name)/\(b=false->n∈e.ls.map Loo.name)
def Vm (h:L4 (G0 e) t):Dn e.ds e.ls t:=by
 cases t with
 | dd d r=>exact h.1 rfl
 | lk l ws=>exact h.2 rfl
 | _=>trivial
theorem Lg :∀{t:Pn}{l:Str}{s:Nat},DC e t l s->Da (G0 e) t
 | .stop,_,_,_=>trivial
 | .dd d r,_,_,⟨⟨_,de,h1,h2,_⟩,g⟩=>⟨⟨λ_=>AE.mpr ⟨de,h1,h2⟩,λz=>nomatch z⟩,Lg g⟩
 | .lk l ws,_,_,⟨⟨_,lo,h1,h2,_⟩,g⟩=>⟨⟨(λz=>nomatch z),λ_=>AE.mpr ⟨lo,h1,h2⟩⟩,Lg g⟩
 | .nil,_,_,_=>trivial
 | .way _ p r,_,_,g=>⟨Lg g.1,Lg g.2⟩
inductive PH (C:C3)(CC NN:Addr)(vs:List V)(H:Hp)(Q:VK)(E:XK):Prop
 | mk (c r:Addr) (m:Nat) (ds:List Dee) (ls:List Loo) (us:List V) (rows:List Rw) (c0:vs=[.ref c,.ref r]) (c1:ChAt CC H c m ds ls) (c2:(ds.map Dee.name++ls.map Loo.name).Nodup) (c3:H r=some (.lst us)) (c4:Z2 (RwV C H) us rows) (c5:(((∀x∈rows,Dn ds ls x.1)/\Q .non H)\/((∃x∈rows,¬Dn ds ls x.1)/\(∀x∈rows,L4 (λ_ n=>Rp n) x.1)/\EV H E NN))):PH C CC NN vs H Q E
structure Kt (T:Addr)(H H':Hp):Prop where
 kp:∀c u,H c=some u->c≠T->H' c=some u
 tb:C9 FC lpos H T
 tb':C9 FC lpos H' T
def Kt.to (k:Kt T H H1)(s:Same H1 H'):Kt T H H':=⟨λc u hc nc=>s _ _ (k.kp _ _ hc nc),k.tb,FV k.tb' s⟩
def Kt.of (h:C9 FC lpos H T)(s:Same H H'):Kt T H H':=⟨λc u hc _=>s _ _ hc,h,FV h s⟩
theorem Kt.at (k:Kt T H H') (h:H c=some u)(n:∀a,u≠.tbl a):H' c=some u:=k.kp _ _ h λz=>by rw[z]at h;rcases k.tb with e | ⟨c',e,_⟩ <;> rw[e]at h <;> cases h <;> exact absurd rfl (n _)
inductive JG (C:C3)(CE CC NN T:Addr)(vs:List V)(H:Hp)(Q:VK)(E:XK):Prop
 | mk (x:Addr) (m:Nat) (e:Ed) (as:List Str) (v:V) (t:Pn) (s:Nat) (c0:vs=[.ref x,.int (s:Int),v]) (c1:ErAt CE CC H x m e) (c2:Ct m e as) (c3:s<2^m) (c4:PlAt C H t [v]) (c5:okP true t) (c6:A6 t<=40000) (c7:(((∃y∈Bc t 0 none none,¬Dn e.ds e.ls y.1)/\Da (λ_ n=>Rp n) t/\EV H E NN)\/(Da (G0 e) t/\C9 FC lpos H T /\     ((Ba e t Str.empty s 0=none/\∀(r:Addr) (H':Hp),Same H H'->H r=none->H' r=some (.lst (nV (Bz e t Str.empty s)))->Q (.ref r) H')\/∃n w y,Ba e t Str.empty s 0=some (n,w,y)/\Ouk3 H E T n w y)))):JG C CE CC NN T vs H Q E
inductive Mt (C:C3)(CE CC NN T:Addr)(vs:List V)(H:Hp)(Q:VK)(E:XK):Prop
 | mk (x:Addr) (m:Nat) (e:Ed) (as:List Str) (v:V) (t:Pn) (s:Nat) (c0:vs=[.ref x,.int (s:Int),v]) (c1:ErAt CE CC H x m e) (c2:Ct m e as) (c3:s<2^m) (c4:PlAt C H t [v]) (c5:okP true t) (c6:A6 t<=40000) (c7:(((∃y∈Bc t 0 none none,¬Dn e.ds e.ls y.1)/\Da (λ_ n=>Rp n) t/\EV H E NN)\/(Da (G0 e) t/\C9 FC lpos H T/\∀H':Hp,Kt T H H'->Q (.bl (decide (Ba e t Str.empty s 0=none))) H'))):Mt C CE CC NN T vs H Q E
def Ouk3.same {H H1:Hp}{E:XK}{T:Addr}{n w:Int}{y:Str}(o:Ouk3 H E T n w y)(s:Same H H1):Ouk3 H1 E T n w y:=λd H' k tb hd ed=>o d H' (λc u hc nc=>k _ _ (s _ _ hc) nc) tb (s.free hd) ed
def YA {e:Ed}{t:Pn}{l:Str}{s n:Nat}{b:Option Nat}{a:Option Str}{i:Nat}{y:Rw}{c:Nat}(h1:(Bc t n b a)[i]? = some y)(h2:(Bz e t l s)[i]? = some c):(EY e t l s n b a)[i]? = some (y.1,c):=by rw[RZ];exact⟨by rw[AV,h1];rfl,h2⟩
def Yz {e:Ed}{t:Pn}{l:Str}{s n:Nat}{b:Option Nat}{a:Option Str}{i:Nat}{z:Pn×Nat}(h:(EY e t l s n b a)[i]? = some z):∃y,(Bc t n b a)[i]? = some y/\y.1=z.1/\(Bz e t l s)[i]? = some z.2:=by rw[RZ]at h;obtain⟨h1,h2⟩:=h;rw[AV]at h1;obtain⟨y,hy,e1⟩:=CH.mp h1;exact⟨y,hy,e1,h2⟩
def bS {f1 f2:Addr} (F:Fun K "check_names" "check_names" M3 f fd)(T:Bl mg)(L:Cl K CC)(I:OH K C)(LD:JB K C.d)(LL:Gr K C.l)(mD:mg "Do" = some (.ref C.d))(mL:mg "Look" = some (.ref C.l))
  (b_check_deed:Binds K d1 ["self", "name"] [])(m_check_deed:B9 K CC "check_deed" f1)(G_check_deed:FnOk P w K mg base (CXe P w) 1 f1 d1 IB (Mx CC NN))(b_check_look:Binds K d2 ["self", "name"] [])(m_check_look:B9 K CC "check_look" f2)(G_check_look:FnOk P w K mg base (CXe P w) 1 f2 d2 IA (Mw CC NN)):FnOk P w K mg base (CXe P w) 2 f fd KP (PH C CC NN):=by
 refine F.oqE scCheckNames λaj A ag s H vs Q E hr1 h=>?_
 obtain⟨c,r,m,ds,ls,us,rows,rfl,ch,nd,hr,zr,q⟩:=h
 obtain⟨cdx,p',o',a',q',d',kp,ko,ka,kq,kd,o1,o2,h1,_⟩:=ch.ex
 have a0:∀u v z:V,Ax [u,v,z] ((0:Nat):Int)=some u:=λ_ _ _=>Av rfl
 refine⟨_,(Ah (BW PassesOwn.leaving rfl (BG (pv 1)) (AU (i:=2) scCheckNames.nd) (Af (AH (Cn (Bf IW (by rfl) T.isi Eo (Aa (As AJ (pv 2) Ac (λ_ _=>rfl)) (Aa (EH (v:=.ref C.d) (by rfl) mD rfl) Ab)))) (Ah (BD (EG (pv 0) L.cl m_check_deed G_check_deed hr1 b_check_deed .nil Ib (Aa (Co (As AJ (pv 2) Ac (λ_ _=>rfl)) rfl) Ab)))) AD) (Ah (AH (Cn (Bf IW (by rfl) T.isi Eo (Aa (As AJ (pv 2) Ac (λ_ _=>rfl)) (Aa (EH (v:=.ref C.l) (by rfl) mL rfl) Ab)))) (Ah (BD (EG (pv 0) L.cl m_check_look G_check_look hr1 b_check_look .nil Ib (Aa (Co (As AJ (pv 2) Ac (λ_ _=>rfl)) rfl) Ab)))) AD))))),?_⟩
 refine⟨_,rfl,r,rfl,⟨_,SqL.of hr⟩,?_⟩
 refine C1 (K:=K) (a:=r) (xs:=us) (λi σ H2=>∃(v2:Option V),σ = [some (.ref c),some (.ref r),v2]/\H2=H/\∀x∈rows.take i,Dn ds ls x.1) ⟨none,rfl,rfl,λx hx=>by rw[Dv]at hx;cases hx⟩ (λi σ H2 _ hh0=>by obtain⟨_,_,z,_⟩:=hh0;rw[z];exact SqL.of hr) ?_ ?_
 ·rintro i v σ H2 hv ⟨v2,rfl,rfl,nm⟩;obtain⟨x,hx,t,pv,rfl,ht,pl,okx⟩:=zr.at hv
  have nx:Dn ds ls x.1->∀y∈rows.take (i+1),Dn ds ls y.1:=λz y hy=>by
   rw[Gu hx]at hy;rcases(A5.mp hy)with hy | hy
   ·exact nm y hy
   rw[AQ.mp hy];exact z
  have bad:¬Dn ds ls x.1->L4 (λ_ n=>Rp n) x.1/\EV H2 E NN:=λz=>by
   rcases q with⟨q,_⟩ | ⟨_,q1,q2⟩
   ·exact absurd (q x (Bt hx)) z
   exact⟨q1 x (Bt hx),q2⟩
  refine⟨_,rfl,t,_,_,_,rfl,rfl,SqT.of ht,a0 _ _ _,?_⟩;obtain⟨tr,ab,an⟩:=x;cases tr with
  | stop=>obtain⟨o,dx,e,h⟩:=pl;cases e;refine⟨o,C.s,C.d,dx,_,rfl,h,.inr ⟨I.nS,I.sD,_,rfl,?_⟩⟩;refine A4 ?_;dsimp only[A9];refine⟨_,rfl,t,_,_,_,rfl,rfl,SqT.of ht,a0 _ _ _,o,C.s,C.l,dx,_,rfl,h,.inr ⟨I.nS,I.sL,_,rfl,?_⟩⟩;refine A4 ?_;exact⟨_,rfl,rfl,nx trivial⟩
  | dd d r'=>
   obtain⟨o,dx,w',e,h,_⟩:=pl;cases e;refine⟨o,C.d,C.d,dx,_,rfl,h,.inl ⟨IK,_,rfl,?_⟩⟩;refine BH ?_;refine⟨_,rfl,c,cdx,_,rfl,h1,EK (by decide +kernel),_,rfl,t,_,_,_,rfl,rfl,SqT.of ht,a0 _ _ _,o,C.d,dx,_,_,rfl,h,LD.cl,LD.n1,QV d w',c,m,ds,ls,d,rfl,ch,nd,?_⟩;by_cases hd:d∈ds.map Dee.name
   ·refine .inr ⟨hd,?_⟩;refine⟨_,rfl,t,_,_,_,rfl,rfl,SqT.of ht,a0 _ _ _,o,C.d,C.l,dx,_,rfl,h,.inr ⟨I.nD,I.dL,_,rfl,?_⟩⟩;refine A4 ?_;exact⟨_,rfl,rfl,nx hd⟩
   exact .inl ⟨hd,bad hd⟩
  | lk l ws=>
   obtain⟨o,dx,u,us',e,h,_⟩:=pl;cases e;refine⟨o,C.l,C.d,dx,_,rfl,h,.inr ⟨I.nL,I.lD,_,rfl,?_⟩⟩;refine A4 ?_;dsimp only[A9];refine⟨_,rfl,t,_,_,_,rfl,rfl,SqT.of ht,a0 _ _ _,o,C.l,C.l,dx,_,rfl,h,.inl ⟨IK,_,rfl,?_⟩⟩;refine BH ?_;refine⟨_,rfl,c,cdx,_,rfl,h1,EK (by decide +kernel),_,rfl,t,_,_,_,rfl,rfl,SqT.of ht,a0 _ _ _,o,C.l,dx,_,_,rfl,h,LL.cl,LL.n1,NH l (.ref u),c,m,ds,ls,l,rfl,ch,nd,?_⟩;by_cases hd:l∈ls.map Loo.name
   ·refine .inr ⟨hd,?_⟩;exact⟨_,rfl,rfl,nx hd⟩
   exact .inl ⟨hd,bad hd⟩
  | nil=>exact okx.elim
  | way _ _ _=>exact okx.elim
 rintro σ H2 ⟨v2,rfl,rfl,nm⟩
 rw[zr.len,Bq]at nm
 rcases q with⟨_,q⟩ | ⟨⟨x,hx,z⟩,_⟩
 ·exact q
 exact absurd (nm x hx) z
def ZK {CE f1:Addr} (F:Fun K "walked" "walked" Hx f fd)(T:Bl mg)(LE:Hk K CE)(b_chart:Binds K d1 ["self"] [])(m_chart:B9 K CE "chart" f1)(G_chart:FnOk P w K mg base CX0 1 f1 d1 Ir (Mr CE CC))
  (C_rows_in:Ca P w K mg base CX0 3 "rows_in" MF Kh (O1 C))(C_check_names:Ca P w K mg base (CXe P w) 2 "check_names" M3 KP (PH C CC NN))
  (C_led_on:Ca P w K mg base CX0 6 "led_on" MK Km (Pe C CC))(C_check_row:Ca P w K mg base (Ck P w CA) 5 "check_row" HR Nq (PD C CE CC T')):FnOk P w K mg base (Ck P w CA) 7 f fd Fx (JG C CE CC NN T'):=by
 refine Fun.okD F scWalked (λvs H Q E h=>?_) (λaj A ag s0 H vs Q E hr6 h=>?_)
 ·obtain⟨x,m,e,as,v,t,s,rfl,_⟩:=h;rfl
 obtain⟨x,m,e,as,v,t,s,rfl,R0,ok,hs,pl,okt,wt,q⟩:=h
 have hr5:Room 5 _:=hr6.mono (by decide)
 have hr3:Room 3 _:=hr6.mono (by decide)
 have hr2:Room 2 _:=hr6.mono (by decide)
 have hr1:Room 1 _:=hr6.mono (by decide)
 have ak:sizeLine=16777216:=AL
 have R:=R0
 obtain⟨dx,c0,hx,hc0⟩:=R
 have Clen:=DS e t Str.empty s
 have wts:=Gv t
 have fullE:Cv [(t,none,none)] 0=Bc t 0 none none:=by show Bc t 0 none none++[]=_;rw[BR]
 have flen:=EZ t 0 none none
 have fz:=IR (e:=e) t Str.empty s 0 0 none none
 have rza:=λi y c=>@YA e t Str.empty s 0 none none i y c
 have rzo:=λi z=>@Yz e t Str.empty s 0 none none i z
 generalize hR:EY e t Str.empty s 0 none none=Rz at fz rza rzo
 clear hR
 have led:=λ(Cs:List Nat) (hC:Bz e t Str.empty s=Cs) (i:Nat) (y:Rw) (c:Nat) (h1:(Bc t 0 none none)[i]? = some y) (h2:Cs[i]? = some c)=>show(y.2.1=none/\c=s)\/∃k tk ck,y.2.1=some k/\k<i/\(Bc t 0 none none)[k]?.map (·.1)=some tk/\Cs[k]? = some ck/\R8 tk y.2.2/\c=K9 e tk y.2.2 ck by
  rw[<- hC]at h2;rcases K8 (e:=e) (Bc t 0 none none) Cs t true Str.empty s 0 none none okt (λi x h=>by rw[LB];exact h) (λi c h=>by rw[LB,<- hC];exact h) i y c h1 h2 with⟨e1,⟨_,_,e3⟩ | ⟨z,_⟩⟩ | ⟨k,tk,ck,e1,_,k2,r1⟩
  ·exact .inl ⟨e1,e3⟩
  ·cases z
  exact .inr ⟨k,tk,ck,e1,by lia,r1⟩
 have ltC:=Ka ok t Str.empty s hs
 have led:=led _ rfl
 generalize Bz e t Str.empty s=Cs at Clen q rza rzo led ltC
 have a0:∀u v z:V,Ax [u,v,z] ((0:Nat):Int)=some u:=λ_ _ _=>Av rfl
 refine⟨_,(Af (Ay (i:=3) scWalked.nd (HY (pv 0) LE.cl m_chart G_chart hr1 b_chart .nil Ai)) (Af (Ay (i:=4) scWalked.nd (Aq C_rows_in hr3 Ai (Aa (pv 2) Ab))) (Af (BD (Aq C_check_names hr2 Zt (Aa (pv 3) (Aa (pv 4) Ab)))) (Af (Ay (i:=5) scWalked.nd (Cy Ab)) (Af (BW PassesOwn.leaving rfl (BG (pv 4)) (DV rfl (BP (AU (i:=6) scWalked.nd) (BP (AU (i:=7) scWalked.nd) (BP (AU (i:=8) scWalked.nd) DU)))) (Af (Ay (i:=9) scWalked.nd (Qu (AS GT (pv 7) Cw (AO _)) (pv 1) (Aq C_led_on hr6 Ai (Aa (pv 3) (Aa (As AJ (As Dj (pv 4) (pv 7) (λ_ _=>rfl)) Ac (λ_ _=>rfl)) (Aa (pv 8) (Aa (As Dj (pv 5) (pv 7) (λ_ _=>rfl)) Ab))))))) (Af (BD (Aq C_check_row hr5 Zu (Aa (pv 0) (Aa (Bf C2 (by rfl) T.len CG (Aa (pv 5) Ab)) (Aa (pv 6) (Aa (pv 9) Ab)))))) (Ah (BD (Dq Dx Dy DN Dr (pv 5) (Aa (pv 9) Ab))))))) (Ah (Ar (pv 5)))))))),?_⟩
 refine⟨_,rfl,x,dx,_,rfl,hx,NI (by decide +kernel),x,m,e,rfl,R0,λc hc=>?_⟩
 refine⟨_,rfl,v,t,rfl,pl,okt,wt,λr us H1 s1 hr er zr=>?_⟩
 rw[fullE]at zr
 refine⟨_,rfl,_,rfl,c,r,m,_,_,us,_,rfl,hc.same s1,ok.ch.nd,er,zr,?_⟩
 rcases q with⟨bad,rp,out⟩ | ⟨al,tb,q⟩
 ·exact .inr ⟨bad,IZ rp,λb H' s' hb=>out b H' (s1.trans s') hb⟩
 have nms:∀y∈Bc t 0 none none,Dn e.ds e.ls y.1:=λy hy=>Vm (IZ al y hy)
 refine .inl ⟨nms,?_⟩
 have ul:=zr.len
 refine⟨Bk _,λcm hcm=>?_⟩
 have hcm0:H cm=none:=s1.free hcm
 obtain⟨H2,g0,s2,e2⟩:=Bu (H:=H1) (o:=.lst []) hcm
 rw[g0]
 refine⟨_,rfl,r,rfl,⟨_,SqL.of (s2 _ _ er)⟩,?_⟩
 refine C1 (K:=K) (a:=r) (xs:=us) (λi σ H3=>∃(v6 v7 v8 v9:Option V),σ = [some (.ref x),some (.int (s:Int)),some v,some (.ref c),some (.ref r),some (.ref cm),v6,v7,v8,v9]/\Same H1 H3/\H3 cm=some (.lst (nV (Cs.take i)))/\∀j z,j<i->Rz[j]? = some z->Bj e z.1 z.2=none)
  ⟨none,none,none,none,rfl,s2,e2,λj z hj=>absurd hj (LJ _)⟩ (λi σ H3 _ hh0=>by obtain⟨_,_,_,_,_,z,_⟩:=hh0;exact SqL.of (z _ _ er)) ?_ ?_
 ·rintro i y' σ H3 hy ⟨v6,v7,v8,v9,rfl,s3,ecm,nw⟩;obtain⟨y,hyx,tt,pv,rfl,htt,ply,oky⟩:=zr.at hy;have hi:=(AN.mp hyx).1;have hiC:i<Cs.length:=by lia
  have hCi:Cs[i]? = some Cs[i]:=AC hiC;have htk:Cs.take (i+1)=Cs.take i++[Cs[i]]:=BK hiC;have l1:=led i y _ hyx hCi;have lt1:=ltC _ (CQ hiC);have rzi:=rza i y _ hyx hCi;have nmy:=nms y (Bt hyx);generalize Cs[i]=ci at hCi htk l1 lt1 rzi;have s03:=s1.trans s3;have tl:(nV (Cs.take i)).length=i:=by rw[Al,BO];lia
  refine⟨tt,_,rfl,SqT.of (s3 _ _ htt),rfl,_,_,rfl,_,_,rfl,_,_,rfl,rfl,?_⟩;refine FX (λσ' H'=>σ'=[some (.ref x),some (.int (s:Int)),some v,some (.ref c),some (.ref r),some (.ref cm),some pv,some (oN y.2.1),some (oS y.2.2),some (.int (ci:Int))]/\Same H3 H') ?_ ?_
  ·rintro σ' H4 ⟨rfl,s4⟩;have ecm4:=s4 _ _ ecm;have s04:=s03.trans s4;refine⟨_,rfl,_,rfl,_,_,rfl,.inl ⟨_,SqL.of ecm4,rfl⟩,_,rfl,_,rfl,x,m,(nV (Cs.take i)).length,e,as,pv,y.1,ci,rfl,R0.same s04,ok,lt1,(ply.same s3).same s4,oky,nmy,by lia,FV tb s04,?_⟩;cases hwr:Bj e y.1 ci with
   | none=>
    refine .inl ⟨rfl,λH5 s5=>?_⟩;have ecm5:=s5 _ _ ecm4;refine⟨_,rfl,.inl ⟨rfl,_,SqL.of ecm5⟩,_,rfl,cm,_,_,rfl,rfl,ecm5,by lia,?_⟩;refine⟨_,_,_,_,rfl,((s3.trans s4).trans s5).put hcm,?_,λj z hj hz=>?_⟩
    ·rw[Ae,htk];show _=some (HO.lst (List.map (λy:Nat=>V.int (y:Int)) (_++_)));rw[AX];rfl
    by_cases hji:j=i
    ·rw[hji,rzi]at hz;cases hz;exact hwr
    exact nw j z (by lia) hz
   | some zz=>
    obtain⟨w1,y1⟩:=zz;have hf:Ba e t Str.empty s 0=some (i,w1,y1):=by rw[fz,UM Rz 0 i _ (w1,y1) rzi hwr λj z hj hz=>nw j z hj hz,LB]
    rcases q with⟨hn,_⟩ | ⟨n,w2,y2,hn,ou⟩
    ·rw[hf]at hn;cases hn
    rw[hf]at hn;cases hn;refine .inr ⟨w1,y1,rfl,?_⟩;rw[tl];exact ou.same s04
  intro N hN;refine⟨_,rfl,rfl,_,rfl,?_⟩;rcases l1 with⟨e1,e3⟩ | ⟨k,tk,ck,e1,k1,fk,ckk,kd,e3⟩
  ·rw[e1];refine BH ?_;refine⟨_,rfl,hN _ _ ⟨?_,Same.refl _⟩⟩;rw[e1,e3];rfl
  rw[e1];refine A4 ?_;have hku:us[k]? = some (us[k]'(by lia)):=AC (by lia);obtain⟨yk,hyk,tk',pvk,etk,htk',plk,okk⟩:=zr.at hku;have etk2:yk.1=tk:=by rw[hyk]at fk;exact BS fk
  have rk:=YG ok (nms yk (Bt hyk)) (nw k _ k1 (rza k yk ck hyk ckk));rw[etk2]at rk okk plk;have hkc:(nV (Cs.take i))[k]? = some (.int (ck:Int)):=by rw[AV,getElem?_take_of_lt k1,ckk];rfl
  refine⟨_,rfl,_,rfl,_,rfl,r,_,_,_,rfl,rfl,SqL.of (s3 _ _ er),Av (by rw[hku,etk]),tk',_,_,_,rfl,rfl,SqT.of (s3 _ _ htk'),a0 _ _ _,_,rfl,_,rfl,_,rfl,cm,_,_,_,rfl,rfl,SqL.of ecm,Av hkc,c,m,e,as,pvk,tk,y.2.2,ck,rfl,(hc.same s1).same s3,ok,ltC _ (Bt ckk),plk.same s3,okk,rk,kd,λH4 s4=>?_⟩;refine hN _ _ ⟨?_,s4⟩;rw[e1,e3];rfl
 rintro σ H3 ⟨v6,v7,v8,v9,rfl,s3,ecm,nw⟩
 have e9:Cs.take us.length=Cs:=LQ (by lia)
 rw[e9]at ecm
 have hf:Ba e t Str.empty s 0=none:=by rw[fz];refine UO Rz 0 λz hz=>?_;obtain⟨j,hj⟩:=DL hz;obtain⟨y,hy,_⟩:=rzo j z hj;have:=(AN.mp hy).1;exact nw j z (by lia) hj
 rcases q with⟨_,q⟩ | ⟨n,w2,y2,hn,_⟩
 ·exact⟨_,rfl,q cm H3 (s1.trans s3) hcm0 ecm⟩
 rw[hf]at hn
 cases hn
def bC {CE f1:Addr} (F:Fun K "does" "does" J4 f fd)(XA:XC K CA fA G)(mA:mg "Astray" = some (.ref CA))(hsub:PySem.W.subIn K (.ref NN) (.ref CA)=some false)(D_walked:Df K mg "walked" Hx Fx f1 d1)(G_walked:FnOk P w K mg base (Ck P w CA) 7 f1 d1 Fx (JG C CE CC NN T')):FnOk P w K mg base (CXe P w) 8 f fd GP (Mt C CE CC NN T'):=by
 refine F.oqE Yf λaj A ag s0 H vs Q E hr7 h=>?_;obtain⟨x,m,e,as,v,t,s,rfl,R0,ok,hs,pl,okt,wt,q⟩:=h;refine⟨_,(Af (Y4 Zs rfl rfl rfl XA.ex (by rfl) mA G_walked.dw hr7 (by rfl) D_walked.m D_walked.F.kp D_walked.b (λpn xe=>(Aa (pv 0) (Aa (pv 1) (Aa (pv 2) Ab)))) (λa=>(Ah (Ar De)))) (Ah (Ar De))),?_⟩;refine⟨_,rfl,_,rfl,_,rfl,x,m,e,as,v,t,s,rfl,R0,ok,hs,pl,okt,wt,?_⟩;rcases q with⟨bad,rp,out⟩ | ⟨al,tb,q⟩
 ·exact .inl ⟨bad,rp,λb H' s' hb=>⟨(λz=>by cases z),λ_=>⟨b,rfl,.inr ⟨NN,rfl,hsub,out b H' s' hb⟩⟩⟩⟩
 refine .inr ⟨al,tb,?_⟩;cases hf:Ba e t Str.empty s 0 with
 | none=>rw[hf]at q;exact .inl ⟨rfl,λr H' s' _ _=>q H' (Kt.of tb s')⟩
 | some z=>obtain⟨n,w1,y1⟩:=z;rw[hf]at q;exact .inr ⟨n,w1,y1,rfl,λd H' k tb' hd ed=>⟨λ_ a=>⟨a,rfl,.inl ⟨rfl,λ_=>q H' ⟨k,tb,tb'⟩⟩⟩,λz=>absurd rfl z⟩⟩
def C5 (e:Ed)(t:Pn)(w:Int):Str:=match (Bp e t).find? λp=>p.2 w with
 | some p=>p.1
 | none=>Str.empty
def lM (h:p∈Bp e t):p.1≠Str.empty:=by
 cases t with
 | stop=>simp only[Bp,AK,Bw,Bv]at h;rcases h with rfl | rfl <;> (dsimp only;decide +kernel)
 | dd _ _=>simp only[Bp,AK,Bw,Bv]at h;rcases h with rfl | rfl <;> (dsimp only;decide +kernel)
 | lk _ _=>simp only[Bp,AK,Bw,Bv]at h;rcases h with rfl | rfl | rfl <;> (dsimp only;decide +kernel)
 | nil=>cases h
 | way _ _ _=>cases h
def Sh {e:Ed}{t:Pn}{w:Int}(h:C5 e t w=Str.empty):((Bp e t).any λp=>p.2 w)=false:=by
 unfold C5 at h;rw[Hg];intro p hp hb;cases hf:(Bp e t).find? λp=>p.2 w with
 | none=>exact Jo.mp hf p hp hb
 | some q=>rw[hf]at h;exact lM (EU hf) h
def We (b:∀w∈wl s,C5 e t w=Str.empty):Bj e t s=none:=by
 have h:(wl s).find? (λw=>(Bp e t).any λp=>p.2 w)=none:=Jo.mpr λw hw=>by rw[Sh (b w hw)];decide
 unfold Bj Fb;rw[h]
def Wb {e:Ed}{t:Pn}{s i:Nat}{w:Int}(h:(wl s)[i]? = some w)(b:∀j w',j<i->(wl s)[j]? = some w'->C5 e t w'=Str.empty)(hw:C5 e t w≠Str.empty):Bj e t s=some (w,C5 e t w):=by
 obtain⟨hi,ei⟩:=AN.mp h;unfold C5 at hw;cases hf:(Bp e t).find? λp=>p.2 w with
 | none=>rw[hf]at hw;exact absurd rfl hw
 | some q=>
  have hq:((Bp e t).any λp=>p.2 w)=true:=DK.mpr ⟨q,EU hf,N9 (p:=λp:Str×(Int->Bool)=>p.2 w) hf⟩;have h1:(wl s).find? (λw=>(Bp e t).any λp=>p.2 w)=some w:=by (rw[List.find?_eq_some_iff_getElem]);refine⟨hq,i,hi,ei,λj hj=>?_⟩;rw[Sh (b j _ hj (AC (by lia)))];rfl
  unfold Bj Fb C5;rw[h1];simp only[hf,map_some]
def En (e:Ed)(l:Str)(s:Nat):List (Str×Pn)->Nat->Option (Nat×Int×Str)
 | [],_=>none
 | x::r,n=>match Ba e x.2 l (A3 e l x.1 s) n with
  | some z=>some z
  | none=>En e l s r (n+szP x.2)
theorem QS :∀(A B:List (Str×Pn)) (n:Nat),En e l s (A++B) n=(match En e l s A n with
  | some z=>some z
  | none=>En e l s B (n+(CU e l s A).length))
 | [],B,n=>rfl
 | x::r,B,n=>by
  have ih:=QS (e:=e) (l:=l) (s:=s) r B (n+szP x.2);have hl:(CU e l s (x::r)).length=szP x.2+(CU e l s r).length:=by show(Bz e x.2 l (A3 e l x.1 s)++CU e l s r).length=_;rw[AR,DS]
  rw[hl,<- Nat.add_assoc];show(match Ba e x.2 l (A3 e l x.1 s) n with | some z=>some z | none=>En e l s (r++B) (n+szP x.2))=(match (match Ba e x.2 l (A3 e l x.1 s) n with | some z=>some z | none=>En e l s r (n+szP x.2))with | some z=>some z | none=>En e l s B (n+szP x.2+(CU e l s r).length));cases Ba e x.2 l (A3 e l x.1 s) n with
  | some z=>rfl
  | none=>exact ih
theorem UF :∀{ws:Pn}(n:Nat),okP false ws->Ba e ws l s n=En e l s (wyL ws) n
 | .nil,_,_=>rfl
 | .way a p r,n,h=>by show(match Ba e p l (A3 e l a s) n with | some z=>some z | none=>Ba e r l s (n+szP p))=(match Ba e p l (A3 e l a s) n with | some z=>some z | none=>En e l s (wyL r) (n+szP p));rw[UF (n+szP p) h.2.2]
 | .stop,_,h=>h.elim
 | .dd _ _,_,h=>h.elim
 | .lk _ _,_,h=>h.elim
theorem VF :∀{ws:Pn},Da p ws->∀y∈wyL ws,Da p y.2
 | .way a q r,g,y,hy=>by
  rcases(AK.mp hy)with z | hy
  ·rw[z];exact g.1
  exact VF g.2 y hy
 | .nil,_,_,hy=>nomatch hy
 | .stop,_,_,hy=>nomatch hy
 | .dd _ _,_,_,hy=>nomatch hy
 | .lk _ _,_,_,hy=>nomatch hy
def oX (h:Da p t):L4 p t:=by
 cases t with
 | dd d r=>exact h.1
 | lk l ws=>exact h.1
 | _=>trivial
def lP (okt:okP true t)(h:Bj e t s=some z):Ba e t l s n=some (n,z):=by
 cases t with
 | nil=>exact okt.elim
 | way _ _ _=>exact okt.elim
 | _=>unfold Ba;rw[h];try rfl
inductive OT (vs:List V)(H:Hp)(Q:VK)(E0_:XK):Prop
 | mk (dt:Addr) (tv:V) (m:Nat) (e:Ed) (as:List Str) (t:Pn) (w:Nat) (c0:vs=[.ref dt,tv,.int (w:Int)]) (c1:Dat H dt e) (c2:Ct m e as) (c3:w<m) (c4:TrAt H t [tv]) (c5:okP true t) (c6:Dn e.ds e.ls t) (c7:∀H':Hp,Same H H'->Q (.str (C5 e t (w:Int))) H'):OT  vs H Q E0_
inductive OW (n:Nat)(vs:List V)(H:Hp)(Q:VK)(E0_:XK):Prop
 | mk (dt rw':Addr) (tv:V) (m:Nat) (e:Ed) (as:List Str) (t:Pn) (l:Str) (s:Nat) (xs:List Nat) (H0:Hp) (c0:vs=[.ref dt,tv,.int (s:Int),.ref rw']) (c1:Dat H0 dt e) (c2:Ct m e as) (c3:s<2^m) (c4:TrAt H0 t [tv]) (c5:okP true t) (c6:Bs t<=n) (c7:Da (G0 e) t) (c8:Same H0 H) (c9:H0 rw'=none) (c10:H rw'=some (.lst (nV xs))) (c11:xs.length+szP t<=100000) (c12:(Ba e t l s xs.length=none->∀H':Hp,(∀c u,H c=some u->c≠rw'->H' c=some u)->H' rw'=some (.lst (nV (xs++Bz e t l s)))->Q .non H')) (c13:∀(i:Nat) (w:Int) (y:Str) (tp:Addr) (H':Hp),Ba e t l s xs.length=some (i,w,y)->(∀c u,H c=some u->c≠rw'->H' c=some u)->H' tp=some (.tup [.int (i:Int),.int w,.str y])->Q (.ref tp) H'):OW n vs H Q E0_
def Wj {e:Ed}{t:Pn}{w:Nat}(okt:okP true t)(h:e.k.testBit w=false):C5 e t (w:Int) = "keep" := by
 cases t with
 | nil=>exact okt.elim
 | way _ _ _=>exact okt.elim
 | _=>simp only[C5,Bp,CB,A1,h,Bool.not_false]
def ZH (F:Fun K "_law_why" "_law_why" MN f fd)(C_l_table:Ca P w K mg base CX0 1 "_law_table" GB Fy Hs)(C_l_ways:Ca P w K mg base CX0 1 "_law_ways" JQ Kp OV):FnOk P w K mg base CX0 2 f fd Ij OT:=by
 refine F.oq scLWhy λaj A ag s0 H vs Q E hr1 h=>?_;obtain⟨dt,tv,m,e,as,t,w,rfl,D0,ok,hw,tr,okt,nm,q⟩:=h;have ao:=hr1.units;obtain⟨l1,l2,us,ws,hdt,h1,h2,hds,hls⟩:=D0.ex;have b0:∀u v x y:V,Ax [u,v,x,y] ((0:Nat):Int)=some u:=λ_ _ _ _=>Av rfl;have b1:∀u v x y:V,Ax [u,v,x,y] ((1:Nat):Int)=some v:=λ_ _ _ _=>Av rfl;have b2:∀u v x y:V,Ax [u,v,x,y] ((2:Nat):Int)=some x:=λ_ _ _ _=>Av rfl;have b3:∀u v x y:V,Ax [u,v,x,y] ((3:Nat):Int)=some y:=λ_ _ _ _=>Av rfl;have c0:∀u v z:V,Ax [u,v,z] ((0:Nat):Int)=some u:=λ_ _ _=>Av rfl;have c1:∀u v z:V,Ax [u,v,z] ((1:Nat):Int)=some v:=λ_ _ _=>Av rfl;have wn:((w:Int)).toNat=w:=A1 w;refine⟨_,(Af (AH (Dp (Qh (Aw F5 (Aw Nr (As AJ (pv 0) Ac (λ_ _=>rfl)) (pv 2)) Ac))) (Ah (Ar A0)) AD) (Af (AH (AS BA (As AJ (pv 1) Ac (λ_ _=>rfl)) A0 (AO _)) (Af (AH (Qh (Aw F5 (Aw Nr (As AJ (pv 0) Ac (λ_ _=>rfl)) (pv 2)) Ac)) (Ah (Ar A0)) AD) (Ah (Ar A0))) AD) (Af (AH (AS BA (As AJ (pv 1) Ac (λ_ _=>rfl)) A0 (AO _)) (Af (AH (AS (Tz ao) (As Dj (Aq C_l_table hr1 Ai (Aa (As AJ (pv 0) Ac (λ_ _=>rfl)) (Aa (As AJ (pv 1) Ac (λ_ _=>rfl)) Ab))) (pv 2) (λ_ _=>rfl)) (Cy Ab) (AO _)) (Ah (Ar A0)) AD) (Ah (Ar A0))) AD) (Af (Ay (i:=3) scLWhy.nd (As Dj (Aq C_l_table hr1 Ai (Aa (As AJ (pv 0) Ac (λ_ _=>rfl)) (Aa (As AJ (pv 1) Ac (λ_ _=>rfl)) Ab))) (pv 2) (λ_ _=>rfl))) (Af (AH (AS GT (pv 3) Cw (AO _)) (Ah (Ar A0)) AD) (Af (AH (AS Zy (pv 3) (Aq C_l_ways hr1 Ai (Aa (pv 1) Ab)) (by rfl)) (Ah (Ar A0)) AD) (Ah (Ar A0)))))))),?_⟩;refine⟨_,rfl,dt,_,_,_,rfl,rfl,SqT.of hdt,b3 _ _ _ _,_,rfl,_,_,rfl,rfl,by show(0:Int)<=(w:Int);lia,_,_,rfl,rfl,_,rfl,?_⟩;rw[wn,NV];cases kb:e.k.testBit w with
 | false=>refine AZ (λ_=>?_) (λz=>absurd (by decide) z);have:=q H (Same.refl _);rw[Wj okt kb]at this;exact this
 | true=>
 refine AZ (λz=>absurd z (by decide)) (λ_=>?_);dsimp only[A9];cases t with
 | stop=>
  obtain⟨a,e',h⟩:=tr;cases e';have hc0:Ax [V.str B0] ((0:Nat):Int)=some (.str B0):=Av rfl;refine⟨_,rfl,a,_,_,_,rfl,rfl,SqT.of h,hc0,rfl,_,rfl,?_⟩;refine E8 ?_;refine⟨_,rfl,dt,_,_,_,rfl,rfl,SqT.of hdt,b2 _ _ _ _,_,rfl,_,_,rfl,rfl,by show(0:Int)<=(w:Int);lia,_,_,rfl,rfl,_,rfl,?_⟩;rw[wn,NV];have q':=q H (Same.refl _);unfold C5 Bp at q';simp only[CB,wn,kb,Bool.not_true]at q';cases gb:e.g.testBit w with
  | true=>refine AZ (λ_=>?_) (λz=>absurd (by decide) z);rw[gb]at q';exact q'
  | false=>refine AZ (λz=>absurd z (by decide)) (λ_=>?_);rw[gb]at q';exact q'
 | dd d r=>
  obtain⟨a,v',e',h,_⟩:=tr;cases e';obtain⟨de,hde,rfl⟩:=AE.mp nm;obtain⟨tb,stl,tbs⟩:=Q3 hds;obtain⟨jd,hjd⟩:=DL hde;obtain⟨es,htb,he⟩:=tbs jd de hjd;have hel:=he.len;have hdl:=(ok.ch.de de hde).len;have ndn:=(BZ.mp ok.ch.nd).1;have hje:w<es.length:=by lia
  obtain⟨en,hen,_,eb,hev,heb⟩:=he.at (AC hje);have hat:Ax es ((w:Nat):Int)=some (.ref eb):=Av (by rw[AC hje,hev]);have q':=λH' s'=>q H' s';unfold C5 at q';rw[QR (NG ndn hde)]at q';simp only[CB,wn,kb,Bool.not_true,hen]at q';refine⟨_,rfl,a,_,_,_,rfl,rfl,SqT.of h,c0 _ _ _,rfl,_,rfl,?_⟩;refine Ds ?_;dsimp only[A9];refine⟨_,rfl,a,_,_,_,rfl,rfl,SqT.of h,c0 _ _ _,rfl,_,rfl,?_⟩;refine E8 ?_;refine⟨_,rfl,dt,_,_,_,rfl,rfl,SqT.of hdt,b0 _ _ _ _,_,rfl,a,_,_,_,rfl,rfl,SqT.of h,c1 _ _ _,l1,us,de.name,e.ds.map Dee.name,tb,rfl,h1,stl,.inr ⟨jd,by rw[AV,hjd];rfl,ndn,?_⟩⟩;refine⟨_,rfl,tb jd,_,_,_,rfl,rfl,SqL.of htb,hat,Bk _,λl0 hl0=>?_⟩;have s3:Same H (upd H l0 (.lst [])):=Same.new hl0;have e3:(upd H l0 (.lst [])) l0=some (.lst (([]:List Int).map V.int)):=Ae;generalize (upd H l0 (.lst []))=H3 at s3 e3 ⊢;refine⟨_,_,.lst (s3 _ _ heb) (RdWs.of (Fv en)),.lst e3 (RdWs.of (Fv [])),FW _,FW _,_,rfl,?_⟩;have q3:=q' H3 s3;cases en with
  | nil=>rw[QZ];refine BH ?_;exact q3
  | cons x0 xr=>rw[UU];refine A4 ?_;dsimp only[A9];exact q3
 | lk l ws'=>
  obtain⟨a,u,us',e',h,hu,tr'⟩:=tr;cases e';obtain⟨lo,hlo,rfl⟩:=AE.mp nm;obtain⟨tb,stl,tbs⟩:=T3 hls;obtain⟨jd,hjd⟩:=DL hlo;have htb:=tbs jd lo hjd;have ndn:=(BZ.mp ok.ch.nd).2.1;have hll:=ok.ch.lo lo hlo;obtain⟨oz,hzt⟩:∃oz,lo.tab[w]? = some oz:=⟨_,AC (by lia)⟩;have hat:Ax (lo.tab.map oS) ((w:Nat):Int)=some (oS oz):=Av (by rw[AV,hzt];rfl);have q':=λH' s'=>q H' s';unfold C5 at q';rw[QQ (NF ndn hlo)]at q';simp only[CB,wn,kb,Bool.not_true,hzt]at q';refine⟨_,rfl,a,_,_,_,rfl,rfl,SqT.of h,c0 _ _ _,rfl,_,rfl,?_⟩;refine Ds ?_;dsimp only[A9];refine⟨_,rfl,a,_,_,_,rfl,rfl,SqT.of h,c0 _ _ _,rfl,_,rfl,?_⟩;refine Ds ?_;dsimp only[A9];refine⟨_,rfl,dt,_,_,_,rfl,rfl,SqT.of hdt,b1 _ _ _ _,_,rfl,a,_,_,_,rfl,rfl,SqT.of h,c1 _ _ _,l2,ws,lo.name,e.ls.map Loo.name,tb,rfl,h2,stl,.inr ⟨jd,by rw[AV,hjd];rfl,ndn,?_⟩⟩;refine⟨_,rfl,tb jd,_,_,_,rfl,rfl,SqL.of htb,hat,?_⟩;refine⟨_,rfl,rfl,_,rfl,?_⟩;cases oz with
  | none=>refine BH ?_;exact q' H (Same.refl _)
  | some z=>
  refine A4 ?_;dsimp only[A9];refine⟨_,rfl,_,rfl,a,u,_,_,us',BL ws',rfl,h,hu,SC okt.2.2.2 tr',okt.2.2.1.2,λr H1 s1 er=>?_⟩;refine⟨r,_,rfl,.inl (SqL.of er),rfl,by rw[He];intro v hv;obtain⟨x,_,rfl⟩:=AE.mp hv;rfl,?_⟩;refine⟨_,rfl,?_⟩;show if (!Ld (V.str z) ((BL ws').map V.str))=true then _ else _
  rw[Ur];have q3:=q' H1 s1
  have hany:((BL ws').any λz'=>decide (some (some z)=some (some z')))=decide (z∈BL ws'):=by
   (rw[CT,DK,CI]);constructor
   ·rintro⟨z',hz',ez⟩;cases BF ez;exact hz'
   intro hz;exact⟨z,hz,Bb rfl⟩
  rw[hany]at q3;cases hin:decide (z∈BL ws')with
  | true=>refine A4 ?_;dsimp only[A9];rw[hin]at q3;exact q3
  | false=>refine BH ?_;rw[hin]at q3;exact q3
 | nil=>exact okt.elim
 | way _ _ _=>exact okt.elim
theorem TC {f1 f2 f3 f4:Addr} (F:Fun K "_law_walk" "_law_walk" JR f fd)(T:Bl mg)(D_l_walk:Df K mg "_law_walk" JR Ik f fd)(D_l_list:Df K mg "_law_list" Ft E5 f1 d1)(G_l_list:FnOk P w K mg base CX0 1 f1 d1 E5 EX)(D_l_why:Df K mg "_law_why" MN Ij f2 d2)(G_l_why:FnOk P w K mg base CX0 2 f2 d2 Ij OT)
  (D_l_behind:Df K mg "_law_behind" HP E6 f3 d3)(G_l_behind:FnOk P w K mg base CX0 2 f3 d3 E6 JM)(D_l_part:Df K mg "_law_part" GF E4 f4 d4)(G_l_part:FnOk P w K mg base CX0 2 f4 d4 E4 JI):∀n:Nat,FnOk P w K mg base CX0 (3+n) f fd Ik (OW n)
 | 0=>Lj λvs H Q E h=>by obtain⟨dt,rw',tv,m,e,as,t,l,s,xs,H0,_,_,_,_,_,okt,h0,_⟩:=h;have:=NC okt.wk;lia
 | n+1=>by
  have G_l_walk:=TC F T D_l_walk D_l_list G_l_list D_l_why G_l_why D_l_behind G_l_behind D_l_part G_l_part n;refine F.ok (k:=3+n) scLWalk (λvs H Q E h=>?_) (λaj A ag s0 H vs Q E hrK h=>?_)
  ·obtain⟨dt,rw',tv,m,e,as,t,l,s,xs,H0,rfl,_⟩:=h;rfl
  obtain⟨dt,rw',tv,m,e,as,t,l,s,xs,H0,rfl,D0,ok,hs,tr,okt,hn,al,sH,h0,hrw,hsz,q1,q2⟩:=h;have hr1:Room 1 _:=hrK.mono (by lia);have hr2:Room 2 _:=hrK.mono (by lia);have ak:sizeLine=16777216:=AL;have m2:=ok.ch.m2;have nm:=Vm (oX al);refine⟨_,(Af (BW B4 rfl (BG (Br G_l_list hr1 (by rfl) D_l_list.m D_l_list.F.kp D_l_list.b .nil Ai (Aa (pv 2) Ab))) (AU (i:=4) scLWalk.nd) (Ah (AH (AS IE (Br G_l_why hr2 (by rfl) D_l_why.m D_l_why.F.kp D_l_why.b .nil Ai (Aa (pv 0) (Aa (pv 1) (Aa (pv 4) Ab)))) A0 (AO _)) (Ah (Ar (Bd (Aa (Bf C2 (by rfl) T.len CG (Aa (pv 3) Ab)) (Aa (pv 4) (Aa (Br G_l_why hr2 (by rfl) D_l_why.m D_l_why.F.kp D_l_why.b .nil Ai (Aa (pv 0) (Aa (pv 1) (Aa (pv 4) Ab)))) Ab)))))) AD)))
  (Af (BD (Dq Dx Dy DN Dr (pv 3) (Aa (pv 2) Ab)))
  (Af (AH (AS BA (As AJ (pv 1) Ac (λ_ _=>rfl)) A0 (AO _)) (Ah (Ar (Br G_l_walk hrK (by rfl) D_l_walk.m D_l_walk.F.kp D_l_walk.b .nil Ai (Aa (pv 0) (Aa (As AJ (pv 1) Ac (λ_ _=>rfl)) (Aa (Br G_l_behind hr2 (by rfl) D_l_behind.m D_l_behind.F.kp D_l_behind.b .nil Ai (Aa (pv 0) (Aa (pv 1) (Aa (pv 2) Ab)))) (Aa (pv 3) Ab))))))) AD)
  (Af (AH (AS BA (As AJ (pv 1) Ac (λ_ _=>rfl)) A0 (AO _)) (Ah (BW B4 rfl (BG (As AJ (pv 1) Ac (λ_ _=>rfl))) (DV rfl (BP (AU (i:=5) scLWalk.nd) (BP (AU (i:=6) scLWalk.nd) DU))) (Af (Ay (i:=7) scLWalk.nd (Br G_l_walk hrK (by rfl) D_l_walk.m D_l_walk.F.kp D_l_walk.b .nil Ai (Aa (pv 0) (Aa (pv 6) (Aa (Br G_l_part hr2 (by rfl) D_l_part.m D_l_part.F.kp D_l_part.b .nil Ai (Aa (pv 0) (Aa (pv 1) (Aa (pv 5) (Aa (pv 2) Ab))))) (Aa (pv 3) Ab))))))
  (Ah (AH (AS Nt (pv 7) Cw (AO _)) (Ah (Ar (pv 7))) AD))))) AD)
  (Ah (Ar Cw)))))),?_⟩
  have Dh:=D0.same sH;have trh:=tr.same sH;refine FX (λσ H'=>Bj e t s=none/\∃v4:Option V,σ = [some (.ref dt),some tv,some (.int (s:Int)),some (.ref rw'),v4,none,none,none]/\Same H H') ?_ ?_
  ·rintro σ H1 ⟨w0,v4,rfl,s1⟩;have sA:=sH.trans s1;refine⟨_,rfl,.inl ⟨rfl,_,SqL.of (s1 _ _ hrw)⟩,_,rfl,rw',_,_,rfl,rfl,s1 _ _ hrw,by rw[Al];lia,?_⟩;have k2:∀c u,H1 c=some u->c≠rw'->(upd H1 rw' (.lst (nV xs++[.int (s:Int)]))) c=some u:=λc u e hc=>by rw[Aj hc];exact e
   have e2:(upd H1 rw' (.lst (nV xs++[.int (s:Int)]))) rw'=some (.lst (nV (xs++[s]))):=by rw[Ae];show _=some (HO.lst (List.map (λy:Nat=>V.int (y:Int)) (_++_)));rw[AX];rfl
   generalize (upd H1 rw' (.lst (nV xs++[.int (s:Int)])))=H2 at k2 e2 ⊢;have sB:Same H0 H2:=λc u z=>k2 c u (sA _ _ z) (AM z h0);have kH:∀c u,H c=some u->c≠rw'->H2 c=some u:=λc u z hc=>k2 c u (s1 _ _ z) hc;have c0:∀u v z:V,Ax [u,v,z] ((0:Nat):Int)=some u:=λ_ _ _=>Av rfl;have c2:∀u v z:V,Ax [u,v,z] ((2:Nat):Int)=some z:=λ_ _ _=>Av rfl;have xl:(xs++[s]).length=xs.length+1:=AR ..;cases t with
   | nil=>exact okt.elim
   | way _ _ _=>exact okt.elim
   | stop=>obtain⟨a,e',h⟩:=tr;cases e';have hc0:Ax [V.str B0] ((0:Nat):Int)=some (.str B0):=Av rfl;refine⟨_,rfl,a,_,_,_,rfl,rfl,SqT.of (sB _ _ h),hc0,rfl,_,rfl,?_⟩;refine Ds ?_;refine⟨_,rfl,a,_,_,_,rfl,rfl,SqT.of (sB _ _ h),hc0,rfl,_,rfl,?_⟩;refine Ds ?_;exact q1 (by unfold Ba;rw[w0];rfl) H2 kH e2
   | dd d r=>
    obtain⟨a,v',e',h,tr'⟩:=tr;cases e';obtain⟨de,hde,rfl⟩:=AE.mp nm;have hh':Bs r+1<=n+1:=hn;have hz':xs.length+(szP r+1)<=100000:=hsz;have hfw:Ba e (.dd de.name r) l s xs.length=Ba e r de.name (Dc e de.name s) (xs++[s]).length:=by rw[xl];show(match Bj e (.dd de.name r) s with | some z=>some (xs.length,z) | none=>Ba e r de.name (Dc e de.name s) (xs.length+1))=_;rw[w0]
    refine⟨_,rfl,a,_,_,_,rfl,rfl,SqT.of (sB _ _ h),c0 _ _ _,rfl,_,rfl,?_⟩;refine E8 ?_;refine⟨_,rfl,_,rfl,a,_,_,_,rfl,rfl,SqT.of (sB _ _ h),c2 _ _ _,_,rfl,_,rfl,_,rfl,dt,a,m,e,as,_,_,de,s,rfl,D0.same sB,ok,hs,sB _ _ h,hde,λH3 s3=>?_⟩;rw[<- Hr ok hde];have lt3:Dc e de.name s<2^m:=by rw[Hr ok hde];exact Lh (ls:=e.ls) ok.ch.m2 ok.ch.de (.did de hde) hs
    refine⟨_,rfl,dt,rw',v',m,e,as,r,de.name,_,xs++[s],H0,rfl,D0,ok,lt3,tr',okt.2,by lia,al.2,sB.trans s3,h0,s3 _ _ e2,by rw[xl];lia,λhz H4 k4 e4=>?_,λi w y tp H4 hz k4 e4=>?_⟩
    ·refine q1 (hfw.trans hz) H4 (λc u z hc=>k4 c u (s3 _ _ (kH c u z hc)) hc) ?_;rw[e4,Fn];rfl
    exact q2 i w y tp H4 (hfw.trans hz) (λc u z hc=>k4 c u (s3 _ _ (kH c u z hc)) hc) e4
   | lk l' ws=>
    obtain⟨a,u,us,e',h,hu,tr'⟩:=tr;cases e';obtain⟨lo,hlo,rfl⟩:=AE.mp nm;have hh':Bs ws+1<=n+1:=hn;have hz':xs.length+(szP ws+1)<=100000:=hsz;have okw:=okt.2.2.2;have hfw:Ba e (.lk lo.name ws) l s xs.length=En e lo.name s (wyL ws) (xs++[s]).length:=by rw[xl,<- UF _ okw];show(match Bj e (.lk lo.name ws) s with | some z=>some (xs.length,z) | none=>Ba e ws lo.name s (xs.length+1))=_;rw[w0]
    have zt:=Mb (n:=n) (m:=A6 ws) okw.wk (by lia) (Am _) tr';have l1:=zt.len;refine⟨_,rfl,a,_,_,_,rfl,rfl,SqT.of (sB _ _ h),c0 _ _ _,rfl,_,rfl,?_⟩;refine Ds ?_;refine⟨_,rfl,a,_,_,_,rfl,rfl,SqT.of (sB _ _ h),c0 _ _ _,rfl,_,rfl,?_⟩;refine E8 ?_;refine⟨_,rfl,a,_,_,_,rfl,rfl,SqT.of (sB _ _ h),c2 _ _ _,u,rfl,⟨_,SqL.of (sB _ _ hu)⟩,?_⟩
    refine C1 (K:=K) (a:=u) (xs:=us) (λi σ H3=>∃(v5 v6 v7:Option V),σ = [some (.ref dt),some (.ref a),some (.int (s:Int)),some (.ref rw'),v4,v5,v6,v7]/\Same H0 H3/\(∀c u,H2 c=some u->c≠rw'->H3 c=some u)/\H3 rw'=some (.lst (nV (xs++[s]++CU e lo.name s ((wyL ws).take i))))/\En e lo.name s ((wyL ws).take i) (xs++[s]).length=none)
     ⟨none,none,none,rfl,sB,λc u z _=>z,by rw[e2,Dv];show _=some (HO.lst (nV (_++[])));rw[BR],by rw[Dv];rfl⟩ (λi σ H3 _ hh0=>by obtain⟨_,_,_,_,z,_⟩:=hh0;exact SqL.of (z _ _ hu)) ?_ ?_
    ·rintro i y σ H3 hy ⟨v5,v6,v7,rfl,s03,k3,e3,f3⟩;obtain⟨x,hx,t',v',rfl,ht',trx,_,_,hnx,_⟩:=zt.at hy;obtain⟨_,okx⟩:=JC okw x (Bt hx);obtain⟨hi2,ex⟩:=AN.mp hx;have htk0:(wyL ws).take (i+1)=(wyL ws).take i++[x]:=by rw[BK hi2,ex]
     have htk:CU e lo.name s ((wyL ws).take (i+1))=CU e lo.name s ((wyL ws).take i)++Bz e x.2 lo.name (A3 e lo.name x.1 s):=by rw[htk0,V7]
     have hln:=V8 (e:=e) (l:=lo.name) (s:=s) okw (i+1);rw[htk,AR,DS]at hln;have f4:En e lo.name s ((wyL ws).take (i+1)) (xs++[s]).length=Ba e x.2 lo.name (A3 e lo.name x.1 s) (xs++[s]++CU e lo.name s ((wyL ws).take i)).length:=by rw[htk0,QS,f3,AR (as:=xs++[s])];show(match Ba e x.2 lo.name (A3 e lo.name x.1 s) _ with | some z=>some z | none=>none)=_;cases Ba e x.2 lo.name (A3 e lo.name x.1 s) ((xs++[s]).length+(CU e lo.name s ((wyL ws).take i)).length) <;> rfl
     refine⟨t',_,rfl,SqT.of (s03 _ _ ht'),rfl,_,_,rfl,_,_,rfl,rfl,?_⟩;refine⟨_,rfl,_,rfl,_,rfl,_,rfl,_,rfl,_,rfl,dt,a,m,e,as,_,_,lo,x.1,s,rfl,D0.same s03,ok,hs,s03 _ _ h,hlo,λH4 s4=>?_⟩;rw[<- F3 ok hlo];have lt3:A3 e lo.name x.1 s<2^m:=by rw[F3 ok hlo];exact FQ Ji hs
     refine⟨_,rfl,dt,rw',v',m,e,as,x.2,lo.name,_,xs++[s]++CU e lo.name s ((wyL ws).take i),H0,rfl,D0,ok,lt3,trx,okx,hnx,VF al.2 x (Bt hx),s03.trans s4,h0,s4 _ _ e3,by rw[AR,xl];lia,λhz H5 k5 e5=>?_,λj w y tp H5 hz k5 e5=>?_⟩
     ·refine⟨_,rfl,rfl,_,rfl,?_⟩;refine A4 ?_;refine⟨_,_,_,rfl,λc u z=>k5 c u (s4 _ _ (s03 _ _ z)) (AM z h0),λc u z hc=>k5 c u (s4 _ _ (k3 c u z hc)) hc,?_,f4.trans hz⟩;rw[e5,htk,Fn (xs++[s])]
     refine⟨_,rfl,rfl,_,rfl,?_⟩;refine BH ?_;refine⟨_,rfl,q2 j w y tp H5 ?_ (λc u z hc=>k5 c u (s4 _ _ (k3 c u (kH c u z hc) hc)) hc) e5⟩;rw[hfw,<- RP (i+1) (wyL ws),QS,f4,hz]
    rintro σ H3 ⟨v5,v6,v7,rfl,s03,k3,e3,f3⟩;rw[l1,Bq]at f3;refine q1 (hfw.trans f3) H3 (λc u z hc=>k3 c u (kH c u z hc) hc) ?_;rw[e3,l1,Bq,<- OJ okw,Fn];rfl
  intro N hN;refine⟨_,rfl,s,rfl,DX hs m2,λwl1 H1 s1 hl e1=>⟨wl1,rfl,⟨_,SqL.of e1⟩,?_⟩⟩
  refine C1 (K:=K) (a:=wl1) (xs:=(wl s).map V.int) (λi σ H2=>∃v4:Option V,σ = [some (.ref dt),some tv,some (.int (s:Int)),some (.ref rw'),v4,none,none,none]/\Same H1 H2/\∀j w,j<i->(wl s)[j]? = some w->C5 e t w=Str.empty)
   ⟨none,rfl,Same.refl _,λj w hj=>absurd hj (LJ _)⟩ (λi σ H2 _ hh0=>by obtain⟨_,_,z,_⟩:=hh0;exact SqL.of (z _ _ e1)) ?_ ?_
  ·rintro i v σ H2 hv ⟨v4,rfl,s2,nw⟩;rw[AV]at hv;obtain⟨wv,hw,rfl⟩:=CH.mp hv;have hm:=Bt hw;obtain⟨w0,w1⟩:=Eh hs hm;obtain⟨j,rfl⟩:∃j:Nat,(j:Int)=wv:=⟨wv.toNat,Ew w0⟩;have sx:=s1.trans s2;refine⟨_,rfl,_,rfl,_,rfl,dt,tv,m,e,as,t,j,rfl,Dh.same sx,ok,by lia,trh.same sx,okt,nm,λH3 s3=>?_⟩;refine⟨rfl,_,rfl,?_⟩;by_cases hy:C5 e t (j:Int)=Str.empty
   ·refine AZ (λz=>absurd z (by rw[hy];decide)) (λ_=>?_);refine⟨some (.int (j:Int)),rfl,s2.trans s3,λk w' hk hkw=>?_⟩;by_cases hki:k=i
    ·rw[hki,hw]at hkw;cases hkw;exact hy
    exact nw k w' (by lia) hkw
   refine AZ (λ_=>?_) (λz=>absurd (by rw[Cg (show ¬V.str (C5 e t (j:Int))=V.str (Str.ofString "") from λh=>hy (V.str.inj h))];rfl) z);have wr:=Wb hw nw hy;have sy:=sx.trans s3;refine⟨_,rfl,_,_,rfl,.inl ⟨_,SqL.of (sy _ _ hrw),rfl⟩,_,rfl,_,rfl,_,rfl,_,rfl,dt,tv,m,e,as,t,j,rfl,Dh.same sy,ok,by lia,trh.same sy,okt,nm,λH4 s4=>⟨AW,λtp htp=>?_⟩⟩;rw[Al];exact q2 xs.length _ _ tp _ (lP okt wr) (λc u z _=>Same.new htp _ _ (s4 _ _ (sy _ _ z))) Ae
  rintro σ H2 ⟨v4,rfl,s2,nw⟩;refine hN _ _ ⟨We λw hw=>?_,v4,rfl,s1.trans s2⟩;obtain⟨j,hj⟩:=DL hw;exact nw j w (by rw[Al];exact(AN.mp hj).1) hj
def Gb (b:Bool)(n:Str):Pn->Prop
 | .dd d r=>(b=true/\d=n)\/Gb b n r
 | .lk l ws=>(b=false/\l=n)\/Gb b n ws
 | .way _ p r=>Gb b n p\/Gb b n r
 | _=>False
theorem Ga {bd:Bool} (hd:bd=true->n∉ds.map Dee.name)(hl:bd=false->n∉ls.map Loo.name):∀{t:Pn}{m:Nat}{b:Option Nat}{a:Option Str},Gb bd n t->∃y∈Bc t m b a,¬Dn ds ls y.1
 | .dd d r,m,b,a,h=>by
  rcases h with⟨e,e2⟩ | h
  ·exact⟨_,Bo,λz=>hd e (e2 ▸ z)⟩
  obtain⟨y,hy,z⟩:=Ga hd hl (m:=m+1) (b:=some m) (a:=none) h;exact⟨y,Bn _ hy,z⟩
 | .lk l ws,m,b,a,h=>by
  rcases h with⟨e,e2⟩ | h
  ·exact⟨_,Bo,λz=>hl e (e2 ▸ z)⟩
  obtain⟨y,hy,z⟩:=Ga hd hl (m:=m+1) (b:=some m) (a:=none) h;exact⟨y,Bn _ hy,z⟩
 | .way x p r,m,b,a,h=>by
  rcases h with h | h
  ·obtain⟨y,hy,z⟩:=Ga hd hl (m:=m) (b:=b) (a:=some x) h;exact⟨y,Ec _ hy,z⟩
  obtain⟨y,hy,z⟩:=Ga hd hl (m:=m+szP p) (b:=b) (a:=none) h;exact⟨y,C8 _ hy,z⟩
 | .stop,_,_,_,h=>h.elim
 | .nil,_,_,_,h=>h.elim
theorem K6:∀{t:Pn}{b:Bool},okP b t->Da (λ_ n=>Rp n) t
 | .stop,_,_=>trivial
 | .nil,_,_=>trivial
 | .dd _ r,true,h=>⟨h.1.rp,K6 h.2⟩
 | .lk _ ws,true,h=>⟨h.1.rp,K6 h.2.2.2⟩
 | .way _ p r,false,h=>⟨K6 h.2.1,K6 h.2.2⟩
 | .dd _ _,false,h=>h.elim
 | .lk _ _,false,h=>h.elim
 | .way _ _ _,true,h=>h.elim
theorem TR {bd:Bool} (h:Gb bd n b):∀pre:List (Str×Pn),Gb bd n (BQ (pre++[(a,b)]) .nil)
 | []=>.inl h
 | _::r=>.inr (TR h r)
theorem Se:∀{ws:Pn},∀y∈wyL ws,Bs y.2<=Bs ws
 | .way a p r,y,hy=>by
  rcases(AK.mp hy)with e | hy
  ·rw[e];exact Nat.le_max_left ..
  exact BV (Se y hy) (Nat.le_max_right ..)
 | .nil,_,hy=>nomatch hy
 | .stop,_,hy=>nomatch hy
 | .dd _ _,_,hy=>nomatch hy
 | .lk _ _,_,hy=>nomatch hy
def V6 (h:okP false ws)(n:ws≠.nil):0<(wyL ws).length:=by
 cases ws with
 | nil=>exact absurd rfl n
 | way a p r=>exact Nat.succ_pos _
 | _=>exact h.elim
theorem TQ (h:A6 b<=A6 p+2):∀pre:List (Str×Pn),A6 (BQ (pre++[(a,b)]) .nil)<=A6 (BQ (pre++[(a,p)]) .nil)+2
 | []=>by show A6 b+0+1<=A6 p+0+1+2;lia
 | x::r=>by have:=TQ (a:=a) h r;show A6 x.2+A6 (BQ (r++[(a,b)]) .nil)+1<=A6 x.2+A6 (BQ (r++[(a,p)]) .nil)+1+2;lia
theorem TrAt.last :∀{pre:List (Str×Pn)}{us:List V},TrAt H (BQ (pre++[(a,p)]) .nil) us->∃(us0:List V) (t:Addr) (v:V),us=us0++[.ref t]/\TrAt H (BQ pre .nil) us0/\H t=some (.tup [.str a,v])/\TrAt H p [v]
 | [],us,⟨t,v,us',e,h1,h2,h3⟩=>⟨[],t,v,by rw[e,show us'=[] from h3];rfl,rfl,h1,h2⟩
 | x::r,us,⟨t,v,us',e,h1,h2,h3⟩=>by obtain⟨us0,t',v',e',z1,z2,z3⟩:=TrAt.last (pre:=r) h3;exact⟨.ref t::us0,t',v',by rw[e,e'];rfl,⟨t,v,us0,rfl,h1,h2,z1⟩,z2,z3⟩
theorem TrAt.plen :∀{pre:List (Str×Pn)}{us:List V},TrAt H (BQ pre .nil) us->us.length=pre.length
 | [],us,h=>by rw[show us=[] from h];rfl
 | x::r,us,⟨_,_,us',e,_,_,h3⟩=>by rw[e];exact BY (· + 1) (TrAt.plen h3)
def nO (xs:List V):IV xs none (some (-1))=xs.take (xs.length-1):=by
 unfold IV;rw[HT.sIx_none,List.drop_zero,Nat.sub_zero];have h:HT.sIx xs.length xs.length (some (-1))=xs.length-1:=by unfold HT.sIx;simp;lia
 rw[h]
inductive Pb (n:Nat)(vs:List V)(H:Hp)(Q:VK)(E0_:XK):Prop
 | mk (v:V) (t:Pn) (z:Str) (bd:Bool) (c0:vs=[v,.str z,.bl bd]) (c1:TrAt H t [v]) (c2:okP true t) (c3:Bs t<=n) (c4:Lb z) (c5:∀(v':V) (b:Pn) (H':Hp),Same H H'->TrAt H' b [v']->okP true b->Gb bd z b->Bs b<=Bs t+1->A6 b<=A6 t+2->Q v' H'):Pb n vs H Q E0_
def Q0:Option (Nat×Int×Str)->Nat->List V
 | none,n=>[.int (n:Int),.int (-1),.str Str.empty]
 | some (i,w,y),_=>[.int (i:Int),.int w,.str y]
inductive PP (C:C3)(CE CC T:Addr)(vs:List V)(H:Hp)(Q:VK)(E0_:XK):Prop
 | mk (x:Addr) (m:Nat) (e:Ed) (as:List Str) (v:V) (t:Pn) (s:Nat) (c0:vs=[.ref x,.int (s:Int),v]) (c1:ErAt CE CC H x m e) (c2:Ct m e as) (c3:s<2^m) (c4:PlAt C H t [v]) (c5:okP true t) (c6:A6 t<=40000) (c7:Da (G0 e) t) (c8:C9 FC lpos H T) (c9:∀(tp:Addr) (H':Hp),Kt T H H'->H' tp=some (.tup (Q0 (Ba e t Str.empty s 0) (szP t)))->Q (.ref tp) H'):PP C CE CC T vs H Q E0_
inductive Ph (vs:List V)(H:Hp)(Q:VK)(E0_:XK):Prop
 | mk (a b:Addr) (i w:Int) (y:Str) (c0:vs=[.ref a,.ref b]) (c1:H a=some (.tup [.int i,.int w,.str y])) (c2:H b=some (.tup [.int i,.int w,.str y])) (c3:strOk y=true) (c4:∀H':Hp,Same H H'->Q (.bl true) H'):Ph  vs H Q E0_
inductive OX (C:C3)(CE CC:Addr)(vs:List V)(H:Hp)(Q:VK)(E0_:XK):Prop
 | mk (x:Addr) (m:Nat) (e:Ed) (as:List Str) (v:V) (t:Pn) (s:Nat) (c0:vs=[.ref x,.int (s:Int),v]) (c1:ErAt CE CC H x m e) (c2:Ct m e as) (c3:s<2^m) (c4:PlAt C H t [v]) (c5:okP true t) (c6:A6 t<=40000) (c7:(∃y∈Bc t 0 none none,¬Dn e.ds e.ls y.1)) (c8:∀H':Hp,Same H H'->Q (.bl true) H'):OX C CE CC vs H Q E0_
inductive O8 (K:W.Frag)(CE CC:Addr)(vs:List V)(H:Hp)(Q:VK)(E0_:XK):Prop
 | mk (a dt x:Addr) (ns:List Int) (m:Nat) (e:Ed) (as:List Str) (tv:V) (t:Pn) (s:Nat) (c0:vs=[.ref a,.ref dt,.ref x,.int (s:Int),tv]) (c1:SqL K H a (ns.map V.int)) (c2:ns.length<=63) (c3:Dat H dt e) (c4:ErAt CE CC H x m e) (c5:Ct m e as) (c6:s<2^m) (c7:TrAt H t [tv]) (c8:okP true t) (c9:Bs t<=5) (c10:A6 t<=1000) (c11:(∀d∈e.ds,Lb d.name)) (c12:(∀l∈e.ls,Lb l.name)) (c13:A8 ns 2 122∉e.ds.map Dee.name++e.ls.map Loo.name) (c14:∀H':Hp,Q (.bl true) H'):O8 K CE CC vs H Q E0_
abbrev Im:List Str:=["_law_tree", "_law_name", "_law_by_deed"]
abbrev eQ:List Str:=Be Im ["_law_last"]
def scLLonger:Au eQ Im (Ak JV):=AA
abbrev Kz:List Str:=["_law_told_here", "_law_due"]
abbrev eU:List Str:=Kz
def X6:Au eU Kz (Ak MU):=AA
abbrev Kw:List Str:=["_law_script", "_law_data", "_law_errand", "_law_some", "_law_tree"]
abbrev eM:List Str:=Be Kw ["_law_word", "_law_step"]
def scLNamesAsked:Au eM Kw (Ak MS):=AA
theorem TH (F:Fun K "_law_longer" "_law_longer" JV f fd)(D_l_longer:Df K mg "_law_longer" JV Im f fd):∀n:Nat,FnOk P w K mg base CX0 (1+n) f fd Im (Pb n)
 | 0=>Lj λvs H Q E h=>by obtain⟨v,t,z,bd,_,_,ok,h0,_⟩:=h;have:=NC ok.wk;lia
 | n+1=>by
  have G_l_longer:=TH F D_l_longer n;refine F.ok (k:=1+n) scLLonger (λvs H Q E h=>?_) (λaj A ag s H vs Q E hrL h=>?_)
  ·obtain⟨v,t,z,bd,rfl,_⟩:=h;rfl
  obtain⟨v,t,z,bd,rfl,tr,ok,hn,lz,q⟩:=h;have ak:sizeLine=16777216:=AL;refine⟨_,(Af (AH (AS BA (As AJ (pv 0) Ac (λ_ _=>rfl)) A0 (AO _)) (Af (AH (Cn (pv 2)) (Ah (Ar (Bd (Aa A0 (Aa (pv 1) (Aa (Bd (Aa A0 Ab)) Ab)))))) AD)
  (Ah (Ar (Bd (Aa A0 (Aa (pv 1) (Aa (Cy (Aa (Bd (Aa A0 (Aa (Bd (Aa A0 Ab)) Ab))) Ab)) Ab))))))) AD)
  (Af (AH (AS BA (As AJ (pv 0) Ac (λ_ _=>rfl)) A0 (AO _)) (Ah (Ar (Bd (Aa A0 (Aa (As AJ (pv 0) Ac (λ_ _=>rfl)) (Aa (Br G_l_longer hrL (by rfl) D_l_longer.m D_l_longer.F.kp D_l_longer.b .nil Ai (Aa (As AJ (pv 0) Ac (λ_ _=>rfl)) (Aa (pv 1) (Aa (pv 2) Ab)))) Ab)))))) AD)
  (Af (Ay (i:=3) scLLonger.nd (As Dj (As AJ (pv 0) Ac (λ_ _=>rfl)) (Ng Mi Ac) (λ_ _=>rfl)))
  (Ah (Ar (Bd (Aa A0 (Aa (As AJ (pv 0) Ac (λ_ _=>rfl)) (Aa (Aw Nu (Qs Xv (As AJ (pv 0) Ac (λ_ _=>rfl)) Ql (Qk (Ng Mi Ac))) (Cy (Aa (Bd (Aa (As AJ (pv 3) Ac (λ_ _=>rfl)) (Aa (Br G_l_longer hrL (by rfl) D_l_longer.m D_l_longer.F.kp D_l_longer.b .nil Ai (Aa (As AJ (pv 3) Ac (λ_ _=>rfl)) (Aa (pv 1) (Aa (pv 2) Ab)))) Ab))) Ab))) Ab))))))))),?_⟩
  cases t with
  | nil=>exact ok.elim
  | way _ _ _=>exact ok.elim
  | stop=>
   obtain⟨a,e,h⟩:=tr;cases e;refine⟨_,rfl,a,_,_,_,rfl,rfl,SqT.of h,Av (j:=0) (v:=V.str B0) rfl,rfl,_,rfl,?_⟩;refine E8 ?_;refine⟨_,rfl,_,rfl,?_⟩;cases bd with
   | true=>refine BH ?_;refine⟨_,rfl,AW,λx1 hx1=>⟨AW,λx hx=>?_⟩⟩;have s1:Same H (upd H x1 (.tup [.str B0])):=Same.new hx1;have e1:(upd H x1 (.tup [.str B0])) x1=some (.tup [.str B0]):=Ae;generalize (upd H x1 (.tup [.str B0]))=H1 at s1 e1 hx ⊢;exact q (.ref x) (.dd z .stop) _ (s1.trans (Same.new hx)) ⟨x,.ref x1,rfl,Ae,x1,rfl,Same.new hx _ _ e1⟩ ⟨lz,trivial⟩ (.inl ⟨rfl,rfl⟩) (Am _) (by show 2<=3;decide)
   | false=>refine A4 ?_;dsimp only[A9];refine⟨_,rfl,AW,λx1 hx1=>⟨AW,λx2 hx2=>⟨AW,λx3 hx3=>⟨AW,λx hx=>?_⟩⟩⟩⟩;have s1:Same H (upd H x1 (.tup [.str B0])):=Same.new hx1;have e1:(upd H x1 (.tup [.str B0])) x1=some (.tup [.str B0]):=Ae;generalize (upd H x1 (.tup [.str B0]))=H1 at s1 e1 hx2 hx3 hx ⊢;have s2:Same H1 (upd H1 x2 (.tup [.str DQ,.ref x1])):=Same.new hx2;have e2:(upd H1 x2 (.tup [.str DQ,.ref x1])) x2=some (.tup [.str DQ,.ref x1]):=Ae;generalize (upd H1 x2 (.tup [.str DQ,.ref x1]))=H2 at s2 e2 hx3 hx ⊢;have s3:Same H2 (upd H2 x3 (.lst [.ref x2])):=Same.new hx3;have e3:(upd H2 x3 (.lst [.ref x2])) x3=some (.lst [.ref x2]):=Ae;generalize (upd H2 x3 (.lst [.ref x2]))=H3 at s3 e3 hx ⊢;have s4:Same H3 (upd H3 x (.tup [.str (Str.ofString "look"),.str z,.ref x3])):=Same.new hx;have s14:=(s2.trans s3).trans s4;exact q (.ref x) (.lk z (.way DQ .stop .nil)) _ (s1.trans s14) ⟨x,x3,_,rfl,Ae,s4 _ _ e3,x2,.ref x1,[],rfl,(s3.trans s4) _ _ e2,⟨x1,rfl,s14 _ _ e1⟩,rfl⟩ ⟨lz,(λy=>by cases y),⟨by show([DQ]:List Str).Nodup;simp,by show 1<=1000;decide⟩,T9,trivial,trivial⟩ (.inl ⟨rfl,rfl⟩) (by show 2<=2;decide) (by show 3<=3;decide)
  | dd d r=>obtain⟨a,v',e,h,tr'⟩:=tr;cases e;have a0:Ax [V.str (Str.ofString "do"),.str d,v'] ((0:Nat):Int)=some (.str (Str.ofString "do")):=Av rfl;have a1:Ax [V.str (Str.ofString "do"),.str d,v'] ((1:Nat):Int)=some (.str d):=Av rfl;have a2:Ax [V.str (Str.ofString "do"),.str d,v'] ((2:Nat):Int)=some v':=Av rfl;have hh':Bs r+1<=n+1:=hn;refine⟨_,rfl,a,_,_,_,rfl,rfl,SqT.of h,a0,rfl,_,rfl,?_⟩;refine Ds ?_;dsimp only[A9];refine⟨_,rfl,a,_,_,_,rfl,rfl,SqT.of h,a0,rfl,_,rfl,?_⟩;refine E8 ?_;refine⟨_,rfl,a,_,_,_,rfl,rfl,SqT.of h,a1,_,rfl,a,_,_,_,rfl,rfl,SqT.of h,a2,_,rfl,_,rfl,v',r,z,bd,rfl,tr',ok.2,by lia,lz,λw' b H1 s1 tr1 okb hb hh hw=>?_⟩;refine⟨AW,λx hx=>?_⟩;exact q (.ref x) (.dd d b) _ (s1.trans (Same.new hx)) ⟨x,w',rfl,Ae,tr1.same (Same.new hx)⟩ ⟨ok.1,okb⟩ (.inr hb) (Ex hh) (Ex hw)
  | lk l ws=>
   obtain⟨a,u,us,e,h,hu,tr'⟩:=tr;cases e;have a0:Ax [V.str (Str.ofString "look"),.str l,.ref u] ((0:Nat):Int)=some (.str (Str.ofString "look")):=Av rfl;have a1:Ax [V.str (Str.ofString "look"),.str l,.ref u] ((1:Nat):Int)=some (.str l):=Av rfl;have a2:Ax [V.str (Str.ofString "look"),.str l,.ref u] ((2:Nat):Int)=some (.ref u):=Av rfl;have hh':Bs ws+1<=n+1:=hn;refine⟨_,rfl,a,_,_,_,rfl,rfl,SqT.of h,a0,rfl,_,rfl,?_⟩;refine Ds ?_;dsimp only[A9];refine⟨_,rfl,a,_,_,_,rfl,rfl,SqT.of h,a0,rfl,_,rfl,?_⟩;refine Ds ?_;dsimp only[A9];have okw:=ok.2.2.2;have l2:=OI ws;have l3:=ok.2.2.1.2;have l4:=V6 okw ok.2.1;have ew:=QB okw;have hwo:=JC okw;have hwh:=Se (ws:=ws);have han:=IF (wyL ws);rw[ew]at han
   obtain⟨pre,ap,epre⟩:∃(pre:List (Str×Pn)) (ap:Str×Pn),wyL ws=pre++[ap]:=by
    rcases List.eq_nil_or_concat (wyL ws)with h | ⟨pre,ap,h⟩
    ·rw[h]at l4;exact absurd l4 (by decide)
    exact⟨pre,ap,by rw[h,List.concat_eq_append]⟩
   obtain⟨a',p'⟩:=ap;rw[epre]at ew hwo hwh han;rw[<- ew]at tr';obtain⟨us0,t',v',rfl,tr0,ht',trp⟩:=tr'.last;obtain⟨lba,okp⟩:=hwo (a',p') (C8 _ (AQ.mpr rfl));have hp':=hwh (a',p') (C8 _ (AQ.mpr rfl));have b0:Ax [V.str a',v'] ((0:Nat):Int)=some (.str a'):=Av rfl;have b1:Ax [V.str a',v'] ((1:Nat):Int)=some v':=Av rfl;refine⟨_,rfl,a,_,_,_,rfl,rfl,SqT.of h,a2,_,rfl,u,_,_,_,rfl,rfl,SqL.of hu,oR,?_⟩;refine⟨_,rfl,a,_,_,_,rfl,rfl,SqT.of h,a1,_,rfl,a,_,_,_,rfl,rfl,SqT.of h,a2,_,rfl,_,rfl,u,_,rfl,SqL.of hu,λg1 hg1=>?_⟩;rw[nO,show(us0++[V.ref t']).take ((us0++[V.ref t']).length-1)=us0 by rw[AR,Fh,Nat.add_sub_cancel,List.take_left' rfl]];obtain⟨H1,g0,s1,e1⟩:=Bu (H:=H) (o:=.lst us0) hg1;rw[g0];refine⟨_,rfl,t',_,_,_,rfl,rfl,SqT.of (s1 _ _ ht'),b0,_,rfl,t',_,_,_,rfl,rfl,SqT.of (s1 _ _ ht'),b1,_,rfl,_,rfl,v',p',z,bd,rfl,trp.same s1,okp,by have:Bs p'<=Bs ws:=hp';lia,lz,λw' b H2 s2 tr2 okb hb hh hw=>?_⟩;refine⟨AW,λx2 hx2=>⟨AW,λx3 hx3=>?_⟩⟩;have s3:Same H2 (upd H2 x2 (.tup [.str a',w'])):=Same.new hx2;have e3:(upd H2 x2 (.tup [.str a',w'])) x2=some (.tup [.str a',w']):=Ae;generalize (upd H2 x2 (.tup [.str a',w']))=H3 at s3 e3 hx3 ⊢;obtain⟨H4,g0,s4,e4⟩:=Bu (H:=H3) (o:=.lst [.ref x2]) hx3;rw[g0];have s14:=(s2.trans s3).trans s4;have lpre:pre.length+1=(wyL ws).length:=by rw[epre,AR];rfl
   have lus:=tr0.plen;refine⟨g1,x3,_,_,rfl,rfl,s14 _ _ e1,e4,by show us0.length+1<=_;lia,λg hg=>⟨AW,λx hx=>?_⟩⟩;have s5:Same H4 (upd H4 g (.lst (us0++[.ref x2]))):=Same.new hg;have e5:(upd H4 g (.lst (us0++[.ref x2]))) g=some (.lst (us0++[.ref x2])):=Ae;generalize (upd H4 g (.lst (us0++[.ref x2])))=H5 at s5 e5 hx ⊢;have s6:Same H5 (upd H5 x (.tup [.str (Str.ofString "look"),.str l,.ref g])):=Same.new hx;have s46:=s5.trans s6;have s06:=(s1.trans s14).trans s46;have han2:BL (BQ (pre++[(a',b)]) .nil)=BL ws:=by rw[IF,han,AX,AX];rfl
   refine q (.ref x) (.lk l (BQ (pre++[(a',b)]) .nil)) _ s06 ⟨x,g,_,rfl,Ae,s6 _ _ e5,TrAt.put (s46 _ _ (s4 _ _ e3)) (tr2.same ((s3.trans s4).trans s46)) (tr0.same s06)⟩ ⟨ok.1,?_,?_,QC λy hy=>?_⟩ (.inr (TR hb pre)) (Ex (QD λy hy=>?_)) ?_
   ·cases pre with
    | nil=>intro z;cases z
    | cons _ _=>intro z;cases z
   ·rw[han2];exact ok.2.2.1
   ·rcases(A5.mp hy)with w | w
    ·exact hwo y (Ec _ w)
    rw[AQ.mp w];exact⟨lba,okb⟩
   ·rcases(A5.mp hy)with w | w
    ·exact le_succ_of_le (hwh y (Ec _ w))
    rw[AQ.mp w];exact BV hh (Ex hp')
   have:=TQ (a:=a') hw pre;rw[ew]at this;exact Ex this
def cC {CE TA:Addr} (F:Fun K "_law_asked" "_law_asked" MZ f fd)(T:Bl mg)(XA:XC K CA fA G)(WR:PySem.W.findIn K (.ref CA) "row" = some none)(WY:PySem.W.findIn K (.ref CA) "why" = some none)(mA:mg "Astray" = some (.ref CA))(C_walked:Ca P w K mg base (Ck P w CA) 7 "walked" Hx Fx (JG C CE CC NN TA)):FnOk P w K mg base CX0 8 f fd KF (PP C CE CC TA):=by
 refine F.oq scLAsked λaj A ag s0 H vs Q E hr7 h=>?_;obtain⟨x,m,e,as,v,t,s,rfl,er,ok,hs,pl,okt,wt,al,tb,q⟩:=h;have ak:sizeLine=16777216:=AL;refine⟨_,(Af (Ay (i:=3) scLAsked.nd Cw) (Af (Ay (i:=4) scLAsked.nd Cw) (Af (Y3 (j:=5) rfl rfl rfl XA (by rfl) mA scLAsked.nd rfl rfl (λpn xe E' hx=>(Ah (Ay (i:=3) scLAsked.nd (Aq C_walked hr7 hx (Aa (pv 0) (Aa (pv 1) (Aa (pv 2) Ab))))))) (λa=>(Ah (Ay (i:=4) scLAsked.nd (pv 5))))) (Af (AH (AS GT (pv 4) Cw (AO _)) (Ah (Ar (Bd (Aa (Bf C2 (by rfl) T.len CG (Aa (pv 3) Ab)) (Aa (Ng Mi Ac) (Aa A0 Ab)))))) AD) (Ah (Ar (Bd (Aa (Qw XA WR (pv 4) rfl) (Aa (Qw XA XA.n2 (pv 4) rfl) (Aa (Qw XA WY (pv 4) rfl) Ab)))))))))),?_⟩;refine⟨_,rfl,_,rfl,_,rfl,x,m,e,as,v,t,s,rfl,er,ok,hs,pl,okt,wt,.inr ⟨al,tb,?_⟩⟩;cases hf:Ba e t Str.empty s 0 with
 | none=>rw[hf]at q;refine .inl ⟨rfl,λr H1 s1 hr er1=>?_⟩;refine⟨_,rfl,rfl,_,rfl,?_⟩;refine BH ?_;refine⟨_,rfl,_,_,rfl,.inl ⟨_,SqL.of er1,rfl⟩,_,rfl,AW,λtp htp=>?_⟩;refine q tp _ (Kt.of tb (s1.trans (Same.new htp))) ?_;rw[Ae,Al,DS];rfl
 | some z=>obtain⟨i,w1,y⟩:=z;rw[hf]at q;refine .inr ⟨i,w1,y,rfl,λd' H1 k1 tb1 hd' ed=>⟨d',rfl,rfl,λa ha=>?_⟩⟩;obtain⟨H2,g0,s2,e2⟩:=Bu (H:=H1) (o:=Ln a CA d') ha;rw[g0];refine⟨_,rfl,_,rfl,rfl,_,rfl,?_⟩;refine A4 ?_;dsimp only[A9];refine⟨_,rfl,a,d',_,_,rfl,e2,s2 _ _ ed,rfl,_,rfl,a,d',_,_,rfl,e2,s2 _ _ ed,rfl,_,rfl,a,d',_,_,rfl,e2,s2 _ _ ed,rfl,AW,λtp htp=>?_⟩;exact q tp _ ((⟨k1,tb,tb1⟩:Kt TA H H1).to (s2.trans (Same.new htp))) Ae
def aM (F:Fun K "_law_is_asked" "_law_is_asked" MU f fd)(T:Bl mg)(C_l_whole:Ca P w K mg base CX0 1 "_law_whole" MO Ko OU):FnOk P w K mg base CX0 2 f fd Kz Ph:=by
 refine F.oq X6 λaj A ag s0 H vs Q E hr1 h=>?_;obtain⟨a,b,i,w,y,rfl,ha,hb,hy,q⟩:=h;have ao:=hr1.units;have a0:∀u v z:V,Ax [u,v,z] ((0:Nat):Int)=some u:=λ_ _ _=>Av rfl;have a1:∀u v z:V,Ax [u,v,z] ((1:Nat):Int)=some v:=λ_ _ _=>Av rfl;have a2:∀u v z:V,Ax [u,v,z] ((2:Nat):Int)=some z:=λ_ _ _=>Av rfl;refine⟨_,(Af (AH (PW.pt (F1 (Dp (Cn (Aq C_l_whole hr1 Ai (Aa (As AJ (pv 0) Ac (λ_ _=>rfl)) Ab)))) (F1 (Dp (Cn (Aq C_l_whole hr1 Ai (Aa (As AJ (pv 0) Ac (λ_ _=>rfl)) Ab)))) (HU (Dp (Cn (Bf nY (by rfl) T.isi Eo (Aa (As AJ (pv 0) Ac (λ_ _=>rfl)) (Aa (Ia (v:=.ty "str") (by rfl) T.str oH rfl) Ab))))))))) (Ah (Ar De)) AD) (Ah (Ar (Nj (ZA ao) (pv 0) (pv 1) (AO _))))),?_⟩;refine⟨_,rfl,a,_,_,_,rfl,rfl,SqT.of ha,a0 _ _ _,_,rfl,_,rfl,?_⟩;refine A4 ?_;refine⟨_,rfl,a,_,_,_,rfl,rfl,SqT.of ha,a1 _ _ _,_,rfl,_,rfl,?_⟩;refine A4 ?_;refine⟨_,rfl,a,_,_,_,rfl,rfl,SqT.of ha,a2 _ _ _,_,rfl,_,rfl,?_⟩;refine A4 ?_;dsimp only[A9];refine⟨_,rfl,_,rfl,_,_,.tup ha (.cons (.int _) (.cons (.int _) (.cons (.str _) .nil))),.tup hb (.cons (.int _) (.cons (.int _) (.cons (.str _) .nil))),?_,?_,?_⟩
 ·simp[shaped,PyData.canLay0,PyData.canLayAll0,PyData.depth,PyData.depthAll,hy]
 ·simp[shaped,PyData.canLay0,PyData.canLayAll0,PyData.depth,PyData.depthAll,hy]
 have:PyData.eqv (.tuple [.int i,.int w,.str y]) (.tuple [.int i,.int w,.str y])=true:=by simp[PyData.eqv,PyData.eqvAll]
 rw[this];exact q H (Same.refl _)
def ZL {CE f1 f2:Addr} (F:Fun K "_law_unknown" "_law_unknown" MP f fd)(R':Er K mg G NN)(D_walked:Df K mg "walked" Hx Fx f1 d1)(G_walked':FnOk P w K mg base (Ck P w CA) 7 f1 d1 Fx (JG C CE CC NN T))(D_does:Df K mg "does" J4 GP f2 d2)(G_does:FnOk P w K mg base (CXe P w) 8 f2 d2 GP (Mt C CE CC NN T)):FnOk P w K mg base CX0 9 f fd Kq (OX C CE CC):=by have G_walked:=FnOk.dn G_walked';refine F.oq scLUnknown λaj A ag s0 H vs Q E hr8 h=>?_;obtain⟨x,m,e,as,v,t,s,rfl,er,ok,hs,pl,okt,wt,bad,q⟩:=h;have hr7:Room 7 _:=hr8.mono (by decide);refine⟨_,(Af (Ay (i:=3) scLUnknown.nd Ac) (Af (Tj (G:=NN) (nG := "ValueError.__new__") rfl rfl rfl R'.oN (by rfl) R'.mN G_walked hr7 (by rfl) D_walked.m D_walked.F.kp D_walked.b (λpn xe=>(Aa (pv 0) (Aa (pv 1) (Aa (pv 2) Ab)))) (λa=>(Ah (Ay (i:=3) scLUnknown.nd (Aw B6 (pv 3) Ac))))) (Af (Tj (G:=NN) (nG := "ValueError.__new__") rfl rfl rfl R'.oN (by rfl) R'.mN G_does hr8 (by rfl) D_does.m D_does.F.kp D_does.b (λpn xe=>(Aa (pv 0) (Aa (pv 1) (Aa (pv 2) Ab)))) (λa=>(Ah (Ay (i:=3) scLUnknown.nd (Aw B6 (pv 3) Ac))))) (Ah (Ar (Nj BA (pv 3) Ac (AO _))))))),?_⟩;have al:=K6 okt;refine⟨_,rfl,_,rfl,_,rfl,x,m,e,as,v,t,s,rfl,er,ok,hs,pl,okt,wt,.inl ⟨bad,al,λb H1 s1 hb=>⟨(λz=>by cases z),b,rfl,rfl,λ_=>?_⟩⟩⟩;refine⟨_,rfl,_,_,rfl,rfl,?_⟩;refine⟨_,rfl,_,rfl,_,rfl,x,m,e,as,v,t,s,rfl,er.same s1,ok,hs,pl.same s1,okt,wt,.inl ⟨bad,al,λb H2 s2 hb=>⟨b,rfl,rfl,λ_=>?_⟩⟩⟩;refine⟨_,rfl,_,_,rfl,rfl,?_⟩;exact⟨_,rfl,rfl,q H2 (s1.trans s2)⟩
def Z4 {CE:Addr} (F:Fun K "_law_names_asked" "_law_names_asked" MS f fd)(C_l_words:Ca P w K mg base CX0 3 "_law_words" FY GK (JF K))(C_l_unknown:Ca P w K mg base CX0 9 "_law_unknown" MP Kq (OX C CE CC))
  (C_l_plan:Ca P w K mg base CX0 (4+6) "_law_plan" GC GM (Mq C 6))(C_l_longer:Ca P w K mg base CX0 (1+5) "_law_longer" JV Im (Pb 5)):FnOk P w K mg base CX0 11 f fd Kw (O8 K CE CC):=by
 refine F.oq scLNamesAsked λaj A ag s0 H vs Q E hr10 h=>?_
 obtain⟨a,dt,x,ns,m,e,as,tv,t,s,rfl,hS,hn,D0,er,ok,hs,tr,okt,ht,wt,ld,ll,nz,q⟩:=h
 have hrP:Room (4+6) _:=hr10.mono (by decide)
 have hrL:Room (1+5) _:=hr10.mono (by decide)
 have hr9:Room 9 _:=hr10.mono (by decide)
 have hr3:Room 3 _:=hr10.mono (by decide)
 refine⟨_,(Af (Ay (i:=5) scLNamesAsked.nd (As Dj (Aq C_l_words hr3 Ai (Aa (pv 0) (Aa Ac (Aa A0 Ab)))) Ac (λ_ _=>rfl))) (Af (AH (Dp (Cn (Aq C_l_unknown hr9 Ai (Aa (pv 2) (Aa (pv 3) (Aa (Aq C_l_plan hrP Ai (Aa (Aq C_l_longer hrL Ai (Aa (pv 4) (Aa (pv 5) (Aa De Ab)))) Ab)) Ab)))))) (Ah (Ar De)) AD) (Af (AH (Dp (Cn (Aq C_l_unknown hr9 Ai (Aa (pv 2) (Aa (pv 3) (Aa (Aq C_l_plan hrP Ai (Aa (Aq C_l_longer hrL Ai (Aa (pv 4) (Aa (pv 5) (Aa De Ab)))) Ab)) Ab)))))) (Ah (Ar De)) AD) (Af (BW B4 rfl (BG (As AJ (pv 1) Ac (λ_ _=>rfl))) (AU (i:=6) scLNamesAsked.nd) (Ah (AH (Dp (Cn (Aq C_l_unknown hr9 Ai (Aa (pv 2) (Aa (pv 3) (Aa (Aq C_l_plan hrP Ai (Aa (Aq C_l_longer hrL Ai (Aa (pv 4) (Aa (As AJ (pv 6) Ac (λ_ _=>rfl)) (Aa De Ab)))) Ab)) Ab)))))) (Ah (Ar De)) AD))) (Af (BW B4 rfl (BG (As AJ (pv 1) Ac (λ_ _=>rfl))) (AU (i:=6) scLNamesAsked.nd) (Ah (AH (Dp (Cn (Aq C_l_unknown hr9 Ai (Aa (pv 2) (Aa (pv 3) (Aa (Aq C_l_plan hrP Ai (Aa (Aq C_l_longer hrL Ai (Aa (pv 4) (Aa (As AJ (pv 6) Ac (λ_ _=>rfl)) (Aa De Ab)))) Ab)) Ab)))))) (Ah (Ar De)) AD))) (Ah (Ar De))))))),?_⟩
 obtain⟨l1,l2,us,ws,hdt,h1,h2,hds,hls⟩:=D0.ex
 have b0:∀u v x y:V,Ax [u,v,x,y] ((0:Nat):Int)=some u:=λ_ _ _ _=>Av rfl
 have b1:∀u v x y:V,Ax [u,v,x,y] ((1:Nat):Int)=some v:=λ_ _ _ _=>Av rfl
 have nd:=BZ.mp ok.ch.nd
 have lz:Lb (A8 ns 2 122):=Gs ns 2 (by decide)
 refine⟨_,rfl,a,ns,_,_,rfl,hS,hn,by decide,by decide,by decide +kernel,by decide +kernel,λlw H1 s1 fr1 e1=>?_⟩
 rw[V5]at e1
 refine⟨lw,_,_,_,rfl,rfl,SqL.of e1,Av (j:=0) (v:=V.str (A8 ns 2 122)) rfl,?_⟩
 refine⟨_,rfl,_,rfl,_,rfl,_,rfl,tv,t,_,true,rfl,tr.same s1,okt,ht,lz,λv' b H2 s2 tr2 okb hb hh hw=>⟨v',b,rfl,tr2,okb,by lia,λpv H3 s3 pl3=>⟨x,m,e,as,pv,b,s,rfl,er.same ((s1.trans s2).trans s3),ok,hs,pl3,okb,by lia,Ga (λ_ z=>nz (Ec _ z)) (λz=>by cases z) hb,λH4 s4=>⟨_,rfl,?_⟩⟩⟩⟩
 refine A4 ?_
 dsimp only[A9]
 have s14:=(s2.trans s3).trans s4
 have s04:=s1.trans s14
 clear s2 s3 s4 tr2 pl3 hb
 refine⟨_,rfl,_,rfl,_,rfl,_,rfl,tv,t,_,false,rfl,tr.same s04,okt,ht,lz,λv' b H5 s5 tr5 okb hb hh hw=>⟨v',b,rfl,tr5,okb,by lia,λpv H6 s6 pl6=>⟨x,m,e,as,pv,b,s,rfl,er.same ((s04.trans s5).trans s6),ok,hs,pl6,okb,by lia,Ga (λz=>by cases z) (λ_ z=>nz (C8 _ z)) hb,λH7 s7=>⟨_,rfl,?_⟩⟩⟩⟩
 refine A4 ?_
 dsimp only[A9]
 have s07:=((s04.trans s5).trans s6).trans s7
 clear s5 s6 s7 tr5 pl6 hb
 refine⟨_,rfl,dt,_,_,_,rfl,rfl,SqT.of (s07 _ _ hdt),b0 _ _ _ _,l1,rfl,⟨_,SqL.of (s07 _ _ h1)⟩,?_⟩
 refine C1 (K:=K) (a:=l1) (xs:=us) (λi σ H8=>∃v6:Option V,σ = [some (.ref a),some (.ref dt),some (.ref x),some (.int (s:Int)),some tv,some (.str (A8 ns 2 122)),v6]/\Same H7 H8)
  ⟨none,rfl,Same.refl _⟩ (λi σ H8 _ hh0=>by obtain⟨_,_,z⟩:=hh0;exact SqL.of (z _ _ (s07 _ _ h1))) ?_ ?_
 ·rintro i v σ H8 hv ⟨v6,rfl,s8⟩;have s08:=s07.trans s8;obtain⟨d,_,hd,t',es,⟨o,rfl,ho⟩,ht',he⟩:=hds.at hv;have no:d.name∉e.ls.map Loo.name:=λz=>nd.2.2 _ (AE.mpr ⟨d,hd,rfl⟩) _ z rfl;have at0:Ax [V.str d.name,V.int d.price,V.ref t'] ((0:Nat):Int)=some (.str d.name):=Av rfl;refine⟨_,rfl,_,rfl,_,rfl,_,rfl,o,_,_,_,rfl,rfl,SqT.of (s08 _ _ ho),at0,tv,t,_,false,rfl,tr.same s08,okt,ht,ld d hd,λv' b H2 s2 tr2 okb hb hh hw=>⟨v',b,rfl,tr2,okb,by lia,λpv H3 s3 pl3=>⟨x,m,e,as,pv,b,s,rfl,er.same ((s08.trans s2).trans s3),ok,hs,pl3,okb,by lia,Ga (λz=>by cases z) (λ_=>no) hb,λH4 s4=>⟨_,rfl,?_⟩⟩⟩⟩;refine A4 ?_;exact⟨_,rfl,((s8.trans s2).trans s3).trans s4⟩
 rintro σ H8 ⟨v6,rfl,s8⟩
 have s08:=s07.trans s8
 refine⟨_,rfl,dt,_,_,_,rfl,rfl,SqT.of (s08 _ _ hdt),b1 _ _ _ _,l2,rfl,⟨_,SqL.of (s08 _ _ h2)⟩,?_⟩
 refine C1 (K:=K) (a:=l2) (xs:=ws) (λi σ H9=>∃v6:Option V,σ = [some (.ref a),some (.ref dt),some (.ref x),some (.int (s:Int)),some tv,some (.str (A8 ns 2 122)),v6]/\Same H8 H9)
  ⟨v6,rfl,Same.refl _⟩ (λi σ H9 _ hh0=>by obtain⟨_,_,z⟩:=hh0;exact SqL.of (z _ _ (s08 _ _ h2))) ?_ ?_
 ·rintro i v σ H9 hv ⟨v6,rfl,s9⟩;have s09:=s08.trans s9;obtain⟨l,_,hl,t',⟨o,rfl,ho⟩,ht'⟩:=hls.at hv;have no:l.name∉e.ds.map Dee.name:=λz=>nd.2.2 _ z _ (AE.mpr ⟨l,hl,rfl⟩) rfl;have at0:Ax [V.str l.name,V.int l.price,V.ref t'] ((0:Nat):Int)=some (.str l.name):=Av rfl;refine⟨_,rfl,_,rfl,_,rfl,_,rfl,o,_,_,_,rfl,rfl,SqT.of (s09 _ _ ho),at0,tv,t,_,true,rfl,tr.same s09,okt,ht,ll l hl,λv' b H2 s2 tr2 okb hb hh hw=>⟨v',b,rfl,tr2,okb,by lia,λpv H3 s3 pl3=>⟨x,m,e,as,pv,b,s,rfl,er.same ((s09.trans s2).trans s3),ok,hs,pl3,okb,by lia,Ga (λ_=>no) (λz=>by cases z) hb,λH4 s4=>⟨_,rfl,?_⟩⟩⟩⟩;refine A4 ?_;exact⟨_,rfl,((s9.trans s2).trans s3).trans s4⟩
 rintro σ H9 ⟨v6,rfl,s9⟩
 exact q _
abbrev Sn (H H':Hp):Prop:=∀c u,H c=some u->(∀a,u≠.tbl a)->H' c=some u
def Kt.sn (k:Kt T H H'):Sn H H':=λ_ _ h n=>k.at h n
def Sn.tr (a:Sn H H1)(b:Same H1 H'):Sn H H':=λ_ _ h n=>b _ _ (a _ _ h n)
theorem TrAt.sn (s:Sn H H'):∀{t:Pn}{vs:List V},TrAt H t vs->TrAt H' t vs
 | .stop,_,⟨t,e,h⟩=>⟨t,e,s _ _ h nofun⟩
 | .dd _ _,_,⟨t,v,e,h,r⟩=>⟨t,v,e,s _ _ h nofun,TrAt.sn s r⟩
 | .lk _ _,_,⟨t,u,us,e,h,h2,r⟩=>⟨t,u,us,e,s _ _ h nofun,s _ _ h2 nofun,TrAt.sn s r⟩
 | .nil,_,e=>e
 | .way _ _ _,_,⟨t,v,us,e,h,p,r⟩=>⟨t,v,us,e,s _ _ h nofun,TrAt.sn s p,TrAt.sn s r⟩
theorem PlAt.sn (s:Sn H H'):∀{t:Pn}{vs:List V},PlAt C H t vs->PlAt C H' t vs
 | .stop,_,⟨t,dx,e,h⟩=>⟨t,dx,e,s _ _ h nofun⟩
 | .dd _ _,_,⟨t,dx,v,e,h,r⟩=>⟨t,dx,v,e,s _ _ h nofun,PlAt.sn s r⟩
 | .lk _ _,_,⟨t,dx,u,us,e,h,h2,r⟩=>⟨t,dx,u,us,e,s _ _ h nofun,s _ _ h2 nofun,PlAt.sn s r⟩
 | .nil,_,e=>e
 | .way _ _ _,_,⟨t,v,us,e,h,p,r⟩=>⟨t,v,us,e,s _ _ h nofun,PlAt.sn s p,PlAt.sn s r⟩
def ChAt.sn (h:ChAt C H x m ds ls)(s:Sn H H'):ChAt C H' x m ds ls:=by obtain⟨dx,p,o,a,q,d,kp,ko,ka,kq,kd,o1,o2,h1,h2,h3,h4,h5,h6,k1,k2,k3,k4,k5⟩:=h.ex;exact⟨dx,p,o,a,q,d,kp,ko,ka,kq,kd,o1,o2,s _ _ h1 nofun,s _ _ h2 nofun,s _ _ h3 nofun,s _ _ h4 nofun,s _ _ h5 nofun,s _ _ h6 nofun,k1,k2.mono λv d _ r=>OuV.keep (λb xs e=>s _ _ e nofun) r,k3.mono λv d _ r=>AnV.keep (λb xs e=>s _ _ e nofun) r,k4.mono λv d _ r=>PaV.keep (λb xs e=>s _ _ e nofun) (λb o xs e=>s _ _ e nofun) r,k5⟩
def ErAt.sn {CE:Addr} (h:ErAt CE C H x m e)(s:Sn H H'):ErAt CE C H' x m e:=by obtain⟨dx,c,hx,hc⟩:=h;exact⟨dx,c,s _ _ hx nofun,hc.sn s⟩
def Dat.sn (h:Dat H dt e)(s:Sn H H'):Dat H' dt e:=by
 obtain⟨l1,l2,us,ws,h1,h2,h3,h4,h5⟩:=h.ex;refine⟨l1,l2,us,ws,s _ _ h1 nofun,s _ _ h2 nofun,s _ _ h3 nofun,h4.mono λv t _ r=>?_,h5.mono λv t _ r=>?_⟩
 ·obtain⟨t,es,⟨o,e,st⟩,ht,he⟩:=r;exact⟨t,es,⟨o,e,s _ _ st nofun⟩,s _ _ ht nofun,he.mono λv t _ r=>by obtain⟨b,e,h⟩:=r;exact⟨b,e,s _ _ h nofun⟩⟩
 obtain⟨t,⟨o,e,st⟩,ht⟩:=r;exact⟨t,⟨o,e,s _ _ st nofun⟩,s _ _ ht nofun⟩
def XJ (s:Sn H H')(h:SqL K H a xs):SqL K H' a xs:=by
 rcases h with(h | ⟨o,h⟩) | h
 ·exact .inl (.inl (s _ _ h nofun))
 ·exact .inl (.inr ⟨o,s _ _ h nofun⟩)
 exact .inr h
def lL (h:p∈Bp e t):strOk p.1=true:=by
 cases t with
 | stop=>simp only[Bp,AK,Bw,Bv]at h;rcases h with rfl | rfl <;> (dsimp only;decide +kernel)
 | dd _ _=>simp only[Bp,AK,Bw,Bv]at h;rcases h with rfl | rfl <;> (dsimp only;decide +kernel)
 | lk _ _=>simp only[Bp,AK,Bw,Bv]at h;rcases h with rfl | rfl | rfl <;> (dsimp only;decide +kernel)
 | nil=>cases h
 | way _ _ _=>cases h
def Wc {e:Ed}{t:Pn}{s:Nat}{w:Int}{y:Str}(h:Bj e t s=some (w,y)):strOk y=true:=by
 unfold Bj Fb at h;split at h
 ·cases h
 obtain⟨p,hp,e1⟩:=CH.mp h;cases e1;exact lL (EU hp)
theorem UL :∀{A:List (Pn×Nat)}{n i:Nat}{w:Int}{y:Str},C6 e A n=some (i,w,y)->strOk y=true
 | [],_,_,_,_,h=>by(cases h)
 | x::r,n,i,w,y,h=>by
  unfold C6 at h;cases hw:Bj e x.1 x.2 with
  | none=>rw[hw]at h;exact UL h
  | some z=>obtain⟨w',y'⟩:=z;rw[hw]at h;cases h;exact Wc hw
def mV (e:Ed)(t:Pn)(l:Str)(s k n:Nat):∃(i w:Int) (y:Str),Q0 (Ba e t l s k) n=[.int i,.int w,.str y]/\strOk y=true:=by
 cases h:Ba e t l s k with
 | none=>exact⟨_,_,_,rfl,by decide +kernel⟩
 | some z=>obtain⟨i,w,y⟩:=z;rw[IR t l s k 0 none none]at h;exact⟨_,_,_,rfl,UL h⟩
inductive JJ (K:W.Frag)(T:Addr)(vs:List V)(H:Hp)(Q:VK)(E0_:XK):Prop
 | mk (a:Addr) (ns:List Int) (c0:vs=[.ref a]) (c1:SqL K H a (ns.map V.int)) (c2:ns.length<=63) (c3:H T=some (.tbl #[])) (c4:∀H',Q (.bl true) H'):JJ K T vs H Q E0_
def aL {CE TA f4 f5:Addr} (F:Fun K "law" "law" Hz f fd)(T:Bl mg)(MC:L2.Mk K CC fI)(mC:mg "Chart" = some (.ref CC))(bI:Binds K dI ["self", "many", "deeds", "looks"] [])(GI:FnOk P w K mg base CX0 3 fI dI KG (Pi CC))
  (ME:L2.Mk K CE fE)(mE:mg "Errand" = some (.ref CE))(bE:Binds K dE ["self", "chart", "goal", "keep"] [])(GE:FnOk P w K mg base CX0 2 fE dE Nn (Po CE))(C_l_copied:Ca P w K mg base CX0 2 "_law_copied" J0 KE Px)
  (C_l_many:Ca P w K mg base CX0 3 "_law_many" MT Kx (O9 K))(C_l_deeds:Ca P w K mg base CX0 4 "_law_deeds" JZ KD (Pw K))(C_l_looks:Ca P w K mg base CX0 4 "_law_looks" JU Ky (Pa K))
  (C_l_set:Ca P w K mg base CX0 3 "_law_set" JS Kv (O0 K))(D_l_draw:Df K mg "_law_draw" Ei Dg f4 d4)(G_l_draw:FnOk P w K mg base CX0 2 f4 d4 Dg (DR K))(D_l_grown:Df K mg "_law_grown" GG Fz f5 d5)(G_l_grown:FnOk P w K mg base CX0 (4+2*5) f5 d5 Fz (JK K 5))
  (C_l_ends:Ca P w K mg base CX0 (3+5) "_law_ends" JX Ip (Pr 5))(C_l_walk:Ca P w K mg base CX0 (3+5) "_law_walk" JR Ik (OW 5))
  (C_l_plan:Ca P w K mg base CX0 (4+5) "_law_plan" GC GM (Mq C 5))(C_does:Ca P w K mg base (CXe P w) 8 "does" J4 GP (Mt C CE CC NN TA))(C_l_asked:Ca P w K mg base CX0 8 "_law_asked" MZ KF (PP C CE CC TA))(C_l_is_asked:Ca P w K mg base CX0 2 "_law_is_asked" MU Kz Ph)
  (C_l_names_asked:Ca P w K mg base CX0 11 "_law_names_asked" MS Kw (O8 K CE CC)):FnOk P w K mg base CX0 31 f fd ["_law_script"] (JJ K TA):=by
 refine F.oq scLaw λaj A ag s0 H vs Q E hrZ h=>?_
 obtain⟨a,ns,rfl,hS,hn,hT,q⟩:=h
 have hrG:Room (4+2*5) _:=hrZ.mono (by decide)
 have hrK:Room (3+5) _:=hrZ.mono (by decide)
 have hrE:Room (3+5) _:=hrZ.mono (by decide)
 have hrP:Room (4+5) _:=hrZ.mono (by decide)
 have hr11:Room 11 _:=hrZ.mono (by decide)
 have hr8:Room 8 _:=hrZ.mono (by decide)
 have hr4:Room 4 _:=hrZ.mono (by decide)
 have hr3:Room 3 _:=hrZ.mono (by decide)
 have hr2:Room 2 _:=hrZ.mono (by decide)
 have ao:=hr2.units
 have ak:sizeLine=16777216:=AL
 have tb0:C9 FC lpos H TA:=.inl hT
 refine⟨_,(Af (Ay (i:=1) scLaw.nd (Aq C_l_many hr3 Ai (Aa (pv 0) Ab))) (Af (Ay (i:=2) scLaw.nd (Aq C_l_deeds hr4 Ai (Aa (pv 0) (Aa (pv 1) Ab)))) (Af (Ay (i:=3) scLaw.nd (Aq C_l_looks hr4 Ai (Aa (pv 0) (Aa (pv 1) Ab)))) (Af (Ay (i:=4) scLaw.nd (Aw K1 (Aw GQ Ac (pv 1)) Ac)) (Af (Ay (i:=5) scLaw.nd (Aq C_l_set hr3 Ai (Aa (pv 0) (Aa Ac (Aa (pv 1) Ab))))) (Af (Ay (i:=6) scLaw.nd (Br G_l_grown hrG (by rfl) D_l_grown.m D_l_grown.F.kp D_l_grown.b .nil Ai (Aa (pv 0) (Aa Ac (Aa (Bd (Aa (pv 2) (Aa (pv 3) (Aa (pv 4) (Aa (pv 4) Ab))))) (Aa (pv 5) (Aa (Br G_l_draw hr2 (by rfl) D_l_draw.m D_l_draw.F.kp D_l_draw.b .nil Ai (Aa (pv 0) (Aa Ac (Aa Ac (Aa Ac Ab))))) Ab))))))) (Af (Ay (i:=7) scLaw.nd (Aq C_l_set hr3 Ai (Aa (pv 0) (Aa Ac (Aa (pv 1) Ab))))) (Af (AH (AS BA (Br G_l_draw hr2 (by rfl) D_l_draw.m D_l_draw.F.kp D_l_draw.b .nil Ai (Aa (pv 0) (Aa Ac (Aa Ac (Aa Ac Ab))))) Ac (AO _)) (Ah (Ay (i:=7) scLaw.nd (Aw F4 (pv 7) (Aq C_l_ends hrE Ai (Aa (Bd (Aa (pv 2) (Aa (pv 3) (Aa (pv 4) (Aa (pv 4) Ab))))) (Aa (pv 6) (Aa (pv 5) Ab))))))) AD) (Af (Ay (i:=8) scLaw.nd (pv 4)) (Af (AH (AS BA (Br G_l_draw hr2 (by rfl) D_l_draw.m D_l_draw.F.kp D_l_draw.b .nil Ai (Aa (pv 0) (Aa Ac (Aa Ac (Aa Ac Ab))))) Ac (AO _)) (Ah (Ay (i:=8) scLaw.nd (Aq C_l_set hr3 Ai (Aa (pv 0) (Aa Ac (Aa (pv 1) Ab)))))) AD) (Af (Ay (i:=9) scLaw.nd (pv 5)) (Af (AH (AS BA (Br G_l_draw hr2 (by rfl) D_l_draw.m D_l_draw.F.kp D_l_draw.b .nil Ai (Aa (pv 0) (Aa Ac (Aa Ac (Aa Ac Ab))))) Ac (AO _)) (Ah (Ay (i:=9) scLaw.nd (Aw F4 (pv 5) (Aq C_l_set hr3 Ai (Aa (pv 0) (Aa Ac (Aa (pv 1) Ab))))))) AD) (Af (Ay (i:=10) scLaw.nd (Bd (Aa (pv 2) (Aa (pv 3) (Aa (pv 7) (Aa (pv 8) Ab)))))) (Af (Ay (i:=11) scLaw.nd (Cy Ab)) (Af (Ay (i:=12) scLaw.nd (Aq C_l_walk hrK Ai (Aa (pv 10) (Aa (pv 6) (Aa (pv 9) (Aa (pv 11) Ab)))))) (Af (Ay (i:=13) scLaw.nd (Nh ME GE hr3 (by rfl) mE bE .nil Ai (Aa (Nh MC GI hr4 (by rfl) mC bI .nil Ai (Aa (pv 1) (Aa (Aq C_l_copied hr2 Ai (Aa (pv 2) Ab)) (Aa (Aq C_l_copied hr2 Ai (Aa (pv 3) Ab)) Ab)))) (Aa (pv 7) (Aa (pv 8) Ab))))) (Af (Ay (i:=14) scLaw.nd (Aq C_l_plan hrP Ai (Aa (pv 6) Ab))) (Af (Ay (i:=15) scLaw.nd (Aq C_does hr8 GH (Aa (pv 13) (Aa (pv 9) (Aa (pv 14) Ab))))) (Af (AH (PW.pt (F1 (Dp (Cn (Bf oA (by rfl) T.isi Eo (Aa (pv 15) (Aa (Ia (v:=.ty "bool") (by rfl) T.bool Vw rfl) Ab))))) (HU (AS IE (pv 15) (Nj GT (pv 12) Cw (AO _)) (AO _))))) (Ah (Ar De)) AD) (Af (AH (AS GT (pv 12) Cw (AO _)) (Ah (Ay (i:=12) scLaw.nd (Bd (Aa (Bf C2 (by rfl) T.len CG (Aa (pv 11) Ab)) (Aa (Ng Mi Ac) (Aa A0 Ab)))))) AD) (Af (AH (Dp (Cn (Aq C_l_is_asked hr2 Ai (Aa (Aq C_l_asked hr8 Ai (Aa (pv 13) (Aa (pv 9) (Aa (pv 14) Ab)))) (Aa (pv 12) Ab))))) (Ah (Ar De)) AD) (Ah (Ar (Aq C_l_names_asked hr11 Ai (Aa (pv 0) (Aa (pv 10) (Aa (pv 13) (Aa (pv 9) (Aa (pv 6) Ab))))))))))))))))))))))))))))),?_⟩
 refine⟨_,rfl,a,ns,rfl,hS,hn,λm m1 m7=>?_⟩
 have m2:m<=200:=by lia
 refine⟨_,rfl,_,rfl,a,ns,m,rfl,hS,hn,m1,m2,λl1 us ds i1 H1 s1 fr1 e1 i3 dd=>?_⟩
 refine⟨_,rfl,_,rfl,a,ns,m,rfl,s1.seq hS,hn,m1,m2,λl2 ws ls i2 H2 s2 fr2 e2 i4 ll=>?_⟩
 have s02:=s1.trans s2
 refine⟨_,rfl,_,_,rfl,rfl,⟨by lia,by lia,by decide⟩,_,_,rfl,rfl,?_⟩
 have hfar:(1:Int)*2^((m:Int)).toNat-1=((2^m-1:Nat):Int):=by have p:=Es m;rw[A1,one_mul,Int.ofNat_sub (by lia)];push_cast;rfl
 have hfl:2^m-1<2^m:=by have:=Es m;lia
 rw[hfar]
 refine⟨_,rfl,_,rfl,a,ns,_,m,rfl,s02.seq hS,hn,by decide,by decide,m1,m2,λp H3 s3 hp=>?_⟩
 have s03:=s02.trans s3
 refine⟨_,rfl,_,rfl,_,rfl,_,rfl,_,rfl,AW,λdt hdt=>?_⟩
 obtain⟨H4,g0,s4,e4⟩:=Bu (H:=H3) (o:=.tup [.ref l1,.ref l2,.int ((2^m-1:Nat):Int),.int ((2^m-1:Nat):Int)]) hdt
 rw[g0]
 have s04:=s03.trans s4
 have s24:=s3.trans s4
 have dd4:=dd.same (s2.trans s24)
 have ll4:=ll.same s24
 have e14:=s24 _ _ (s2 _ _ e1)
 have e24:=s24 _ _ e2
 have ok:=Vl dd4 ll4 i3 i4 m1 m2
 have lx4:=iN e14 e24 dd4 ll4 i3 i4 m1 m2
 have gr:=lC (ns:=ns) lx4 ok m7
 have D4:Dat H4 dt ⟨ds,ls,2^m-1,2^m-1⟩:=⟨l1,l2,us,ws,e4,e14,e24,dd4.hd,ll4.hl⟩
 have zno:=V4 dd4 ll4
 refine⟨_,rfl,_,rfl,a,ns,_,_,_,rfl,s04.seq hS,hn,by decide,by decide,by decide,by decide,λdz d0 d5=>?_⟩
 obtain⟨d,rfl⟩:∃d:Nat,(d:Int)=dz:=⟨dz.toNat,Ew d0⟩
 have d4:d<=4:=by lia
 have p3:(0+2)*3^d<=13122:=BV (RA _ (Gp (by decide) d4)) (by decide)
 have p4:3*4^d<=768:=BV (RA _ (Gp (by decide) d4)) (by decide)
 refine⟨a,ns,0,d,dt,m,⟨ds,ls,2^m-1,2^m-1⟩,_,p,rfl,s04.seq hS,hn,p3,by lia,D4,gr,hp,λtv t H5 s5 tr0 okt gd ht wt=>?_⟩
 have tr5:=tr0.same lO
 have sz:=Gv t
 have eok:=gr.ok
 have al:=Lg (gd Str.empty)
 have s05:=s04.trans s5
 refine⟨_,rfl,_,rfl,a,ns,_,m,rfl,s05.seq hS,hn,by decide,by decide,m1,m2,λg0 H6 s6 hg0=>?_⟩
 have s06:=s05.trans s6
 have lx6:=lx4.same (s5.trans s6)
 have tr6:=tr5.same s6
 dsimp only
 refine Gz (λσ' H'=>∃g:Nat,σ'=[some (.ref a),some (.int (m:Int)),some (.ref l1),some (.ref l2),some (.int ((2^m-1:Nat):Int)),some (.int (p:Int)),some tv,some (.int (g:Int)),none,none,none,none,none,none,none,none]/\Same H6 H'/\g<2^m) ?_ (λN hN=>?_)
 rotate_left
 ·refine⟨_,rfl,a,ns,_,_,_,rfl,s06.seq hS,hn,by decide,by decide,by decide,by decide,λz z0 z1=>⟨rfl,_,rfl,?_⟩⟩;refine AZ (λ_=>?_) (λ_=>?_)
  ·refine⟨_,rfl,_,rfl,_,rfl,_,rfl,_,rfl,AW,λdt2 hdt2=>?_⟩;have s7:=Same.new (o:=.tup [.ref l1,.ref l2,.int ((2^m-1:Nat):Int),.int ((2^m-1:Nat):Int)]) hdt2;have lx7:=lx6.same s7;refine⟨_,rfl,_,rfl,dt2,tv,m,_,_,t,Str.empty,p,rfl,⟨l1,l2,us,ws,Ae,lx7.h1,lx7.h2,lx7.hd,lx7.hl⟩,eok,hp,tr6.same s7,okt,by lia,gd _,λH8 s8=>⟨_,_,rfl,rfl,?_⟩⟩;rw[E7];exact hN _ _ ⟨_,rfl,s7.trans s8,Rj hg0 (Lo eok t _ p hp)⟩
  exact hN _ _ ⟨g0,rfl,Same.refl _,hg0⟩
 rintro σ H7 ⟨g,rfl,s7,hg⟩
 have s07:=s06.trans s7
 refine⟨_,rfl,?_⟩
 dsimp only
 refine Gz (λσ' H'=>∃k:Nat,σ'=[some (.ref a),some (.int (m:Int)),some (.ref l1),some (.ref l2),some (.int ((2^m-1:Nat):Int)),some (.int (p:Int)),some tv,some (.int (g:Int)),some (.int (k:Int)),none,none,none,none,none,none,none]/\Same H7 H'/\k<2^m) ?_ (λN hN=>?_)
 rotate_left
 ·refine⟨_,rfl,a,ns,_,_,_,rfl,s07.seq hS,hn,by decide,by decide,by decide,by decide,λz z0 z1=>⟨rfl,_,rfl,?_⟩⟩;refine AZ (λ_=>?_) (λ_=>?_)
  ·exact⟨_,rfl,_,rfl,a,ns,_,m,rfl,s07.seq hS,hn,by decide,by decide,m1,m2,λk H8 s8 hk=>hN _ _ ⟨k,rfl,s8,hk⟩⟩
  exact hN _ _ ⟨2^m-1,rfl,Same.refl _,hfl⟩
 rintro σ H8 ⟨k,rfl,s8,hk⟩
 have s08:=s07.trans s8
 refine⟨_,rfl,?_⟩
 dsimp only
 refine Gz (λσ' H'=>∃s:Nat,σ'=[some (.ref a),some (.int (m:Int)),some (.ref l1),some (.ref l2),some (.int ((2^m-1:Nat):Int)),some (.int (p:Int)),some tv,some (.int (g:Int)),some (.int (k:Int)),some (.int (s:Int)),none,none,none,none,none,none]/\Same H8 H'/\s<2^m) ?_ (λN hN=>?_)
 rotate_left
 ·refine⟨_,rfl,a,ns,_,_,_,rfl,s08.seq hS,hn,by decide,by decide,by decide,by decide,λz z0 z1=>⟨rfl,_,rfl,?_⟩⟩;refine AZ (λ_=>?_) (λ_=>?_)
  ·refine⟨_,rfl,_,rfl,_,rfl,a,ns,_,m,rfl,s08.seq hS,hn,by decide,by decide,m1,m2,λk H9 s9 hk=>⟨_,_,rfl,rfl,?_⟩⟩;rw[E7];exact hN _ _ ⟨_,rfl,s9,Rj hp hk⟩
  exact hN _ _ ⟨p,rfl,Same.refl _,hp⟩
 rintro σ H9 ⟨s,rfl,s9,hs⟩
 have s09:=s08.trans s9
 have s69:=(s7.trans s8).trans s9
 refine⟨_,rfl,_,rfl,_,rfl,_,rfl,AW,λdt3 hdt3=>?_⟩
 have sA:=Same.new (o:=.tup [.ref l1,.ref l2,.int (g:Int),.int (k:Int)]) hdt3
 have eA:(upd H9 dt3 (.tup [.ref l1,.ref l2,.int (g:Int),.int (k:Int)])) dt3=some (.tup [.ref l1,.ref l2,.int (g:Int),.int (k:Int)]):=Ae
 generalize (upd H9 dt3 (.tup [.ref l1,.ref l2,.int (g:Int),.int (k:Int)]))=HA at sA eA ⊢
 have s6A:=s69.trans sA
 have s0A:=s09.trans sA
 have lxA:=lx6.same s6A
 have trA:=tr6.same s6A
 have eok2:Ct m ⟨ds,ls,g,k⟩ (pqrL.map (A8 ns 3)):=⟨ok,hg,hk,m7,eok.rd,eok.rl⟩
 have al2:Da (G0 ⟨ds,ls,g,k⟩) t:=al
 have DA:Dat HA dt3 ⟨ds,ls,g,k⟩:=⟨l1,l2,us,ws,eA,lxA.h1,lxA.h2,lxA.hd,lxA.hl⟩
 refine⟨AW,λr hr=>?_⟩
 dsimp only
 refine Gz (λσ' H'=>∃dv:V,σ'=[some (.ref a),some (.int (m:Int)),some (.ref l1),some (.ref l2),some (.int ((2^m-1:Nat):Int)),some (.int (p:Int)),some tv,some (.int (g:Int)),some (.int (k:Int)),some (.int (s:Int)),some (.ref dt3),some (.ref r),some dv,none,none,none]/\Same HA H'/\((Ba ⟨ds,ls,g,k⟩ t Str.empty s 0=none/\dv=.non/\H' r=some (.lst (nV (Bz ⟨ds,ls,g,k⟩ t Str.empty s))))\/∃(i:Nat) (w:Int) (y:Str) (tp:Addr),Ba ⟨ds,ls,g,k⟩ t Str.empty s 0=some (i,w,y)/\dv=.ref tp/\H' tp=some (.tup [.int (i:Int),.int w,.str y]))) ?_ (λN hN=>?_)
 rotate_left
 ·refine⟨_,rfl,_,rfl,_,rfl,_,rfl,dt3,r,tv,m,_,_,t,Str.empty,s,[],HA,rfl,DA,eok2,hs,trA,okt,by lia,al2,Same.new hr,hr,Ae,by show 0+_<=_;lia,λhz HB kB eB=>?_,λi w y tp HB hz kB eB=>?_⟩
  ·exact hN _ _ ⟨.non,rfl,λc u z=>kB c u (Same.new hr _ _ z) (AM z hr),.inl ⟨hz,rfl,eB⟩⟩
  exact hN _ _ ⟨.ref tp,rfl,λc u z=>kB c u (Same.new hr _ _ z) (AM z hr),.inr ⟨i,w,y,tp,hz,rfl,eB⟩⟩
 rintro σ HB ⟨dv,rfl,sAB,due⟩
 have lxB:=lxA.same sAB
 have c1:=lxB.c1
 have c2:=lxB.c2
 have ul:=lxB.hd.len
 have wl':=lxB.hl.len
 refine⟨_,rfl,_,rfl,l1,us,rfl,lxB.h1,by lia,.inl ⟨ds,lxB.hd,λd hd=>by rw[(ok.de d hd).len];exact m2,λlc uc HC sC frC eC aC=>?_⟩⟩
 refine⟨_,rfl,l2,ws,rfl,sC _ _ lxB.h2,by lia,.inr ⟨ls,(lxB.same sC).hl,λd hd=>by rw[ok.lo d hd];exact m2,λlc2 wc HD sD frD eD aD=>?_⟩⟩
 intro cx dx hcx hdx dxn
 obtain⟨HE,g0,sE,eE⟩:=ND (C:=CC) hcx hdx dxn
 rw[g0]
 refine⟨cx,dx,lc,lc2,m,uc,wc,ds,ls,_,rfl,eE,sE _ _ (sD _ _ eC),sE _ _ eD,aC.mono λv t _ q'=>q'.same (sD.trans sE),aD.mono λv t _ q'=>q'.same sE,ok,λHF kF chF=>⟨rfl,?_⟩⟩
 have sDF:Same HD HF:=λc u z=>kF c u (sE _ _ z) (λz'=>by rw[z',hcx]at z;cases z)
 have sBF:=(sC.trans sD).trans sDF
 refine⟨_,rfl,_,rfl,?_⟩
 intro ex dy hex hdy dyn
 obtain⟨HG,g0,sG,eG⟩:=ND (C:=CE) hex hdy dyn
 rw[g0]
 refine⟨ex,dy,cx,g,k,rfl,eG,λHH kH exH=>⟨rfl,?_⟩⟩
 have sFH:Same HF HH:=λc u z=>kH c u (sG _ _ z) (λz'=>by rw[z',hex]at z;cases z)
 have sBH:=sBF.trans sFH
 have sAH:=sAB.trans sBH
 have erH:ErAt CE CC HH ex m ⟨ds,ls,g,k⟩:=⟨dy,cx,exH,chF.same sFH⟩
 refine⟨_,rfl,tv,t,rfl,trA.same sAH,okt,by lia,λpv HI sI plI=>?_⟩
 have sAI:=sAH.trans sI
 have s0I:=s0A.trans sAI
 have tbI:=FV tb0 s0I
 refine⟨_,rfl,_,rfl,_,rfl,ex,m,_,_,pv,t,s,rfl,erH.same sI,eok2,hs,plI,okt,by lia,.inr ⟨al2,tbI,λHJ kt=>?_⟩⟩
 have hdv:decide (dv=V.non)=decide (Ba ⟨ds,ls,g,k⟩ t Str.empty s 0=none):=by rcases due with⟨h1,h2,_⟩ | ⟨i,w,y,tp,h1,h2,_⟩ <;> (rw[h1,h2];simp)
 refine⟨_,rfl,_,rfl,_,rfl,?_⟩
 refine A4 ?_
 refine⟨_,rfl,_,rfl,rfl,rfl,_,rfl,?_⟩
 rw[hdv]
 refine AZ (λz=>absurd z (by simp)) (λ_=>?_)
 dsimp only[A9]
 refine FX (λσ' H'=>∃tp:Addr,σ'=[some (.ref a),some (.int (m:Int)),some (.ref l1),some (.ref l2),some (.int ((2^m-1:Nat):Int)),some (.int (p:Int)),some tv,some (.int (g:Int)),some (.int (k:Int)),some (.int (s:Int)),some (.ref dt3),some (.ref r),some (.ref tp),some (.ref ex),some pv,some (.bl (decide (Ba ⟨ds,ls,g,k⟩ t Str.empty s 0=none)))]/\Same HJ H'/\H' tp=some (.tup (Q0 (Ba ⟨ds,ls,g,k⟩ t Str.empty s 0) (szP t)))) ?_ (λN hN=>?_)
 rotate_left
 ·refine⟨_,rfl,rfl,_,rfl,?_⟩;rcases due with⟨h1,rfl,h3⟩ | ⟨i,w,y,tp,h1,rfl,h3⟩
  ·refine BH ?_;have h3J:=kt.at ((sBH.trans sI) _ _ h3) nofun;refine⟨_,rfl,_,_,rfl,.inl ⟨_,SqL.of h3J,rfl⟩,_,rfl,AW,λtp htp=>hN _ _ ⟨tp,rfl,Same.new htp,?_⟩⟩;rw[Ae,Al,DS,h1];rfl
  refine A4 ?_;exact hN _ _ ⟨tp,rfl,Same.refl _,by rw[h1];exact kt.at ((sBH.trans sI) _ _ h3) nofun⟩
 rintro σ HK ⟨tp,rfl,sK,etp⟩
 obtain⟨i,w1,y,ed,hy⟩:=mV ⟨ds,ls,g,k⟩ t Str.empty s 0 (szP t)
 rw[ed]at etp
 have sn1:Sn HI HK:=kt.sn.tr sK
 have tbK:=FV kt.tb' sK
 refine⟨_,rfl,_,rfl,_,rfl,ex,m,_,_,pv,t,s,rfl,(erH.same sI).sn sn1,eok2,hs,plI.sn sn1,okt,by lia,al2,tbK,λt2 HL kt2 e2'=>⟨_,rfl,t2,tp,i,w1,y,rfl,ed ▸ e2',kt2.at etp nofun,hy,λHM sM=>⟨_,rfl,?_⟩⟩⟩
 refine A4 ?_
 dsimp only[A9]
 have sn2:Sn HI HM:=λc u h n=>sM _ _ (kt2.at (sn1 c u h n) n)
 have snA:Sn HA HM:=λc u h n=>sn2 c u (sAI _ _ h) n
 exact⟨_,rfl,_,rfl,_,rfl,_,rfl,_,rfl,a,dt3,ex,ns,m,_,_,tv,t,s,rfl,XJ (λc u h n=>snA c u (s0A _ _ h) n) hS,hn,DA.sn snA,(erH.same sI).sn sn2,eok2,hs,trA.sn snA,okt,by lia,by lia,gr.dl,gr.ll,zno,q⟩
end
theorem B1 {P:List Value->Prop}(h:∀a0:Value,P [a0]):∀us:List Value,us.length=1->P us
 | [a0],_=>h a0
theorem Cc {P:List Value->Prop}(h:∀a0 a1:Value,P [a0,a1]):∀us:List Value,us.length=2->P us
 | [a0,a1],_=>h a0 a1
theorem Cp {P:List Value->Prop}(h:∀a0 a1 a2:Value,P [a0,a1,a2]):∀us:List Value,us.length=3->P us
 | [a0,a1,a2],_=>h a0 a1 a2
theorem FD {P:List Value->Prop}(h:∀a0 a1 a2 a3:Value,P [a0,a1,a2,a3]):∀us:List Value,us.length=4->P us
 | [a0,a1,a2,a3],_=>h a0 a1 a2 a3
theorem T4 {P:List Value->Prop}(h:∀a0 a1 a2 a3 a4:Value,P [a0,a1,a2,a3,a4]):∀us:List Value,us.length=5->P us
 | [a0,a1,a2,a3,a4],_=>h a0 a1 a2 a3 a4
theorem iT {P:List Value->Prop}(h:∀a0 a1 a2 a3 a4 a5:Value,P [a0,a1,a2,a3,a4,a5]):∀us:List Value,us.length=6->P us
 | [a0,a1,a2,a3,a4,a5],_=>h a0 a1 a2 a3 a4 a5
open PySem.W (Frag OpenLaw clsIn codeHdIn codeIn excIn findCls findIn fnOf hasDictIn isFn keepIn kin_not makesIn mg_none_of mg_of mroIn nsIn plainGet plainOver readsIn specialIn subIn takesIn)
abbrev nA (K:Frag)(x:Str)(f:Addr):Prop:=nsIn K mainGlobals x=some (some (.ref f))
abbrev lK (K:Frag)(f:Addr)(x q:Str)(s:Stmt)(oc:Value)(od:Option Addr)(kV dc pm:Value)(an:Option Addr)(cd ct:Value)(sl:Array (Option Value)):Prop:=K.lookup f=some ⟨oc,od,.func (fnOf x q (Du s) (Cf s) (Ak s) .none kV dc pm an cd ct),sl⟩
def all_mk {l:OpenLaw}{w:World}{K:Frag}{h:Heap}{mg:Str->Option Value}{fa GE NN C CE CP CS CD CL CA cK TA f1 f2 f3 f4 f5 f6 f7 f8 f9 f10 f11 f12 f13 f14 f15 f16 f17 f18 f19 f20 f21 f22 f23 f24 f25 f26 f27 f28 f29 f30 f31 f32 f33 f34 f35 f36 f37 f38 f39 f40 f41 f42 f43 f44 f45 f46 f47 f48 f49 f50 f51 f52 f53 f54 f55 f56 f57 f58 f59 f60 f61 f62 f63 f64 f65 f66 f67 f68 f69 f70 f71 f72 f73 f74 f75 f76 f77 f78 f79 f80:Addr}(X:K.In h)(G:h.Ns mainGlobals mg)(hfa:mg "law" = some (.ref fa))
  {od27 an27 od62 an62 od70 an70:Option Addr}{sl27 sl62 sl70:Array (Option Value)}{oc27 kV27 dc27 pm27 cd27 ct27 oc62 kV62 dc62 pm62 cd62 ct62 oc70 kV70 dc70 pm70 cd70 ct70 uW uS uN uR:Value}{TD:Addr}{ocTD:Value}{odTD:Option Addr}{nnTD:Nat}{slTD:Array (Option Value)}
  (q1:Qf K "set_of" Hy f1)
  (q2:Qf K "worlds_of" Hw f2)
  (q3:Qf K "least_of" MM f3)
  (q4:Qf K "within" MB f4)
  (q5:Qf K "without" MA f5)
  (q6:Qf K "can_do" M6 f6)
  (q7:Qf K "after" M8 f7)
  (q8:Qf K "parts" JP f8)
  (q9:Qf K "check_can" J9 f9)
  (q10:Qf K "led_to" MJ f10)
  (q11:Qf K "check_many" M5 f11)
  (q12:Qf K "check_steps" J7 f12)
  (q13:Qf K "check_name" M4 f13)
  (q14:Qf K "check_price" M1 f14)
  (q15:Qf K "check_table" J6 f15)
  (q16:Qf K "check_entry" J8 f16)
  (q17:Qf K "read_deeds" JO f17)
  (q18:Qf K "read_looks" MG f18)
  (q19:Qf K "parted" MH f19)
  (q20:Qf K "doable_sets" HQ f20)
  (q21:Qf K "rows_in" MF f21)
  (q22:Qf K "check_ways" J5 f22)
  (q23:Qf K "walked" Hx f23)
  (q24:Qf K "does" J4 f24)
  (q25:Qf K "check_names" M3 f25)
  (q26:Qf K "led_on" MK f26)
  (a27:nA K "check_row" f27)(l27:lK K f27 "check_row" "check_row" HR oc27 od27 kV27 dc27 pm27 an27 cd27 ct27 sl27)(c27:codeIn K cd27 "check_row" = true)(k27:keepIn K (.ref f27)=true)
  (q28:Qf K "faults" M0 f28)
  (q29:Qf K "answered" M7 f29)
  (q30:Qf K "_law_cell" HN f30)
  (q31:Qf K "_law_draw" Ei f31)
  (q32:Qf K "_law_sign" MR f32)
  (q33:Qf K "_law_words" FY f33)
  (q34:Qf K "_law_price" JT f34)
  (q35:Qf K "_law_entry" MX f35)
  (q36:Qf K "_law_deeds" JZ f36)
  (q37:Qf K "_law_told" MQ f37)
  (q38:Qf K "_law_looks" JU f38)
  (q39:Qf K "_law_set" JS f39)
  (q40:Qf K "_law_list" Ft f40)
  (q41:Qf K "_law_table" GB f41)
  (q42:Qf K "_law_copied" J0 f42)
  (q43:Qf K "_law_held" MW f43)
  (q44:Qf K "_law_many" MT f44)
  (q45:Qf K "_law_whole" MO f45)
  (q46:Qf K "_law_deep" JY f46)
  (q47:Qf K "_law_plan" GC f47)
  (q48:Qf K "_law_ways" JQ f48)
  (q49:Qf K "_law_why" MN f49)
  (q50:Qf K "_law_behind" HP f50)
  (q51:Qf K "_law_part" GF f51)
  (q52:Qf K "_law_walk" JR f52)
  (q53:Qf K "_law_can" MY f53)
  (q54:Qf K "_law_grown" GG f54)
  (q55:Qf K "_law_grown_ways" JW f55)
  (q56:Qf K "_law_ends" JX f56)
  (q57:Qf K "_law_longer" JV f57)
  (q58:Qf K "_law_asked" MZ f58)
  (q59:Qf K "_law_is_asked" MU f59)
  (q60:Qf K "_law_unknown" MP f60)
  (q61:Qf K "_law_names_asked" MS f61)
  (a62:nA K "law" f62)(l62:lK K f62 "law" "law" Hz oc62 od62 kV62 dc62 pm62 an62 cd62 ct62 sl62)(c62:codeIn K cd62 "law" = true)(k62:keepIn K (.ref f62)=true)
  (aC:nsIn K mainGlobals "Chart" = some (some (.ref C)))(pgC:plainGet K C Str.empty=true)(hdC:hasDictIn K C=true)(poC:plainOver K C=true)(saC:findIn K (.ref C) "__setattr__" = some (some (.builtin "object.__setattr__")))(mkC:makesIn K C=true)(kcC:keepIn K (.ref C)=true)
  (nC_1:findIn K (.ref C) "many" = some none)
  (nC_2:findIn K (.ref C) "prices" = some none)
  (nC_3:findIn K (.ref C) "told_outs" = some none)
  (nC_4:findIn K (.ref C) "told_answers" = some none)
  (nC_5:findIn K (.ref C) "told_parts" = some none)
  (nC_6:findIn K (.ref C) "told_doable" = some none)
  (aCE:nsIn K mainGlobals "Errand" = some (some (.ref CE)))(pgCE:plainGet K CE Str.empty=true)(hdCE:hasDictIn K CE=true)(poCE:plainOver K CE=true)(saCE:findIn K (.ref CE) "__setattr__" = some (some (.builtin "object.__setattr__")))(mkCE:makesIn K CE=true)(kcCE:keepIn K (.ref CE)=true)
  (nCE_1:findIn K (.ref CE) "told_chart" = some none)
  (nCE_2:findIn K (.ref CE) "told_goal" = some none)
  (nCE_3:findIn K (.ref CE) "told_keep" = some none)
  (aCP:nsIn K mainGlobals "Plan" = some (some (.ref CP)))(pgCP:plainGet K CP Str.empty=true)(hdCP:hasDictIn K CP=true)(poCP:plainOver K CP=true)(saCP:findIn K (.ref CP) "__setattr__" = some (some (.builtin "object.__setattr__")))(mkCP:makesIn K CP=true)(kcCP:keepIn K (.ref CP)=true)
  (aCS:nsIn K mainGlobals "Stop" = some (some (.ref CS)))(pgCS:plainGet K CS Str.empty=true)(hdCS:hasDictIn K CS=true)(poCS:plainOver K CS=true)(saCS:findIn K (.ref CS) "__setattr__" = some (some (.builtin "object.__setattr__")))(mkCS:makesIn K CS=true)(kcCS:keepIn K (.ref CS)=true)
  (aCD:nsIn K mainGlobals "Do" = some (some (.ref CD)))(pgCD:plainGet K CD Str.empty=true)(hdCD:hasDictIn K CD=true)(poCD:plainOver K CD=true)(saCD:findIn K (.ref CD) "__setattr__" = some (some (.builtin "object.__setattr__")))(mkCD:makesIn K CD=true)(kcCD:keepIn K (.ref CD)=true)
  (nCD_1:findIn K (.ref CD) "deed" = some none)
  (nCD_2:findIn K (.ref CD) "rest" = some none)
  (aCL:nsIn K mainGlobals "Look" = some (some (.ref CL)))(pgCL:plainGet K CL Str.empty=true)(hdCL:hasDictIn K CL=true)(poCL:plainOver K CL=true)(saCL:findIn K (.ref CL) "__setattr__" = some (some (.builtin "object.__setattr__")))(mkCL:makesIn K CL=true)(kcCL:keepIn K (.ref CL)=true)
  (nCL_1:findIn K (.ref CL) "look" = some none)
  (nCL_2:findIn K (.ref CL) "told_ways" = some none)
  (aCA:nsIn K mainGlobals "Astray" = some (some (.ref CA)))
  (xCA_1:Lm K CA=true)
  (xCA_2:keepIn K (.ref CA)=true)
  (xCA_3:findIn K (.ref CA) "__getattribute__" = some (some (.builtin "BaseException.__getattribute__")))
  (xCA_4:findIn K (.ref CA) "__getattr__" = some none)
  (xCA_5:subIn K (.ref CA) (.type "BaseException")=some true)
  (xCA_6:hasDictIn K CA=true)
  (xCA_7:findIn K (.ref CA) "name" = some none)
  (xCA_8:findIn K (.ref CA) "world" = some none)
  (xCA_9:readsIn K GE (.type "type")=true)
  (xCA_10:findCls K (.ref GE) (.type "type") "__init__" = some (.val (.builtin "ValueError.__init__")))
  (xCA_11:specialIn K (.ref GE) "__getattribute__" = some (some (.builtin "type.__getattribute__")))
  (xCA_12:findIn K (.ref CA) "__setattr__" = some (some (.builtin "object.__setattr__")))
  (xCA_13:(clsIn K CA).any (λcd=>Md cd.mro)=true)
  (xCA_14:subIn K (.ref CA) (.type "object")=some true)
  (xCA_15:subIn K (.ref CA) (.ref CA)=some true)
  (q63:Qm K C "__init__" "Chart.__init__" J2 f63)
  (q64:Qm K C "out_sets" "Chart.out_sets" PY f64)
  (q65:Qm K C "answer_sets" "Chart.answer_sets" Qc f65)
  (q66:Qm K C "doable" "Chart.doable" P5 f66)
  (q67:Qm K C "check_deed" "Chart.check_deed" Qa f67)
  (q68:Qm K C "check_look" "Chart.check_look" P9 f68)
  (q69:Qm K C "check_step" "Chart.check_step" P8 f69)
  (a70:findIn K (.ref CE) "__init__" = some (some (.ref f70)))(i70:isFn K (.ref f70)=true)(l70:K.lookup f70=some ⟨oc70,od70,.func (fnOf "__init__" "Errand.__init__" (Du J3) (Cf J3) (Ak J3) (.ref TD) kV70 dc70 pm70 an70 cd70 ct70),sl70⟩)(c70:codeIn K cd70 "Errand.__init__" = true)(k70:keepIn K (.ref f70)=true)
  (q71:Qm K CE "chart" "Errand.chart" P4 f71)
  (q72:Qm K CE "goal" "Errand.goal" P3 f72)
  (q73:Qm K CE "keep" "Errand.keep" P2 f73)
  (q74:Qm K CS "goes_on" "Stop.goes_on" PX f74)
  (q75:Qm K CD "__init__" "Do.__init__" P6 f75)
  (q76:Qm K CD "goes_on" "Do.goes_on" P7 f76)
  (q77:Qm K CL "__init__" "Look.__init__" MI f77)
  (q78:Qm K CL "ways" "Look.ways" PZ f78)
  (q79:Qm K CL "goes_on" "Look.goes_on" P0 f79)
  (q80:Qm K CA "__init__" "Astray.__init__" Qb f80)
  (aG:nsIn K mainGlobals "GropeError" = some (some (.ref GE)))(aE:nsIn K mainGlobals "NoName" = some (some (.ref NN)))(oG:excIn K GE Fe "ValueError.__new__" = true)(oE:excIn K NN Fe "ValueError.__new__" = true)(sE:mroIn K NN GE=true)
  (gW:nsIn K mainGlobals "MOST_WORLDS" = some (some uW))(vW:I0 uW=some (.int 200))
  (gS:nsIn K mainGlobals "MOST_STEPS" = some (some uS))(vS:I0 uS=some (.int 40))
  (gN:nsIn K mainGlobals "MOST_SIGNS" = some (some uN))(vN:I0 uN=some (.int 30))
  (gR:nsIn K mainGlobals "MOST_PRICE" = some (some uR))(vR:I0 uR=some (.int 1000000000))
  (oS1:findIn K (.ref CS) "__init__" = some (some (.builtin "object.__init__")))
  (oS2:subIn K (.ref CS) (.type "object")=some true)
  (ngS:plainGet K CS "__class__" = true)
  (naS:findIn K (.ref CS) "__class__" = some (some (.builtin "object.__class__")))
  (nmS:mroIn K CS (.type "object")=some true)
  (ngD:plainGet K CD "__class__" = true)
  (naD:findIn K (.ref CD) "__class__" = some (some (.builtin "object.__class__")))
  (nmD:mroIn K CD (.type "object")=some true)
  (ngL:plainGet K CL "__class__" = true)
  (naL:findIn K (.ref CL) "__class__" = some (some (.builtin "object.__class__")))
  (nmL:mroIn K CL (.type "object")=some true)
  (nsp:specialIn K (.builtin "object.__class__") "__get__" = some (some (.builtin "getset_descriptor.__get__")))
  (ntk:takesIn K (.builtin "object.__class__")=some true)
  (knSD:kin_not K CS CD=true)
  (knSL:kin_not K CS CL=true)
  (knDS:kin_not K CD CS=true)
  (knDL:kin_not K CD CL=true)
  (knLS:kin_not K CL CS=true)
  (knLD:kin_not K CL CD=true)
  (xWR:findIn K (.ref CA) "row" = some none)
  (xWY:findIn K (.ref CA) "why" = some none)
  (xNA:subIn K (.ref NN) (.ref CA)=some false)
  (hcd0:cd27=.ref cK)
  (hcT:codeHdIn K cK TA=true)
  (hKT:K.lookup TA=none)
  (lTD:K.lookup TD=some ⟨ocTD,odTD,.seq #[.none] nnTD,slTD⟩)
  (z1:nsIn K mainGlobals "len" = some none)(z2:nsIn K mainGlobals "range" = some none)(z3:nsIn K mainGlobals "tuple" = some none)(z4:nsIn K mainGlobals "zip" = some none)(z5:nsIn K mainGlobals "isinstance" = some none)(z6:nsIn K mainGlobals "str" = some none)(z7:nsIn K mainGlobals "list" = some none)(z8:nsIn K mainGlobals "set" = some none)(z9:nsIn K mainGlobals "all" = some none)(z10:nsIn K mainGlobals "sorted" = some none)(z11:nsIn K mainGlobals "int" = some none)(z12:nsIn K mainGlobals "bool" = some none)(z13:nsIn K mainGlobals "sum" = some none)(z14:nsIn K mainGlobals "max" = some none)(z15:nsIn K mainGlobals "enumerate" = some none)(z16:nsIn K mainGlobals "dict" = some none)(z17:nsIn K mainGlobals "ValueError" = some none)(z18:nsIn K mainGlobals "min" = some none)(z19:nsIn K mainGlobals "reversed" = some none) :
  (K.lookup TA=none/\∃c,codeHdIn K c TA=true)/\∃fd:FuncData,(∀(s:Shared) (v:Value),BindsTo s fd ⟨[v],[]⟩ [("_law_script",v)])/\∀base:Heap,K.In base->base.Ns mainGlobals mg->Bm mg base->FnOk l.prog w K mg base CX0 31 fa fd ["_law_script"] (JJ K TA):=by
 have e:=hfa.symm.trans (Dz X G a62)
 cases e
 have T:Bl mg:=⟨CO X G z1,CO X G z2,CO X G z3,CO X G z4,CO X G z5,CO X G z6,CO X G z7,CO X G z8,CO X G z9,CO X G z10,CO X G z11,CO X G z12,CO X G z13,CO X G z14,CO X G z15,CO X G z16,CO X G z17,CO X G z18,CO X G z19⟩
 obtain⟨tW,eW⟩:=(Nb vW:RelV (.int 200) uW)
 rw[eW]at gW
 obtain⟨tS,eS⟩:=(Nb vS:RelV (.int 40) uS)
 rw[eS]at gS
 obtain⟨tN,eN⟩:=(Nb vN:RelV (.int 30) uN)
 rw[eN]at gN
 obtain⟨tR,eR⟩:=(Nb vR:RelV (.int 1000000000) uR)
 rw[eR]at gR
 have F27:=IS l27 c27 k27
 have F62:=IS l62 c62 k62
 obtain⟨_,F63,b63,m63⟩:=q63.df KG λ_ _ _ _ _ _=>FD λ_ _ _ _=>rfl
 obtain⟨_,F64,b64,m64⟩:=q64.df Kj λ_ _ _ _ _ _=>Cc λ_ _=>rfl
 obtain⟨_,F65,b65,m65⟩:=q65.df ID λ_ _ _ _ _ _=>Cc λ_ _=>rfl
 obtain⟨_,F66,b66,m66⟩:=q66.df Iv λ_ _ _ _ _ _=>Cc λ_ _=>rfl
 obtain⟨_,F67,b67,m67⟩:=q67.df IB λ_ _ _ _ _ _=>Cc λ_ _=>rfl
 obtain⟨_,F68,b68,m68⟩:=q68.df IA λ_ _ _ _ _ _=>Cc λ_ _=>rfl
 obtain⟨_,F69,b69,m69⟩:=q69.df KN λ_ _ _ _ _ _=>Cc λ_ _=>rfl
 have F70:=lQ l70 c70
 have b70:=F70.binds (ps:=["self", "chart", "goal", "keep"]) lTD λ_ _ _ _ _ _=>FD λ_ _ _ _=>⟨_,rfl,rfl⟩
 obtain⟨_,F71,b71,m71⟩:=q71.df Ir λ_ _ _ _ _ _=>B1 λ_=>rfl
 obtain⟨_,F72,b72,m72⟩:=q72.df KJ λ_ _ _ _ _ _=>B1 λ_=>rfl
 obtain⟨_,F73,b73,m73⟩:=q73.df KI λ_ _ _ _ _ _=>B1 λ_=>rfl
 obtain⟨_,F74,b74,m74⟩:=q74.df Nl λ_ _ _ _ _ _=>B1 λ_=>rfl
 obtain⟨_,F75,b75,m75⟩:=q75.df KL λ_ _ _ _ _ _=>Cp λ_ _ _=>rfl
 obtain⟨_,F76,b76,m76⟩:=q76.df Np λ_ _ _ _ _ _=>B1 λ_=>rfl
 obtain⟨_,F77,b77,m77⟩:=q77.df Kk λ_ _ _ _ _ _=>Cp λ_ _ _=>rfl
 obtain⟨_,F78,b78,m78⟩:=q78.df Ii λ_ _ _ _ _ _=>B1 λ_=>rfl
 obtain⟨_,F79,b79,m79⟩:=q79.df Nm λ_ _ _ _ _ _=>B1 λ_=>rfl
 obtain⟨_,F80,b80,m80⟩:=q80.df KU λ_ _ _ _ _ _=>FD λ_ _ _ _=>rfl
 have XCA:XC K CA f80 GE:=⟨xCA_1,EB.mp m80.fn,xCA_2,xCA_3,xCA_4,xCA_5,xCA_6,xCA_7,xCA_8,xCA_9,xCA_10,xCA_11,xCA_12,xCA_13,xCA_14,xCA_15,m80.at_⟩
 have CC:Cls K C:=⟨pgC,hdC,poC,saC⟩
 have CCE:Cls K CE:=⟨pgCE,hdCE,poCE,saCE⟩
 have CCP:Cls K CP:=⟨pgCP,hdCP,poCP,saCP⟩
 have CCS:Cls K CS:=⟨pgCS,hdCS,poCS,saCS⟩
 have CCD:Cls K CD:=⟨pgCD,hdCD,poCD,saCD⟩
 have CCL:Cls K CL:=⟨pgCL,hdCL,poCL,saCL⟩
 obtain⟨_,D1⟩:=q1.df X G GJ λ_ _ _ _ _ _=>B1 λ_=>rfl
 obtain⟨_,D2⟩:=q2.df X G Ic λ_ _ _ _ _ _=>B1 λ_=>rfl
 obtain⟨_,D3⟩:=q3.df X G Kn λ_ _ _ _ _ _=>B1 λ_=>rfl
 obtain⟨_,D4⟩:=q4.df X G Kg λ_ _ _ _ _ _=>Cc λ_ _=>rfl
 obtain⟨_,D5⟩:=q5.df X G Kf λ_ _ _ _ _ _=>Cc λ_ _=>rfl
 obtain⟨_,D6⟩:=q6.df X G KS λ_ _ _ _ _ _=>Cp λ_ _ _=>rfl
 obtain⟨_,D7⟩:=q7.df X G KY λ_ _ _ _ _ _=>Cp λ_ _ _=>rfl
 obtain⟨_,D8⟩:=q8.df X G Ki λ_ _ _ _ _ _=>Cp λ_ _ _=>rfl
 obtain⟨_,D9⟩:=q9.df X G IC λ_ _ _ _ _ _=>Cp λ_ _ _=>rfl
 obtain⟨_,D10⟩:=q10.df X G Kl λ_ _ _ _ _ _=>Cc λ_ _=>rfl
 obtain⟨_,D11⟩:=q11.df X G Iz λ_ _ _ _ _ _=>B1 λ_=>rfl
 obtain⟨_,D12⟩:=q12.df X G Iy λ_ _ _ _ _ _=>Cc λ_ _=>rfl
 obtain⟨_,D13⟩:=q13.df X G KQ λ_ _ _ _ _ _=>B1 λ_=>rfl
 obtain⟨_,D14⟩:=q14.df X G KO λ_ _ _ _ _ _=>B1 λ_=>rfl
 obtain⟨_,D15⟩:=q15.df X G Iw λ_ _ _ _ _ _=>Cp λ_ _ _=>rfl
 obtain⟨_,D16⟩:=q16.df X G KR λ_ _ _ _ _ _=>Cp λ_ _ _=>rfl
 obtain⟨_,D17⟩:=q17.df X G Ig λ_ _ _ _ _ _=>Cc λ_ _=>rfl
 obtain⟨_,D18⟩:=q18.df X G Ie λ_ _ _ _ _ _=>Cc λ_ _=>rfl
 obtain⟨_,D19⟩:=q19.df X G Ih λ_ _ _ _ _ _=>B1 λ_=>rfl
 obtain⟨_,D20⟩:=q20.df X G Iu λ_ _ _ _ _ _=>Cc λ_ _=>rfl
 obtain⟨_,D21⟩:=q21.df X G Kh λ_ _ _ _ _ _=>B1 λ_=>rfl
 obtain⟨_,D22⟩:=q22.df X G KM λ_ _ _ _ _ _=>B1 λ_=>rfl
 obtain⟨_,D23⟩:=q23.df X G Fx λ_ _ _ _ _ _=>Cp λ_ _ _=>rfl
 obtain⟨_,D24⟩:=q24.df X G GP λ_ _ _ _ _ _=>Cp λ_ _ _=>rfl
 obtain⟨_,D25⟩:=q25.df X G KP λ_ _ _ _ _ _=>Cc λ_ _=>rfl
 obtain⟨_,D26⟩:=q26.df X G Km λ_ _ _ _ _ _=>FD λ_ _ _ _=>rfl
 have D27:Df K mg "check_row" HR ["errand", "number", "one", "some"] f27 _:=⟨F27,Dz X G a27,F27.binds λ_ _ _ _ _ _=>FD λ_ _ _ _=>rfl⟩
 obtain⟨_,D28⟩:=q28.df X G KH λ_ _ _ _ _ _=>Cp λ_ _ _=>rfl
 obtain⟨_,D29⟩:=q29.df X G KW λ_ _ _ _ _ _=>Cc λ_ _=>rfl
 obtain⟨_,D30⟩:=q30.df X G GO λ_ _ _ _ _ _=>Cc λ_ _=>rfl
 obtain⟨_,D31⟩:=q31.df X G Dg λ_ _ _ _ _ _=>FD λ_ _ _ _=>rfl
 obtain⟨_,D32⟩:=q32.df X G Ku λ_ _ _ _ _ _=>B1 λ_=>rfl
 obtain⟨_,D33⟩:=q33.df X G GK λ_ _ _ _ _ _=>Cp λ_ _ _=>rfl
 obtain⟨_,D34⟩:=q34.df X G Il λ_ _ _ _ _ _=>Cc λ_ _=>rfl
 obtain⟨_,D35⟩:=q35.df X G KC λ_ _ _ _ _ _=>Cp λ_ _ _=>rfl
 obtain⟨_,D36⟩:=q36.df X G KD λ_ _ _ _ _ _=>Cc λ_ _=>rfl
 obtain⟨_,D37⟩:=q37.df X G Kr λ_ _ _ _ _ _=>Cp λ_ _ _=>rfl
 obtain⟨_,D38⟩:=q38.df X G Ky λ_ _ _ _ _ _=>Cc λ_ _=>rfl
 obtain⟨_,D39⟩:=q39.df X G Kv λ_ _ _ _ _ _=>Cp λ_ _ _=>rfl
 obtain⟨_,D40⟩:=q40.df X G E5 λ_ _ _ _ _ _=>B1 λ_=>rfl
 obtain⟨_,D41⟩:=q41.df X G Fy λ_ _ _ _ _ _=>Cc λ_ _=>rfl
 obtain⟨_,D42⟩:=q42.df X G KE λ_ _ _ _ _ _=>B1 λ_=>rfl
 obtain⟨_,D43⟩:=q43.df X G KB λ_ _ _ _ _ _=>B1 λ_=>rfl
 obtain⟨_,D44⟩:=q44.df X G Kx λ_ _ _ _ _ _=>B1 λ_=>rfl
 obtain⟨_,D45⟩:=q45.df X G Ko λ_ _ _ _ _ _=>B1 λ_=>rfl
 obtain⟨_,D46⟩:=q46.df X G GN λ_ _ _ _ _ _=>FD λ_ _ _ _=>rfl
 obtain⟨_,D47⟩:=q47.df X G GM λ_ _ _ _ _ _=>B1 λ_=>rfl
 obtain⟨_,D48⟩:=q48.df X G Kp λ_ _ _ _ _ _=>B1 λ_=>rfl
 obtain⟨_,D49⟩:=q49.df X G Ij λ_ _ _ _ _ _=>Cp λ_ _ _=>rfl
 obtain⟨_,D50⟩:=q50.df X G E6 λ_ _ _ _ _ _=>Cp λ_ _ _=>rfl
 obtain⟨_,D51⟩:=q51.df X G E4 λ_ _ _ _ _ _=>FD λ_ _ _ _=>rfl
 obtain⟨_,D52⟩:=q52.df X G Ik λ_ _ _ _ _ _=>FD λ_ _ _ _=>rfl
 obtain⟨_,D53⟩:=q53.df X G Iq λ_ _ _ _ _ _=>Cc λ_ _=>rfl
 obtain⟨_,D54⟩:=q54.df X G Fz λ_ _ _ _ _ _=>T4 λ_ _ _ _ _=>rfl
 obtain⟨_,D55⟩:=q55.df X G Io λ_ _ _ _ _ _=>iT λ_ _ _ _ _ _=>rfl
 obtain⟨_,D56⟩:=q56.df X G Ip λ_ _ _ _ _ _=>Cp λ_ _ _=>rfl
 obtain⟨_,D57⟩:=q57.df X G Im λ_ _ _ _ _ _=>Cp λ_ _ _=>rfl
 obtain⟨_,D58⟩:=q58.df X G KF λ_ _ _ _ _ _=>Cp λ_ _ _=>rfl
 obtain⟨_,D59⟩:=q59.df X G Kz λ_ _ _ _ _ _=>Cc λ_ _=>rfl
 obtain⟨_,D60⟩:=q60.df X G Kq λ_ _ _ _ _ _=>Cp λ_ _ _=>rfl
 obtain⟨_,D61⟩:=q61.df X G Kw λ_ _ _ _ _ _=>T4 λ_ _ _ _ _=>rfl
 refine⟨⟨hKT,cK,hcT⟩,fnOf "law" "law" (Du Hz) (Cf Hz) (Ak Hz) .none kV62 dc62 pm62 an62 cd62 ct62,λs v=>.of_eq rfl,λbase _ _ hbm=>?_⟩
 have R':Er K mg GE NN:=⟨Dz X G aG,Dz X G aE,oG,oE,sE⟩
 have M:Mc mg:=⟨⟨_,Dz X G gW⟩,⟨_,Dz X G gS⟩,⟨_,Dz X G gN⟩,⟨_,Dz X G gR⟩⟩
 have L:Cl K C:=⟨CC,nC_1,nC_2,nC_3,nC_4,nC_5,nC_6⟩
 have Gso:=ZR (P:=l.prog) (w:=w) (mg:=mg) (base:=base) D1.F
 have Gwo:=ZD (P:=l.prog) (w:=w) (base:=base) D2.F T
 have Gcm:=bU (P:=l.prog) (w:=w) (base:=base) D11.F M
 have Gcn:=bT (P:=l.prog) (w:=w) (base:=base) D13.F T M
 have Gcp:=bR (P:=l.prog) (w:=w) (base:=base) D14.F M
 have Gct:=bN (P:=l.prog) (w:=w) (base:=base) D15.F T
 have Gce:=bW (P:=l.prog) (w:=w) (base:=base) D16.F T
 have Gcs:=bO  D12.F T M ⟨D13,Gcn⟩ ⟨D14,Gcp⟩
 have Grl:=ZV  D18.F T ⟨D15,Gct⟩
 have Grd:=ZW  D17.F T ⟨D15,Gct⟩ ⟨D16,Gce⟩ ⟨D1,Gso⟩
 have Gpa:=ZZ  D19.F T ⟨D1,Gso⟩
 have Gdo:=bG  D20.F T ⟨D1,Gso⟩
 have Gin:=aN  F63 L T D11 Gcm D12 Gcs D17 Grd D18 Grl D19 Gpa D20 Gdo
 have Gce':=bZ (P:=l.prog) (w:=w) (base:=base) D30.F T
 have GdD:=aX  D31.F ⟨D30,Gce'⟩
 have Gdr:=aY GdD
 have Gsg:=ZQ (P:=l.prog) (w:=w) (mg:=mg) (base:=base) D32.F
 have Gws:=ZE  D33.F T ⟨D31,GdD⟩ ⟨D32,Gsg⟩
 have Gpr:=ZX  D34.F ⟨D31,Gdr⟩ ⟨D30,Gce'⟩
 have Gen:=aW  D35.F T ⟨D31,Gdr⟩
 have Gtl:=ZM  D37.F ⟨D31,Gdr⟩
 have Gmy:=Z5  D44.F ⟨D31,Gdr⟩
 have Gst:=ZS  D39.F T ⟨D31,Gdr⟩
 have Gds:=bJ  D36.F T ⟨D33,Gws⟩ ⟨D31,Gdr⟩ ⟨D35,Gen⟩ ⟨D34,Gpr⟩
 have Glk:=Z6  D38.F T ⟨D33,Gws⟩ ⟨D31,Gdr⟩ ⟨D37,Gtl⟩ ⟨D34,Gpr⟩
 have Ghe:=aO (P:=l.prog) (w:=w) (base:=base) D43.F T
 have Gcy:=bK  D42.F ⟨D43,Ghe⟩
 have Gcd:=bX (P:=l.prog) (w:=w) (base:=base) F67 L R'
 have Gos:=Z1  F64 L R' b67 m67 Gcd
 have Gck:=bP (P:=l.prog) (w:=w) (base:=base) F69 L R'
 have Gdm:=bF  F66 L R' b69 m69 Gck
 have Glt:=aB  D10.F ⟨D2,Gwo⟩
 have Gwt:=ZF (P:=l.prog) (w:=w) (mg:=mg) (base:=base) D5.F
 have Gls:=aJ  D3.F T ⟨D2,Gwo⟩
 have Gwi:=ZG (P:=l.prog) (w:=w) (mg:=mg) (base:=base) D4.F
 have Gcn':=cA  D6.F L ⟨D4,Gwi⟩ b66 m66 Gdm
 have Gcc:=bY  D9.F ⟨D6,Gcn'⟩
 have LE:Hk K CE:=⟨CCE,nCE_1,nCE_2,nCE_3⟩
 have LD:JB K CD:=⟨CCD,nCD_1,nCD_2⟩
 have LL:Gr K CL:=⟨CCL,nCL_1,nCL_2⟩
 have IP:OH K ⟨CS,CD,CL⟩:=⟨⟨hdCS,ngS,naS,nsp,ntk,nmS⟩,⟨hdCD,ngD,naD,nsp,ntk,nmD⟩,⟨hdCL,ngL,naL,nsp,ntk,nmL⟩,knSD,knSL,knDS,knDL,knLS,knLD⟩
 have mS:=Dz X G aCS
 have mD:=Dz X G aCD
 have mL:=Dz X G aCL
 have Gaf:=cH  D7.F L b64 m64 Gos ⟨D9,Gcc⟩ ⟨D10,Glt⟩
 have Gcl:=bV (P:=l.prog) (w:=w) (base:=base) F68 L R'
 have Gas':=cE  F65 L R' b68 m68 Gcl
 have Gpt:=ZY  D8.F L b65 m65 Gas' ⟨D9,Gcc⟩
 have Gei:=aS (P:=l.prog) (w:=w) (mg:=mg) (base:=base) F70 LE
 have Gec:=aV (P:=l.prog) (w:=w) (mg:=mg) (base:=base) (C:=C) F71 LE
 have Geg:=aU (P:=l.prog) (w:=w) (mg:=mg) (base:=base) (C:=C) F72 LE
 have Gek:=aR (P:=l.prog) (w:=w) (mg:=mg) (base:=base) (C:=C) F73 LE
 have Gsgo:=ZP (P:=l.prog) (w:=w) (mg:=mg) (base:=base) F74
 have Gdi:=aZ (P:=l.prog) (w:=w) (mg:=mg) (base:=base) F75 LD
 have Gdgo:=bB (P:=l.prog) (w:=w) (mg:=mg) (base:=base) F76 LD
 have Gcw:=bM (P:=l.prog) (w:=w) (base:=base) D22.F T
 have Glw:=Z7 (P:=l.prog) (w:=w) (base:=base) F78 LL T
 have Glgo:=Z9  F79 LL b78 m78 Glw
 have Gki:=Z8  F77 LL T ⟨D22,Gcw⟩
 have VGS:MV l.prog w K mg base CS "goes_on" 1 Ht:=⟨CCS,_,_,m74,Gsgo,b74⟩
 have VGD:MV l.prog w K mg base CD "goes_on" 1 (Hu CD):=⟨CCD,_,_,m76,Gdgo,b76⟩
 have VGL:MV l.prog w K mg base CL "goes_on" 2 (Fs CL):=⟨CCL,_,_,m79,Glgo,b79⟩
 have Gri:=ZU (P:=l.prog) (w:=w) (base:=base) (C:=⟨CS,CD,CL⟩) D21.F T VGS VGD VGL
 have Glo:=aH  (C:=⟨CS,CD,CL⟩) D26.F T L IP LD LL mD ⟨D7,Gaf⟩ ⟨D8,Gpt⟩
 have Gaw:=cF  (C:=⟨CS,CD,CL⟩) D29.F T L LL b78 m78 Glw b65 m65 Gas'
 have mA:=Dz X G aCA
 have Gai:=cG (P:=l.prog) (w:=w) (base:=base) F80 XCA xWR xWY R'
 have Gfa:=aQ  (C:=⟨CS,CD,CL⟩) D28.F T L LE IP LD LL mS mD mL b71 m71 Gec b73 m73 Gek b72 m72 Geg ⟨D5,Gwt⟩ b66 m66 Gdm ⟨D29,Gaw⟩
 have Gcr:=bQ  (C:=⟨CS,CD,CL⟩) F27 T XCA mA b80 Gai ⟨D28,Gfa⟩ ⟨D3,Gls⟩ hcd0 hcT hbm
 have Gcns:=bS  (C:=⟨CS,CD,CL⟩) D25.F T L IP LD LL mD mL b67 m67 Gcd b68 m68 Gcl
 have Gwk:=ZK  (C:=⟨CS,CD,CL⟩) D23.F T LE b71 m71 Gec ⟨D21,Gri⟩ ⟨D25,Gcns⟩ ⟨D26,Glo⟩ ⟨D27,Gcr⟩
 have Gdoe:=bC  (C:=⟨CS,CD,CL⟩) D24.F XCA mA xNA D23 Gwk
 have Gwh:=ZI (P:=l.prog) (w:=w) (base:=base) D45.F T
 have Gli:=aA (P:=l.prog) (w:=w) (base:=base) D40.F T
 have Gta:=ZO (P:=l.prog) (w:=w) (mg:=mg) (base:=base) D41.F
 have Gpn:=TF  (C:=⟨CS,CD,CL⟩) D47.F D47 ⟨mkCS,oS1,oS2,kcCS⟩ mS ⟨mkCD,m75.at_,m75.fn,kcCD⟩ mD b75 Gdi ⟨mkCL,m77.at_,m77.fn,kcCL⟩ mL b77 Gki
 have Gbh:=cB  D50.F ⟨D40,Gli⟩ ⟨D41,Gta⟩
 have Gpl:=Z0  D51.F T ⟨D40,Gli⟩ ⟨D41,Gta⟩
 have Gwy:=ZJ (P:=l.prog) (w:=w) (mg:=mg) (base:=base) D48.F
 have Gwhy:=ZH  D49.F ⟨D41,Gta⟩ ⟨D48,Gwy⟩
 have Gwl:=TC  D52.F T D52 D40 Gli D49 Gwhy D50 Gbh D51 Gpl
 have Gee:=TM  D56.F D56 D50 Gbh D51 Gpl
 have Gdp:=bH  D46.F ⟨D30,Gce'⟩
 have Gca:=aK  D53.F ⟨D40,Gli⟩
 have Ggr:=TK  D54.F T D54 (λn G=>aP (P:=l.prog) (w:=w) (base:=base) D55.F T ⟨D40,Gli⟩ ⟨D46,Gdp⟩ D51 Gpl ⟨D54,G⟩) D55 D46 Gdp D53 Gca D50 Gbh D41 Gta
 have Glg:=TH (P:=l.prog) (w:=w) (mg:=mg) (base:=base) D57.F D57
 have Gsk:=cC  (C:=⟨CS,CD,CL⟩) D58.F T XCA xWR xWY mA ⟨D23,Gwk⟩
 have Gia:=aM  D59.F T ⟨D45,Gwh⟩
 have Gun:=ZL  (C:=⟨CS,CD,CL⟩) D60.F R' D23 Gwk D24 Gdoe
 have Gna:=Z4  (C:=⟨CS,CD,CL⟩) D61.F ⟨D33,Gws⟩ ⟨D60,Gun⟩ ⟨D47,(Gpn 6)⟩ ⟨D57,(Glg 5)⟩
 exact aL (C:=⟨CS,CD,CL⟩) F62 T ⟨mkC,m63.at_,m63.fn,kcC⟩ (Dz X G aC) b63 Gin ⟨mkCE,a70,i70,kcCE⟩ (Dz X G aCE) b70 Gei ⟨D42,Gcy⟩ ⟨D44,Gmy⟩ ⟨D36,Gds⟩ ⟨D38,Glk⟩ ⟨D39,Gst⟩ D31 Gdr D54 (Ggr 5) ⟨D56,(Gee 5)⟩ ⟨D52,(Gwl 5)⟩ ⟨D47,(Gpn 5)⟩ ⟨D24,Gdoe⟩ ⟨D58,Gsk⟩ ⟨D59,Gia⟩ ⟨D61,Gna⟩
def walk {l:PySem.W.OpenLaw}{q:Program}{loose:List Str}{XP:(Str->Option Value)->Heap->Prop}{YP:World->Heap->Prop}{d:DefRec}{K:Params->W.Frag}{TA:Addr}(hn:l.most=some 63)(hdf:d.params.defaults=[])
  (hY:∀(w:World) (h:Heap),YP w h->(K w.params).In h/\h.get? TA=some (PySem.W.tabObj #[]))
  (F:∀(w:World) (mg:Str->Option Value) (fa:Addr) (h:Heap),(K w.params).In h->h.Ns mainGlobals mg->mg d.name=some (.ref fa)->((K w.params).lookup TA=none/\∃c,PySem.W.codeHdIn (K w.params) c TA=true) /\ ∃fd:FuncData,(∀(s:Shared) (u:Value),BindsTo s fd ⟨[u],[]⟩ [("_law_script",u)])/\∀base:Heap,(K w.params).In base->base.Ns mainGlobals mg->Bm mg base->FnOk l.prog w (K w.params) mg base CX0 31 fa fd ["_law_script"] (JJ (K w.params) TA)) :
  PySem.W.WalkO q loose XP YP l.row.toRowW d [] (λf vs=>PySem.call f vs):=
 L2.walk_tbl (n:=63) (k:=31) (x := "_law_script") (T:=TA) (CX:=λ_=>CX0) (sp:=λw=>JJ (K w.params) TA) hn (by decide) hdf ⟨rfl,by decide,by decide⟩ hY F (λ_ _ a ns hl hS hT=>⟨a,ns,rfl,hS,hl,hT,λ_=>rfl⟩) λ_ _ _ _ _ z=>z
end K40
namespace PySem.W.Fast
/-- names that are taken: the twins that would have them are made for the walk alone,and it goes without them as well -/
def tw3096691363411738488:=0
def tw9497726127380789969:=0
def tw12140028214443368683:=0
def tw4585666191132532915:=0
def tw19245777485003342:=0
def tw9971979524045837476:=0
def tw472572055729907891:=0
def tw12148891030306616772:=0
def tw3558564574713712256:=0
def tw710736676437887987:=0
def tw7160643783164763596:=0
def tw5461122594847500100:=0
def tw6208539984910893330:=0
def tw16930623326364041150:=0
def tw16402042371967701482:=0
def tw16826410047944255984:=0
def tw5132937766348302042:=0
def tw3161319629143495126:=0
def tw9237328446763225690:=0
def tw18150643337264575151:=0
def tw7838601278770936993:=0
def tw18276199020862221903:=0
def tw9387217281875250621:=0
def tw15078157036695516673:=0
def tw13486861202071125062:=0
def tw8098937835726646026:=0
def tw1679256961479539655:=0
def tw13166174703974791911:=0
def tw12223200988092899966:=0
def tw6933721597929808670:=0
def tw14053565276660741969:=0
def tw12111867476998537641:=0
def tw15598409214623210373:=0
def tw12464806372924756418:=0
def tw2501686831041203611:=0
def tw16142454339909269751:=0
def tw17366250422830269121:=0
def tw14019947331594100046:=0
def tw13120367170803496220:=0
def tw4457942900417620833:=0
def tw14837882659151721108:=0
def tw9914220931993691562:=0
def tw2156090092929467484:=0
def tw8924553594107925362:=0
def tw1360065410237773187:=0
def tw9750073746898765003:=0
def tw13306276024767090020:=0
def tw2334762270643520920:=0
def tw10961222441354613641:=0
def tw8711869558415629348:=0
def tw4786955351941095832:=0
def tw2593203715413491473:=0
def tw18022201972757929401:=0
def tw6424867773423203258:=0
def tw6105245674871600255:=0
def tw9225472799563086276:=0
def tw7132797302235826241:=0
def tw4303809265570365108:=0
def tw6064560688600852423:=0
def tw3648790452502131232:=0
def tw4317182037053610534:=0
def tw3965501077570675913:=0
def tw14414987596711722007:=0
def tw10015288745918225343:=0
def tw7923037266086648023:=0
def tw10369092734614715992:=0
def tw16279750715545941427:=0
def tw17499020367169841919:=0
def tw993210388795616347:=0
def tw6833870666145002095:=0
def tw17282382173743416170:=0
def tw17311074237976745211:=0
def tw1223721968491498842:=0
def tw15586939024967739818:=0
def tw15227841794356658347:=0
def tw7621546015445226715:=0
def tw6039834168260052677:=0
def tw5923195834441912556:=0
def tw16268762145506960137:=0
def tw7431675126707890731:=0
def tw5170574768805762239:=0
def tw15336239809023703706:=0
def tw8634304089913180739:=0
def tw9492536343750325690:=0
def tw1321538645119291436:=0
def tw460312288787242912:=0
def tw6802536633157087117:=0
def tw7144086220456637225:=0
def tw13331104745038425896:=0
def tw4294247546035821374:=0
def tw1373488508367419167:=0
def tw14021363168830926008:=0
def tw14135452631776571466:=0
def tw7580997808170296166:=0
def tw11712184226456061803:=0
def tw1251682932512794282:=0
def tw5488929785045789762:=0
def tw13330194157030309:=0
def tw12717491017338140945:=0
def tw3847732315017535642:=0
def tw11759059482915144647:=0
def tw10885780419715477540:=0
def tw12843009647250597501:=0
def tw17013441753602023823:=0
def tw1089282821271166086:=0
def tw14346396774238713070:=0
def tw8067645886478176480:=0
def tw10615490195911140368:=0
def tw10793780568194748189:=0
def tw2451447078258674657:=0
def tw4004949490662049250:=0
def tw17545390830049154187:=0
def tw2547202689404309178:=0
def tw12440085819829145732:=0
def tw15092041992346835617:=0
def tw11969948951248610926:=0
def tw17169691700905204842:=0
def tw3726957708429066824:=0
def tw17379968976705799733:=0
def tw17369197017475730415:=0
def tw9015457599879392045:=0
def tw7758439742298495884:=0
def tw16801500722993835849:=0
def tw6807361590738059471:=0
def tw5867232434701097705:=0
def tw5635953202700155888:=0
def tw15171513827776775652:=0
def tw13368288191528462298:=0
def tw11720266351095925058:=0
def tw2205806008612692382:=0
def tw13704356252543917980:=0
def tw7800803356064406997:=0
end PySem.W.Fast
open PySem PySem.W PyProof.Rows
set_option maxRecDepth 100000 in
set_option maxHeartbeats 0 in
theorem PySem.Challenge.cw_grope_k40_astray_holds : PySem.Challenge.rw_grope_k40_astray.Holds := by
 w_on;o_law;k_head;(case hw=>w_witness2)
 k_fill
 refine K40.walk (l:=PySem.Challenge.rw_grope_k40_astray) rfl rfl (λw h Y=>⟨PySem.W.km_in_of Y,PySem.W.km_tabs_of Y _ mem_cons_self⟩) ?F
 case F=>
  intro w mg fa h KX G hmg
  refine' K40.all_mk KX G hmg ?q1 ?q2 ?q3 ?q4 ?q5 ?q6 ?q7 ?q8 ?q9 ?q10 ?q11 ?q12 ?q13 ?q14 ?q15 ?q16 ?q17 ?q18 ?q19 ?q20 ?q21 ?q22 ?q23 ?q24 ?q25 ?q26 ?a27 ?l27 ?c27 ?k27 ?q28 ?q29 ?q30 ?q31 ?q32 ?q33 ?q34 ?q35 ?q36 ?q37 ?q38 ?q39 ?q40 ?q41 ?q42 ?q43 ?q44 ?q45 ?q46 ?q47 ?q48 ?q49 ?q50 ?q51 ?q52 ?q53 ?q54 ?q55 ?q56 ?q57 ?q58 ?q59 ?q60 ?q61 ?a62 ?l62 ?c62 ?k62 ?aC ?pgC ?hdC ?poC ?saC ?mkC ?kcC ?nC_1 ?nC_2 ?nC_3 ?nC_4 ?nC_5 ?nC_6 ?aCE ?pgCE ?hdCE ?poCE ?saCE ?mkCE ?kcCE ?nCE_1 ?nCE_2 ?nCE_3 ?aCP ?pgCP ?hdCP ?poCP ?saCP ?mkCP ?kcCP ?aCS ?pgCS ?hdCS ?poCS ?saCS ?mkCS ?kcCS ?aCD ?pgCD ?hdCD ?poCD ?saCD ?mkCD ?kcCD ?nCD_1 ?nCD_2 ?aCL ?pgCL ?hdCL ?poCL ?saCL ?mkCL ?kcCL ?nCL_1 ?nCL_2 ?aCA ?xCA_1 ?xCA_2 ?xCA_3 ?xCA_4 ?xCA_5 ?xCA_6 ?xCA_7 ?xCA_8 ?xCA_9 ?xCA_10 ?xCA_11 ?xCA_12 ?xCA_13 ?xCA_14 ?xCA_15 ?q63 ?q64 ?q65 ?q66 ?q67 ?q68 ?q69 ?a70 ?i70 ?l70 ?c70 ?k70 ?q71 ?q72 ?q73 ?q74 ?q75 ?q76 ?q77 ?q78 ?q79 ?q80 ?aG ?aE ?oG ?oE ?sE ?gW ?vW ?gS ?vS ?gN ?vN ?gR ?vR ?oS1 ?oS2 ?ngS ?naS ?nmS ?ngD ?naD ?nmD ?ngL ?naL ?nmL ?nsp ?ntk ?knSD ?knSL ?knDS ?knDL ?knLS ?knLD ?xWR ?xWY ?xNA ?hcd0 ?hcT ?hKT ?lTD ?z1 ?z2 ?z3 ?z4 ?z5 ?z6 ?z7 ?z8 ?z9 ?z10 ?z11 ?z12 ?z13 ?z14 ?z15 ?z16 ?z17 ?z18 ?z19
  all_goals (try unfold K40.nA)
  all_goals (try unfold K40.lK)
  case q1|q2|q3|q4|q5|q6|q7|q8|q9|q10|q11|q12|q13|q14|q15|q16|q17|q18|q19|q20|q21|q22|q23|q24|q25|q26=>refine' .mk ?a ?l ?c ?k;case a | l | c | k=>k_is
  case a27|l27|c27|k27=>k_is
  case q28|q29|q30|q31|q32|q33|q34|q35|q36|q37|q38|q39|q40|q41|q42|q43|q44|q45|q46|q47|q48|q49|q50|q51|q52|q53|q54|q55|q56|q57|q58|q59|q60|q61=>refine' .mk ?a ?l ?c ?k;case a | l | c | k=>k_is
  case a62|l62|c62|k62|aC|pgC|hdC|poC|saC|mkC|kcC|nC_1|nC_2|nC_3|nC_4|nC_5|nC_6|aCE|pgCE|hdCE|poCE|saCE|mkCE|kcCE|nCE_1|nCE_2|nCE_3|aCP|pgCP|hdCP|poCP|saCP|mkCP|kcCP|aCS|pgCS|hdCS|poCS|saCS|mkCS|kcCS|aCD|pgCD|hdCD|poCD|saCD|mkCD|kcCD|nCD_1|nCD_2|aCL|pgCL|hdCL|poCL|saCL|mkCL|kcCL|nCL_1|nCL_2|aCA=>k_is
  case q63|q64|q65|q66|q67|q68|q69=>refine' .mk ?a ?i ?l ?c ?k;case a | i | l | c | k=>k_is
  case a70|i70|l70|c70|k70=>k_is
  case q71|q72|q73|q74|q75|q76|q77|q78|q79|q80=>refine' .mk ?a ?i ?l ?c ?k;case a | i | l | c | k=>k_is
  case aG|aE=>k_is
  case oG|oE=>k_exc
  (case sE=>first | rfl | (with_unfolding_all rfl) | exact Eq.refl true)
  (case gW=>k_is)
  (case vW=>first | rfl | decide +kernel | k_is)
  (case gS=>k_is)
  (case vS=>first | rfl | decide +kernel | k_is)
  (case gN=>k_is)
  (case vN=>first | rfl | decide +kernel | k_is)
  (case gR=>k_is)
  (case vR=>first | rfl | decide +kernel | k_is)
  case oS1|oS2|ngS|naS|nmS|ngD|naD|nmD|ngL|naL|nmL|nsp|ntk=>k_is
  case knSD|knSL|knDS|knDL|knLS|knLD=>kin_no
  case xWR|xWY|xNA=>k_is
  (case hcd0=>rfl)
  case hcT|hKT=>first | k_is | kernel_rfl | rfl
  case lTD|z1|z2|z3|z4|z5|z6|z7|z8|z9|z10|z11|z12|z13|z14|z15|z16|z17|z18|z19=>k_is
  case xCA_1|xCA_2|xCA_3|xCA_4|xCA_5|xCA_6|xCA_7|xCA_8|xCA_9|xCA_10|xCA_11|xCA_12|xCA_13|xCA_14|xCA_15=>first | k_is | k_exc | rfl | (with_unfolding_all rfl) | decide +kernel
#print axioms PySem.Challenge.cw_grope_k40_astray_holds
